import Derived.Test.YtjfgmdiafhkbgaaAuJr
import Derived.Test.YtjfgmdiafhkbgaaAuJa
import Derived.Deep.DeepCutAuto
import Derived.Deep.RegionHeld3
import Derived.Deep.CutBlock
import Derived.BigQuiet
namespace Go.Proofs.Ytjfgmdiafhkbgaa
open Go.RowKit Go.MapKept
set_option maxRecDepth 8000
set_option linter.unusedSimpArgs false

theorem drewN_of {B : Nat} {a w V : World} (h : Below B a w) (hv : ∃ m, V = w.drewN m) : Below B a V := by
  obtain ⟨m, rfl⟩ := hv
  exact below_drewN h m
set_option maxHeartbeats 16000000 in
theorem auditJudges_walk {w : World} {v : Value} {l : List Ev} (hr : Rv w v l) (hll : l.length ≤ 1048576) (hf : ∀ e ∈ l, e.fit) (hnil : ∀ n cap, v = .slice none n cap → n = 0 ∧ cap = 0) {e : Ev} {q : Option Addr} {cq : Nat} (he : Tx w (.slice q e.ts.length cq) e.ts) (hef : e.fit) :
    Calls Try.prog 5 #[v, e.v (.slice q e.ts.length cq)] w fun e w' => e = .returned (.bool true) ∧ Below w.heap.size w w' := by
  obtain ⟨L, hL, hSrc, hT⟩ := hr.srv hnil
  obtain ⟨p, cap, rfl, hcap⟩ := hr.shape
  obtain ⟨ek, eo, en, el, ej, eb, ei, ec, es, er, ew, ex, et⟩ := e
  dsimp only [Ev.v] at he ⊢
  have hej := i64_le hef.jo
  have hFx : ∀ W, Calls Try.prog 10 #[] W fun e w' => e = .returned (.bool true) ∧ Below W.heap.size W w' := fixed_any
  have HFx := hide hFx
  clear hFx
  have hb0 := below_alloc w (.cells #[.int .i64 ek, .int .i64 eo, .int .i64 en, .int .i64 el, .int .i64 ej, .int .i64 eb, .int .i64 ei, .int .i64 ec, .int .i64 es, .int .i64 er, .int .u64 ew, .string ex, .slice q et.length cq] 43)
  have HA := hide (first_any (hr.below hb0) hf)
  have HX0 : Hid ((w.alloc (.cells #[.int .i64 ek, .int .i64 eo, .int .i64 en, .int .i64 el, .int .i64 ej, .int .i64 eb, .int .i64 ei, .int .i64 ec, .int .i64 es, .int .i64 er, .int .u64 ew, .string ex, .slice q et.length cq] 43)).heap[w.heap.size]? = some (.cells #[.int .i64 ek, .int .i64 eo, .int .i64 en, .int .i64 el, .int .i64 ej, .int .i64 eb, .int .i64 ei, .int .i64 ec, .int .i64 es, .int .i64 er, .int .u64 ew, .string ex, .slice q et.length cq] 43 (0, 0))) := hide (heap_alloc_new w _)
  have hLl : L.length = l.length := by rw [← hL, List.length_map]
  have HLl := hide hLl
  have HL := hide hL
  have HFit := hide hf
  have HEF := hide hef
  have HSrc := hide (hSrc.below hb0)
  have HT := hide (hT.below hb0)
  have HE := hide (he.below hb0)
  have HR := hide (hr.below hb0)
  have HB0 := hide hb0
  clear hr hf hnil hSrc hT hL hLl he hef hb0
  generalize hAE : allE l = AE at *
  generalize hbb : (!(allL l).isEmpty) = ab at *
  have HAE := hide hAE
  have Hab := hide hbb
  clear hAE hbb
  obtain ⟨fr0, fa0, hfs⟩ : ∃ a b, fs l = (a, b) := ⟨_, _, rfl⟩
  rw [hfs] at HA
  clear hfs
  dsimp only at HA
  go_enter Try.func5, Try.ntmps5
  go_wp2_with fail
  refine HA.out.mono ?_
  rintro ev w1 ⟨rfl, hb1⟩
  generalize hw0 : w.alloc (.cells #[.int .i64 ek, .int .i64 eo, .int .i64 en, .int .i64 el, .int .i64 ej, .int .i64 eb, .int .i64 ei, .int .i64 ec, .int .i64 es, .int .i64 er, .int .u64 ew, .string ex, .slice q et.length cq] 43) = w0 at *
  have hX1 : w1.heap[w.heap.size]? = some (.cells #[.int .i64 ek, .int .i64 eo, .int .i64 en, .int .i64 el, .int .i64 ej, .int .i64 eb, .int .i64 ei, .int .i64 ec, .int .i64 es, .int .i64 er, .int .u64 ew, .string ex, .slice q et.length cq] 43 (0, 0)) := (hb1.block _ (lt_of_block HX0.out)).trans HX0.out
  have HX1 := hide hX1
  have HB1 := hide hb1
  clear hb1 HA HX0 hw0 hX1
  generalize hbx : w.heap.size = bx at *
  have Hbx := hide hbx
  have HX2 := hide ((Below.heap_alloc w1 (.cells #[.int .i64 (fr0 : Int), .int .i64 (fa0 : Int)] 25) _ (lt_of_block HX1.out)).trans HX1.out)
  have HB2 := hide (below_of HB1.out (below_alloc w1 (.cells #[.int .i64 (fr0 : Int), .int .i64 (fa0 : Int)] 25)))
  clear hbx
  go_upto_region 2 with fail
  go_cut [40] (fun u wc => (u = .bool true ∨ (u = .bool false ∧ Hid (ab = false ∧ AE = 0 ∧ (1 ≤ ej ∧ ej ≤ 8) ∧ l.length ≠ 65536))) ∧ w1.alloc (.cells #[.int .i64 (fr0 : Int), .int .i64 (fa0 : Int)] 25) = wc)
  case first =>
    as_aux_lemma =>
    have c4 : (w1.alloc (.cells #[.int .i64 (fr0 : Int), .int .i64 (fa0 : Int)] 25)).cell? ⟨bx, 4, none⟩ = some (.int .i64 ej) := by simp [World.cell?, HX2.out]
    cases ab with
    | true =>
      as_aux_lemma =>
      clear c4
      go_wp2_with fail
      go_meet
      case rel => exact ⟨.inl rfl, rfl⟩
    | false =>
      as_aux_lemma =>
      by_cases h0 : AE = 0
      · subst h0
        by_cases h1 : ej < 1
        · go_wp2_with fail
          go_meet
          case rel => exact ⟨.inl rfl, rfl⟩
        · by_cases h2 : 8 < ej
          · go_wp2_with fail
            go_meet
            case rel => exact ⟨.inl rfl, rfl⟩
          · by_cases h3 : l.length = 65536
            · have k3 : ((l.length : Int) == 65536) = true := by simp; omega
              clear h3
              go_wp2_with fail
              go_meet
              case rel => exact ⟨.inl rfl, rfl⟩
            · have k3 : ((l.length : Int) == 65536) = false := beq_eq_false_iff_ne.2 (by omega)
              have HQ : Hid (false = false ∧ (0 : Int) = 0 ∧ (1 ≤ ej ∧ ej ≤ 8) ∧ l.length ≠ 65536) := hide ⟨rfl, rfl, ⟨by omega, by omega⟩, h3⟩
              clear h3
              go_wp2_with fail
              go_meet
              case rel => exact ⟨.inr ⟨rfl, HQ⟩, rfl⟩
      · have k0 : (AE != 0) = true := by simpa using h0
        clear c4 h0
        go_wp2_with fail
        go_meet
        case rel => exact ⟨.inl rfl, rfl⟩
  case rest =>
  obtain ⟨hor, rfl⟩ := hcut
  rcases hor with rfl | ⟨rfl, HQ⟩
  · go_wp2_with fail
    refine (HFx.out _).mono ?_
    rintro ev w2 ⟨rfl, hb2⟩
    have HB3 := hide ((HB0.out.trans (HB2.out.mono (by rw [← Hbx.out]; exact HB0.out.size))).trans (hb2.mono (by rw [← Hbx.out]; exact Nat.le_trans HB0.out.size HB2.out.size)))
    clear hb2
    go_wp2_with fail
    go_ret
    exact ⟨rfl, by rw [Hbx.out]; exact HB3.out⟩
  have HBw : Hid (Below w.heap.size w (w1.alloc (.cells #[.int .i64 (fr0 : Int), .int .i64 (fa0 : Int)] 25))) := hide (by rw [Hbx.out]; exact HB0.out.trans (HB2.out.mono (by rw [← Hbx.out]; exact HB0.out.size)))
  generalize w1.alloc (.cells #[.int .i64 (fr0 : Int), .int .i64 (fa0 : Int)] 25) = w2 at *
  have hAL : allL l = [] := by
    have h1 := Hab.out
    rw [HQ.out.1] at h1
    simpa using h1
  have hE0 : allE l = 0 := HAE.out.trans HQ.out.2.1
  have h65 : l.length ≤ 65536 := (allE_zero hE0).1
  have HPure := hide (fun (hk : ek = 5 ∨ ek = 6 ∨ ek = 7) (hno : ∀ k, k < l.length → (l[k]!).k ≠ 4 ∧ (l[k]!).k ≠ 14) => judges_pure (e := ⟨ek, eo, en, el, ej, eb, ei, ec, es, er, ew, ex, et⟩) hE0 hAL HQ.out.2.2.2 HQ.out.2.2.1 hk hno)
  clear hAL hE0 HQ Hab HAE HX1 HB1 hej
  have HSrc1 : Hid (∀ V, Below w2.heap.size w2 V → Srv V (.slice p l.length cap) L) := hide fun V hb => (HSrc.out.below (below_of HB2.out hb))
  have HT1 : Hid (∀ V, Below w2.heap.size w2 V → EvT V L) := hide fun V hb => HT.out.below (below_of HB2.out hb)
  have HTx : Hid (∀ V, Below w2.heap.size w2 V → EvT V [((⟨ek, eo, en, el, ej, eb, ei, ec, es, er, ew, ex, et⟩ : Ev), Value.slice q et.length cq)]) := hide fun V hb => EvT.one (x := ⟨ek, eo, en, el, ej, eb, ei, ec, es, er, ew, ex, et⟩) (HE.out.below (below_of HB2.out hb))
  have HXc : Hid (∀ V : World, Below w2.heap.size w2 V → V.cell? ⟨bx, 0, none⟩ = some (.int .i64 ek) ∧ V.cell? ⟨bx, 1, none⟩ = some (.int .i64 eo) ∧ V.cell? ⟨bx, 2, none⟩ = some (.int .i64 en) ∧ V.cell? ⟨bx, 3, none⟩ = some (.int .i64 el) ∧ V.cell? ⟨bx, 4, none⟩ = some (.int .i64 ej) ∧ V.cell? ⟨bx, 5, none⟩ = some (.int .i64 eb) ∧ V.cell? ⟨bx, 6, none⟩ = some (.int .i64 ei) ∧ V.cell? ⟨bx, 7, none⟩ = some (.int .i64 ec) ∧ V.cell? ⟨bx, 8, none⟩ = some (.int .i64 es) ∧ V.cell? ⟨bx, 9, none⟩ = some (.int .i64 er) ∧ V.cell? ⟨bx, 10, none⟩ = some (.int .u64 ew) ∧ V.cell? ⟨bx, 11, none⟩ = some (.string ex) ∧ V.cell? ⟨bx, 12, none⟩ = some (.slice q et.length cq)) := hide fun V hb => by
    have h := (hb.block _ (lt_of_block HX2.out)).trans HX2.out
    exact ⟨by simp [World.cell?, h], by simp [World.cell?, h], by simp [World.cell?, h], by simp [World.cell?, h], by simp [World.cell?, h], by simp [World.cell?, h], by simp [World.cell?, h], by simp [World.cell?, h], by simp [World.cell?, h], by simp [World.cell?, h], by simp [World.cell?, h], by simp [World.cell?, h], by simp [World.cell?, h]⟩
  have HRd : Hid (∀ V : World, Below w2.heap.size w2 V → ∀ i, i < l.length → ∃ ab ao, p = some ⟨ab, ao, none⟩ ∧ V.cell? ⟨ab, ao + i * 13, none⟩ = some (.int .i64 (l[i]!).k) ∧ V.cell? ⟨ab, ao + i * 13 + 4, none⟩ = some (.int .i64 (l[i]!).jo) ∧ V.cell? ⟨ab, ao + i * 13 + 5, none⟩ = some (.int .i64 (l[i]!).ba)) := hide fun V hb i hi => by
    obtain ⟨ab, ao, hp, _, hx⟩ := (HR.out.below (below_of HB2.out hb)).at (by omega)
    obtain ⟨q, cq, _, hcs⟩ := hx i hi
    exact ⟨ab, ao, hp, hcs 0 _ rfl, hcs 4 _ rfl, hcs 5 _ rfl⟩
  have hNN : 0 + L.length + [((⟨ek, eo, en, el, ej, eb, ei, ec, es, er, ew, ex, et⟩ : Ev), Value.slice q et.length cq)].length = l.length + 1 := by rw [List.length_singleton]; have := HLl.out; omega
  have HFin : Hid (∀ V u, V.ownsRow w2.heap.size 43 13 u (0 + L.length + [((⟨ek, eo, en, el, ej, eb, ei, ec, es, er, ew, ex, et⟩ : Ev), Value.slice q et.length cq)].length) ([] ++ evs L ++ evs [(⟨ek, eo, en, el, ej, eb, ei, ec, es, er, ew, ex, et⟩, Value.slice q et.length cq)]) → Below w2.heap.size w2 V → Rv V u (l ++ [⟨ek, eo, en, el, ej, eb, ei, ec, es, er, ew, ex, et⟩])) := hide fun V u ho hb => by
    have e1 : [] ++ evs L ++ evs [((⟨ek, eo, en, el, ej, eb, ei, ec, es, er, ew, ex, et⟩ : Ev), Value.slice q et.length cq)] = evs (L ++ [(⟨ek, eo, en, el, ej, eb, ei, ec, es, er, ew, ex, et⟩, Value.slice q et.length cq)]) := by rw [evs_app, List.nil_append]
    have e2 : 0 + L.length + [((⟨ek, eo, en, el, ej, eb, ei, ec, es, er, ew, ex, et⟩ : Ev), Value.slice q et.length cq)].length = (L ++ [((⟨ek, eo, en, el, ej, eb, ei, ec, es, er, ew, ex, et⟩ : Ev), Value.slice q et.length cq)]).length := by rw [List.length_append]; omega
    rw [e1, e2] at ho
    have h := Rv.of_own ho ((HT1.out V hb).app (HTx.out V hb))
    have e3 : (L ++ [((⟨ek, eo, en, el, ej, eb, ei, ec, es, er, ew, ex, et⟩ : Ev), Value.slice q et.length cq)]).map Prod.fst = l ++ [⟨ek, eo, en, el, ej, eb, ei, ec, es, er, ew, ex, et⟩] := by
      rw [List.map_append, HL.out]
      simp
    rwa [e3] at h
  have HA1 : Hid (∀ V u, Rv V u (l ++ [⟨ek, eo, en, el, ej, eb, ei, ec, es, er, ew, ex, et⟩]) → Calls Try.prog 7 #[u] V fun e w' => e = .returned (.tuple #[.agg #[.int .i64 ((fs (l ++ [⟨ek, eo, en, el, ej, eb, ei, ec, es, er, ew, ex, et⟩])).1 : Int), .int .i64 ((fs (l ++ [⟨ek, eo, en, el, ej, eb, ei, ec, es, er, ew, ex, et⟩])).2 : Int)], .bool (!(allL (l ++ [⟨ek, eo, en, el, ej, eb, ei, ec, es, er, ew, ex, et⟩])).isEmpty), .int .i64 (allE (l ++ [⟨ek, eo, en, el, ej, eb, ei, ec, es, er, ew, ex, et⟩]))]) ∧ Below V.heap.size V w') := hide fun V u h => first_any h fun e he => by
    rcases List.mem_append.1 he with he | he
    · exact HFit.out e he
    · rw [List.mem_singleton] at he
      subst he
      exact HEF.out
  have hLb : L.length ≤ 65536 := by have := HLl.out; omega
  have HBx : Hid (bx < w2.heap.size) := hide (lt_of_block HX2.out)
  clear HFit HEF HL HSrc HT HE HR HX2 HB0 HB2 hNN
  go_wp2_with fail
  go_loopw [8, 9, 10, 11] (fun u8 u9 u10 u11 wr => ∃ i : Nat, u11 = .int .i64 (i : Int) ∧ i ≤ l.length ∧ u8 = .int .i64 (lasN l ej i).1 ∧ u9 = .int .i64 (lasN l ej i).2.1 ∧ u10 = .int .i64 (lasN l ej i).2.2 ∧ Hid (Below w2.heap.size w2 wr) ∧ Hid (∀ k, k < i → (l[k]!).k ≠ 4 ∧ (l[k]!).k ≠ 14)) (fun _ _ _ u _ => (l.length - (intOf u).toNat))
  case atStart => exact ⟨0, rfl, Nat.zero_le _, rfl, rfl, rfl, hide (Below.refl _ _), hide (fun k hk => absurd hk (Nat.not_lt_zero _))⟩
  case round =>
    obtain ⟨i, rfl, hi, rfl, rfl, rfl, HBr, HNo⟩ := hrel
    by_cases hil : i < l.length
    · as_aux_lemma =>
      obtain ⟨ab, ao, rfl, c0, c4, c5⟩ := HRd.out _ HBr.out i hil
      obtain ⟨_, _, _, _, x4, x5, _⟩ := HXc.out _ HBr.out
      have hi1 : IntKind.i64.wrap ((i : Int) + 1) = (i : Int) + 1 := by rw [IntKind.wrap_i64]; omega
      have HSu : Hid (lasN l ej (i + 1) = (if (l[i]!).k = 5 then max (lasN l ej i).1 (l[i]!).ba else (lasN l ej i).1, if (l[i]!).jo = ej ∧ ((l[i]!).k = 2 ∨ (l[i]!).k = 5 ∨ (l[i]!).k = 6 ∨ (l[i]!).k = 7 ∨ (l[i]!).k = 9) then (l[i]!).k else (lasN l ej i).2.1, if (l[i]!).jo = ej ∧ ((l[i]!).k = 2 ∨ (l[i]!).k = 5 ∨ (l[i]!).k = 6 ∨ (l[i]!).k = 7 ∨ (l[i]!).k = 9) then (l[i]!).ba else (lasN l ej i).2.2)) := hide rfl
      have HNx : Hid ((l[i]!).k ≠ 4 → (l[i]!).k ≠ 14 → ∀ k, k < i + 1 → (l[k]!).k ≠ 4 ∧ (l[k]!).k ≠ 14) := hide fun h1 h2 k hk => by
        rcases Nat.lt_succ_iff_lt_or_eq.mp hk with h | rfl
        · exact HNo.out k h
        · exact ⟨h1, h2⟩
      obtain ⟨s1, hs1⟩ : ∃ s1, lasN l ej (i + 1) = s1 := ⟨_, rfl⟩
      have HSx := hide hs1
      rw [hs1] at HSu
      clear hs1
      generalize lasN l ej i = s0 at *
      obtain ⟨t, a, b⟩ := s0
      dsimp only at HSu ⊢
      generalize hd : l[i]! = d at *
      have HDd := hide hd
      clear hd
      obtain ⟨dk, do_, dn, dl, dj, db, di, dc, ds, dr, dw, dx, dt⟩ := d
      dsimp only at c0 c4 c5 HSu HNx
      by_cases h14 : dk = 14
      · subst h14
        clear HSu HNx
        go_wp2_with fail
        refine (HFx.out _).mono ?_
        rintro ev w5 ⟨rfl, hb5⟩
        have HB5 := hide (below_of HBw.out (below_of HBr.out hb5))
        clear hb5
        go_wp2_with fail
        go_ret
        exact ⟨rfl, HB5.out⟩
      have k14 : (dk == 14) = false := beq_eq_false_iff_ne.2 h14
      by_cases h4 : dk = 4
      · subst h4
        clear HSu HNx h14
        go_wp2_with fail
        refine (HFx.out _).mono ?_
        rintro ev w5 ⟨rfl, hb5⟩
        have HB5 := hide (below_of HBw.out (below_of HBr.out hb5))
        clear hb5
        go_wp2_with fail
        go_ret
        exact ⟨rfl, HB5.out⟩
      have k4 : (dk == 4) = false := beq_eq_false_iff_ne.2 h4
      have HN1 := hide (HNx.out h4 h14)
      clear HNx h4 h14
      obtain ⟨t', ht'⟩ : ∃ t', t' = if dk = 5 then max t db else t := ⟨_, rfl⟩
      rw [← ht'] at HSu
      go_upto_if 68 with fail
      go_cut [8] (fun u wc => u = .int .i64 t' ∧ wr = wc)
      case first =>
        as_aux_lemma =>
        clear HSu HN1
        by_cases h5 : dk = 5
        · subst h5
          rw [if_pos rfl] at ht'
          by_cases hm : t ≤ db
          · obtain rfl : t' = db := by omega
            clear ht'
            go_wp2_with fail
            all_goals first | (go_meet; case rel => exact ⟨congrArg (Value.int .i64) (by omega), rfl⟩) | (exfalso; omega)
          · obtain rfl : t' = t := by omega
            clear ht'
            go_wp2_with fail
            all_goals first | (go_meet; case rel => exact ⟨congrArg (Value.int .i64) (by omega), rfl⟩) | (exfalso; omega)
        · rw [if_neg h5] at ht'
          subst ht'
          have k5 : (dk == 5) = false := beq_eq_false_iff_ne.2 h5
          clear h5
          go_wp2_with fail
          go_meet
          case rel => exact ⟨rfl, rfl⟩
      case rest =>
      obtain ⟨rfl, rfl⟩ := hcut
      clear ht'
      generalize hDD : decide (dj = ej ∧ (dk = 2 ∨ dk = 5 ∨ dk = 6 ∨ dk = 7 ∨ dk = 9)) = DD
      have HDD := hide hDD
      go_upto_region 12 with fail
      go_cut [123] (fun u wc => u = .bool DD ∧ Hid (Below w2.heap.size w2 wc))
      case first =>
        as_aux_lemma =>
        clear HSu HN1 HDD k4 k14
        refine wp_share (fun a1 a' W => (∃ v0 v1 v2 v3 v4 v5 v6 v7 v8 v9 v10 v11 v12 v13 v14 v15 v16 v17 v18 v19 v20 v21 v22 v23 v24 v25 v26 v27 v28 v29 v30 v31 v32 v33 v34 v35 v36 v37 v38 v39 v40 v41 v42 v43 v44 v45 v46 : Value, a' = putAll a1 [(76, v0), (77, v1), (78, v2), (79, v3), (80, v4), (81, v5), (82, v6), (83, v7), (84, v8), (85, v9), (86, v10), (87, v11), (88, v12), (89, v13), (90, v14), (91, v15), (92, v16), (93, v17), (94, v18), (95, v19), (96, v20), (97, v21), (98, v22), (99, v23), (100, v24), (101, v25), (102, v26), (103, v27), (104, v28), (105, v29), (106, v30), (107, v31), (108, v32), (109, v33), (110, v34), (111, v35), (112, v36), (113, v37), (114, v38), (115, v39), (116, v40), (117, v41), (118, v42), (119, v43), (120, v44), (121, v45), (122, v46), (123, .bool DD)]) ∧ ∃ m, W = wr.drewN m) ?_ ?_
        · intro a1 ha
          exact reg12 hDD (by rw [ha]; rfl) (by rw [ha]; rfl) (by rw [ha]; rfl) (by rw [ha]; exact (by decide : 190 < 195)) hil c0 c4 x4
        · rintro a' W ⟨⟨v0, v1, v2, v3, v4, v5, v6, v7, v8, v9, v10, v11, v12, v13, v14, v15, v16, v17, v18, v19, v20, v21, v22, v23, v24, v25, v26, v27, v28, v29, v30, v31, v32, v33, v34, v35, v36, v37, v38, v39, v40, v41, v42, v43, v44, v45, v46, ha⟩, m, rfl⟩
          replace ha := ha.trans (put_fold (a' := ⟨#[_, _, _, _, _, _, _, _, _, _, _, _, _, _, _, _, _, _, _, _, _, _, _, _, _, _, _, _, _, _, _, _, _, _, _, _, _, _, _, _, _, _, _, _, _, _, _, _, _, _, _, _, _, _, _, _, _, _, _, _, _, _, _, _, _, _, _, _, _, _, _, _, _, _, _, _, _, _, _, _, _, _, _, _, _, _, _, _, _, _, _, _, _, _, _, _, _, _, _, _, _, _, _, _, _, _, _, _, _, _, _, _, _, _, _, _, _, _, _, _, _, _, _, _, _, _, _, _, _, _, _, _, _, _, _, _, _, _, _, _, _, _, _, _, _, _, _, _, _, _, _, _, _, _, _, _, _, _, _, _, _, _, _, _, _, _, _, _, _, _, _, _, _, _, _, _, _, _, _, _, _, _, _, _, _, _, _, _, _, _, _, _, _, _, _], _⟩) rfl)
          replace ha := ha.trans (put_fold (a' := ⟨#[_, _, _, _, _, _, _, _, _, _, _, _, _, _, _, _, _, _, _, _, _, _, _, _, _, _, _, _, _, _, _, _, _, _, _, _, _, _, _, _, _, _, _, _, _, _, _, _, _, _, _, _, _, _, _, _, _, _, _, _, _, _, _, _, _, _, _, _, _, _, _, _, _, _, _, _, _, _, _, _, _, _, _, _, _, _, _, _, _, _, _, _, _, _, _, _, _, _, _, _, _, _, _, _, _, _, _, _, _, _, _, _, _, _, _, _, _, _, _, _, _, _, _, _, _, _, _, _, _, _, _, _, _, _, _, _, _, _, _, _, _, _, _, _, _, _, _, _, _, _, _, _, _, _, _, _, _, _, _, _, _, _, _, _, _, _, _, _, _, _, _, _, _, _, _, _, _, _, _, _, _, _, _, _, _, _, _, _, _, _, _, _, _, _, _], _⟩) rfl)
          replace ha := ha.trans (put_fold (a' := ⟨#[_, _, _, _, _, _, _, _, _, _, _, _, _, _, _, _, _, _, _, _, _, _, _, _, _, _, _, _, _, _, _, _, _, _, _, _, _, _, _, _, _, _, _, _, _, _, _, _, _, _, _, _, _, _, _, _, _, _, _, _, _, _, _, _, _, _, _, _, _, _, _, _, _, _, _, _, _, _, _, _, _, _, _, _, _, _, _, _, _, _, _, _, _, _, _, _, _, _, _, _, _, _, _, _, _, _, _, _, _, _, _, _, _, _, _, _, _, _, _, _, _, _, _, _, _, _, _, _, _, _, _, _, _, _, _, _, _, _, _, _, _, _, _, _, _, _, _, _, _, _, _, _, _, _, _, _, _, _, _, _, _, _, _, _, _, _, _, _, _, _, _, _, _, _, _, _, _, _, _, _, _, _, _, _, _, _, _, _, _, _, _, _, _, _, _], _⟩) rfl)
          replace ha := ha.trans (put_fold (a' := ⟨#[_, _, _, _, _, _, _, _, _, _, _, _, _, _, _, _, _, _, _, _, _, _, _, _, _, _, _, _, _, _, _, _, _, _, _, _, _, _, _, _, _, _, _, _, _, _, _, _, _, _, _, _, _, _, _, _, _, _, _, _, _, _, _, _, _, _, _, _, _, _, _, _, _, _, _, _, _, _, _, _, _, _, _, _, _, _, _, _, _, _, _, _, _, _, _, _, _, _, _, _, _, _, _, _, _, _, _, _, _, _, _, _, _, _, _, _, _, _, _, _, _, _, _, _, _, _, _, _, _, _, _, _, _, _, _, _, _, _, _, _, _, _, _, _, _, _, _, _, _, _, _, _, _, _, _, _, _, _, _, _, _, _, _, _, _, _, _, _, _, _, _, _, _, _, _, _, _, _, _, _, _, _, _, _, _, _, _, _, _, _, _, _, _, _, _], _⟩) rfl)
          replace ha := ha.trans (put_fold (a' := ⟨#[_, _, _, _, _, _, _, _, _, _, _, _, _, _, _, _, _, _, _, _, _, _, _, _, _, _, _, _, _, _, _, _, _, _, _, _, _, _, _, _, _, _, _, _, _, _, _, _, _, _, _, _, _, _, _, _, _, _, _, _, _, _, _, _, _, _, _, _, _, _, _, _, _, _, _, _, _, _, _, _, _, _, _, _, _, _, _, _, _, _, _, _, _, _, _, _, _, _, _, _, _, _, _, _, _, _, _, _, _, _, _, _, _, _, _, _, _, _, _, _, _, _, _, _, _, _, _, _, _, _, _, _, _, _, _, _, _, _, _, _, _, _, _, _, _, _, _, _, _, _, _, _, _, _, _, _, _, _, _, _, _, _, _, _, _, _, _, _, _, _, _, _, _, _, _, _, _, _, _, _, _, _, _, _, _, _, _, _, _, _, _, _, _, _, _], _⟩) rfl)
          replace ha := ha.trans (put_fold (a' := ⟨#[_, _, _, _, _, _, _, _, _, _, _, _, _, _, _, _, _, _, _, _, _, _, _, _, _, _, _, _, _, _, _, _, _, _, _, _, _, _, _, _, _, _, _, _, _, _, _, _, _, _, _, _, _, _, _, _, _, _, _, _, _, _, _, _, _, _, _, _, _, _, _, _, _, _, _, _, _, _, _, _, _, _, _, _, _, _, _, _, _, _, _, _, _, _, _, _, _, _, _, _, _, _, _, _, _, _, _, _, _, _, _, _, _, _, _, _, _, _, _, _, _, _, _, _, _, _, _, _, _, _, _, _, _, _, _, _, _, _, _, _, _, _, _, _, _, _, _, _, _, _, _, _, _, _, _, _, _, _, _, _, _, _, _, _, _, _, _, _, _, _, _, _, _, _, _, _, _, _, _, _, _, _, _, _, _, _, _, _, _, _, _, _, _, _, _], _⟩) rfl)
          replace ha := ha.trans (put_fold (a' := ⟨#[_, _, _, _, _, _, _, _, _, _, _, _, _, _, _, _, _, _, _, _, _, _, _, _, _, _, _, _, _, _, _, _, _, _, _, _, _, _, _, _, _, _, _, _, _, _, _, _, _, _, _, _, _, _, _, _, _, _, _, _, _, _, _, _, _, _, _, _, _, _, _, _, _, _, _, _, _, _, _, _, _, _, _, _, _, _, _, _, _, _, _, _, _, _, _, _, _, _, _, _, _, _, _, _, _, _, _, _, _, _, _, _, _, _, _, _, _, _, _, _, _, _, _, _, _, _, _, _, _, _, _, _, _, _, _, _, _, _, _, _, _, _, _, _, _, _, _, _, _, _, _, _, _, _, _, _, _, _, _, _, _, _, _, _, _, _, _, _, _, _, _, _, _, _, _, _, _, _, _, _, _, _, _, _, _, _, _, _, _, _, _, _, _, _, _], _⟩) rfl)
          replace ha := ha.trans (put_fold (a' := ⟨#[_, _, _, _, _, _, _, _, _, _, _, _, _, _, _, _, _, _, _, _, _, _, _, _, _, _, _, _, _, _, _, _, _, _, _, _, _, _, _, _, _, _, _, _, _, _, _, _, _, _, _, _, _, _, _, _, _, _, _, _, _, _, _, _, _, _, _, _, _, _, _, _, _, _, _, _, _, _, _, _, _, _, _, _, _, _, _, _, _, _, _, _, _, _, _, _, _, _, _, _, _, _, _, _, _, _, _, _, _, _, _, _, _, _, _, _, _, _, _, _, _, _, _, _, _, _, _, _, _, _, _, _, _, _, _, _, _, _, _, _, _, _, _, _, _, _, _, _, _, _, _, _, _, _, _, _, _, _, _, _, _, _, _, _, _, _, _, _, _, _, _, _, _, _, _, _, _, _, _, _, _, _, _, _, _, _, _, _, _, _, _, _, _, _, _], _⟩) rfl)
          replace ha := ha.trans (put_fold (a' := ⟨#[_, _, _, _, _, _, _, _, _, _, _, _, _, _, _, _, _, _, _, _, _, _, _, _, _, _, _, _, _, _, _, _, _, _, _, _, _, _, _, _, _, _, _, _, _, _, _, _, _, _, _, _, _, _, _, _, _, _, _, _, _, _, _, _, _, _, _, _, _, _, _, _, _, _, _, _, _, _, _, _, _, _, _, _, _, _, _, _, _, _, _, _, _, _, _, _, _, _, _, _, _, _, _, _, _, _, _, _, _, _, _, _, _, _, _, _, _, _, _, _, _, _, _, _, _, _, _, _, _, _, _, _, _, _, _, _, _, _, _, _, _, _, _, _, _, _, _, _, _, _, _, _, _, _, _, _, _, _, _, _, _, _, _, _, _, _, _, _, _, _, _, _, _, _, _, _, _, _, _, _, _, _, _, _, _, _, _, _, _, _, _, _, _, _, _], _⟩) rfl)
          replace ha := ha.trans (put_fold (a' := ⟨#[_, _, _, _, _, _, _, _, _, _, _, _, _, _, _, _, _, _, _, _, _, _, _, _, _, _, _, _, _, _, _, _, _, _, _, _, _, _, _, _, _, _, _, _, _, _, _, _, _, _, _, _, _, _, _, _, _, _, _, _, _, _, _, _, _, _, _, _, _, _, _, _, _, _, _, _, _, _, _, _, _, _, _, _, _, _, _, _, _, _, _, _, _, _, _, _, _, _, _, _, _, _, _, _, _, _, _, _, _, _, _, _, _, _, _, _, _, _, _, _, _, _, _, _, _, _, _, _, _, _, _, _, _, _, _, _, _, _, _, _, _, _, _, _, _, _, _, _, _, _, _, _, _, _, _, _, _, _, _, _, _, _, _, _, _, _, _, _, _, _, _, _, _, _, _, _, _, _, _, _, _, _, _, _, _, _, _, _, _, _, _, _, _, _, _], _⟩) rfl)
          replace ha := ha.trans (put_fold (a' := ⟨#[_, _, _, _, _, _, _, _, _, _, _, _, _, _, _, _, _, _, _, _, _, _, _, _, _, _, _, _, _, _, _, _, _, _, _, _, _, _, _, _, _, _, _, _, _, _, _, _, _, _, _, _, _, _, _, _, _, _, _, _, _, _, _, _, _, _, _, _, _, _, _, _, _, _, _, _, _, _, _, _, _, _, _, _, _, _, _, _, _, _, _, _, _, _, _, _, _, _, _, _, _, _, _, _, _, _, _, _, _, _, _, _, _, _, _, _, _, _, _, _, _, _, _, _, _, _, _, _, _, _, _, _, _, _, _, _, _, _, _, _, _, _, _, _, _, _, _, _, _, _, _, _, _, _, _, _, _, _, _, _, _, _, _, _, _, _, _, _, _, _, _, _, _, _, _, _, _, _, _, _, _, _, _, _, _, _, _, _, _, _, _, _, _, _, _], _⟩) rfl)
          replace ha := ha.trans (put_fold (a' := ⟨#[_, _, _, _, _, _, _, _, _, _, _, _, _, _, _, _, _, _, _, _, _, _, _, _, _, _, _, _, _, _, _, _, _, _, _, _, _, _, _, _, _, _, _, _, _, _, _, _, _, _, _, _, _, _, _, _, _, _, _, _, _, _, _, _, _, _, _, _, _, _, _, _, _, _, _, _, _, _, _, _, _, _, _, _, _, _, _, _, _, _, _, _, _, _, _, _, _, _, _, _, _, _, _, _, _, _, _, _, _, _, _, _, _, _, _, _, _, _, _, _, _, _, _, _, _, _, _, _, _, _, _, _, _, _, _, _, _, _, _, _, _, _, _, _, _, _, _, _, _, _, _, _, _, _, _, _, _, _, _, _, _, _, _, _, _, _, _, _, _, _, _, _, _, _, _, _, _, _, _, _, _, _, _, _, _, _, _, _, _, _, _, _, _, _, _], _⟩) rfl)
          replace ha := ha.trans (put_fold (a' := ⟨#[_, _, _, _, _, _, _, _, _, _, _, _, _, _, _, _, _, _, _, _, _, _, _, _, _, _, _, _, _, _, _, _, _, _, _, _, _, _, _, _, _, _, _, _, _, _, _, _, _, _, _, _, _, _, _, _, _, _, _, _, _, _, _, _, _, _, _, _, _, _, _, _, _, _, _, _, _, _, _, _, _, _, _, _, _, _, _, _, _, _, _, _, _, _, _, _, _, _, _, _, _, _, _, _, _, _, _, _, _, _, _, _, _, _, _, _, _, _, _, _, _, _, _, _, _, _, _, _, _, _, _, _, _, _, _, _, _, _, _, _, _, _, _, _, _, _, _, _, _, _, _, _, _, _, _, _, _, _, _, _, _, _, _, _, _, _, _, _, _, _, _, _, _, _, _, _, _, _, _, _, _, _, _, _, _, _, _, _, _, _, _, _, _, _, _], _⟩) rfl)
          replace ha := ha.trans (put_fold (a' := ⟨#[_, _, _, _, _, _, _, _, _, _, _, _, _, _, _, _, _, _, _, _, _, _, _, _, _, _, _, _, _, _, _, _, _, _, _, _, _, _, _, _, _, _, _, _, _, _, _, _, _, _, _, _, _, _, _, _, _, _, _, _, _, _, _, _, _, _, _, _, _, _, _, _, _, _, _, _, _, _, _, _, _, _, _, _, _, _, _, _, _, _, _, _, _, _, _, _, _, _, _, _, _, _, _, _, _, _, _, _, _, _, _, _, _, _, _, _, _, _, _, _, _, _, _, _, _, _, _, _, _, _, _, _, _, _, _, _, _, _, _, _, _, _, _, _, _, _, _, _, _, _, _, _, _, _, _, _, _, _, _, _, _, _, _, _, _, _, _, _, _, _, _, _, _, _, _, _, _, _, _, _, _, _, _, _, _, _, _, _, _, _, _, _, _, _, _], _⟩) rfl)
          replace ha := ha.trans (put_fold (a' := ⟨#[_, _, _, _, _, _, _, _, _, _, _, _, _, _, _, _, _, _, _, _, _, _, _, _, _, _, _, _, _, _, _, _, _, _, _, _, _, _, _, _, _, _, _, _, _, _, _, _, _, _, _, _, _, _, _, _, _, _, _, _, _, _, _, _, _, _, _, _, _, _, _, _, _, _, _, _, _, _, _, _, _, _, _, _, _, _, _, _, _, _, _, _, _, _, _, _, _, _, _, _, _, _, _, _, _, _, _, _, _, _, _, _, _, _, _, _, _, _, _, _, _, _, _, _, _, _, _, _, _, _, _, _, _, _, _, _, _, _, _, _, _, _, _, _, _, _, _, _, _, _, _, _, _, _, _, _, _, _, _, _, _, _, _, _, _, _, _, _, _, _, _, _, _, _, _, _, _, _, _, _, _, _, _, _, _, _, _, _, _, _, _, _, _, _, _], _⟩) rfl)
          replace ha := ha.trans (put_fold (a' := ⟨#[_, _, _, _, _, _, _, _, _, _, _, _, _, _, _, _, _, _, _, _, _, _, _, _, _, _, _, _, _, _, _, _, _, _, _, _, _, _, _, _, _, _, _, _, _, _, _, _, _, _, _, _, _, _, _, _, _, _, _, _, _, _, _, _, _, _, _, _, _, _, _, _, _, _, _, _, _, _, _, _, _, _, _, _, _, _, _, _, _, _, _, _, _, _, _, _, _, _, _, _, _, _, _, _, _, _, _, _, _, _, _, _, _, _, _, _, _, _, _, _, _, _, _, _, _, _, _, _, _, _, _, _, _, _, _, _, _, _, _, _, _, _, _, _, _, _, _, _, _, _, _, _, _, _, _, _, _, _, _, _, _, _, _, _, _, _, _, _, _, _, _, _, _, _, _, _, _, _, _, _, _, _, _, _, _, _, _, _, _, _, _, _, _, _, _], _⟩) rfl)
          replace ha := ha.trans (put_fold (a' := ⟨#[_, _, _, _, _, _, _, _, _, _, _, _, _, _, _, _, _, _, _, _, _, _, _, _, _, _, _, _, _, _, _, _, _, _, _, _, _, _, _, _, _, _, _, _, _, _, _, _, _, _, _, _, _, _, _, _, _, _, _, _, _, _, _, _, _, _, _, _, _, _, _, _, _, _, _, _, _, _, _, _, _, _, _, _, _, _, _, _, _, _, _, _, _, _, _, _, _, _, _, _, _, _, _, _, _, _, _, _, _, _, _, _, _, _, _, _, _, _, _, _, _, _, _, _, _, _, _, _, _, _, _, _, _, _, _, _, _, _, _, _, _, _, _, _, _, _, _, _, _, _, _, _, _, _, _, _, _, _, _, _, _, _, _, _, _, _, _, _, _, _, _, _, _, _, _, _, _, _, _, _, _, _, _, _, _, _, _, _, _, _, _, _, _, _, _], _⟩) rfl)
          replace ha := ha.trans (put_fold (a' := ⟨#[_, _, _, _, _, _, _, _, _, _, _, _, _, _, _, _, _, _, _, _, _, _, _, _, _, _, _, _, _, _, _, _, _, _, _, _, _, _, _, _, _, _, _, _, _, _, _, _, _, _, _, _, _, _, _, _, _, _, _, _, _, _, _, _, _, _, _, _, _, _, _, _, _, _, _, _, _, _, _, _, _, _, _, _, _, _, _, _, _, _, _, _, _, _, _, _, _, _, _, _, _, _, _, _, _, _, _, _, _, _, _, _, _, _, _, _, _, _, _, _, _, _, _, _, _, _, _, _, _, _, _, _, _, _, _, _, _, _, _, _, _, _, _, _, _, _, _, _, _, _, _, _, _, _, _, _, _, _, _, _, _, _, _, _, _, _, _, _, _, _, _, _, _, _, _, _, _, _, _, _, _, _, _, _, _, _, _, _, _, _, _, _, _, _, _], _⟩) rfl)
          replace ha := ha.trans (put_fold (a' := ⟨#[_, _, _, _, _, _, _, _, _, _, _, _, _, _, _, _, _, _, _, _, _, _, _, _, _, _, _, _, _, _, _, _, _, _, _, _, _, _, _, _, _, _, _, _, _, _, _, _, _, _, _, _, _, _, _, _, _, _, _, _, _, _, _, _, _, _, _, _, _, _, _, _, _, _, _, _, _, _, _, _, _, _, _, _, _, _, _, _, _, _, _, _, _, _, _, _, _, _, _, _, _, _, _, _, _, _, _, _, _, _, _, _, _, _, _, _, _, _, _, _, _, _, _, _, _, _, _, _, _, _, _, _, _, _, _, _, _, _, _, _, _, _, _, _, _, _, _, _, _, _, _, _, _, _, _, _, _, _, _, _, _, _, _, _, _, _, _, _, _, _, _, _, _, _, _, _, _, _, _, _, _, _, _, _, _, _, _, _, _, _, _, _, _, _, _], _⟩) rfl)
          replace ha := ha.trans (put_fold (a' := ⟨#[_, _, _, _, _, _, _, _, _, _, _, _, _, _, _, _, _, _, _, _, _, _, _, _, _, _, _, _, _, _, _, _, _, _, _, _, _, _, _, _, _, _, _, _, _, _, _, _, _, _, _, _, _, _, _, _, _, _, _, _, _, _, _, _, _, _, _, _, _, _, _, _, _, _, _, _, _, _, _, _, _, _, _, _, _, _, _, _, _, _, _, _, _, _, _, _, _, _, _, _, _, _, _, _, _, _, _, _, _, _, _, _, _, _, _, _, _, _, _, _, _, _, _, _, _, _, _, _, _, _, _, _, _, _, _, _, _, _, _, _, _, _, _, _, _, _, _, _, _, _, _, _, _, _, _, _, _, _, _, _, _, _, _, _, _, _, _, _, _, _, _, _, _, _, _, _, _, _, _, _, _, _, _, _, _, _, _, _, _, _, _, _, _, _, _], _⟩) rfl)
          replace ha := ha.trans (put_fold (a' := ⟨#[_, _, _, _, _, _, _, _, _, _, _, _, _, _, _, _, _, _, _, _, _, _, _, _, _, _, _, _, _, _, _, _, _, _, _, _, _, _, _, _, _, _, _, _, _, _, _, _, _, _, _, _, _, _, _, _, _, _, _, _, _, _, _, _, _, _, _, _, _, _, _, _, _, _, _, _, _, _, _, _, _, _, _, _, _, _, _, _, _, _, _, _, _, _, _, _, _, _, _, _, _, _, _, _, _, _, _, _, _, _, _, _, _, _, _, _, _, _, _, _, _, _, _, _, _, _, _, _, _, _, _, _, _, _, _, _, _, _, _, _, _, _, _, _, _, _, _, _, _, _, _, _, _, _, _, _, _, _, _, _, _, _, _, _, _, _, _, _, _, _, _, _, _, _, _, _, _, _, _, _, _, _, _, _, _, _, _, _, _, _, _, _, _, _, _], _⟩) rfl)
          replace ha := ha.trans (put_fold (a' := ⟨#[_, _, _, _, _, _, _, _, _, _, _, _, _, _, _, _, _, _, _, _, _, _, _, _, _, _, _, _, _, _, _, _, _, _, _, _, _, _, _, _, _, _, _, _, _, _, _, _, _, _, _, _, _, _, _, _, _, _, _, _, _, _, _, _, _, _, _, _, _, _, _, _, _, _, _, _, _, _, _, _, _, _, _, _, _, _, _, _, _, _, _, _, _, _, _, _, _, _, _, _, _, _, _, _, _, _, _, _, _, _, _, _, _, _, _, _, _, _, _, _, _, _, _, _, _, _, _, _, _, _, _, _, _, _, _, _, _, _, _, _, _, _, _, _, _, _, _, _, _, _, _, _, _, _, _, _, _, _, _, _, _, _, _, _, _, _, _, _, _, _, _, _, _, _, _, _, _, _, _, _, _, _, _, _, _, _, _, _, _, _, _, _, _, _, _], _⟩) rfl)
          replace ha := ha.trans (put_fold (a' := ⟨#[_, _, _, _, _, _, _, _, _, _, _, _, _, _, _, _, _, _, _, _, _, _, _, _, _, _, _, _, _, _, _, _, _, _, _, _, _, _, _, _, _, _, _, _, _, _, _, _, _, _, _, _, _, _, _, _, _, _, _, _, _, _, _, _, _, _, _, _, _, _, _, _, _, _, _, _, _, _, _, _, _, _, _, _, _, _, _, _, _, _, _, _, _, _, _, _, _, _, _, _, _, _, _, _, _, _, _, _, _, _, _, _, _, _, _, _, _, _, _, _, _, _, _, _, _, _, _, _, _, _, _, _, _, _, _, _, _, _, _, _, _, _, _, _, _, _, _, _, _, _, _, _, _, _, _, _, _, _, _, _, _, _, _, _, _, _, _, _, _, _, _, _, _, _, _, _, _, _, _, _, _, _, _, _, _, _, _, _, _, _, _, _, _, _, _], _⟩) rfl)
          replace ha := ha.trans (put_fold (a' := ⟨#[_, _, _, _, _, _, _, _, _, _, _, _, _, _, _, _, _, _, _, _, _, _, _, _, _, _, _, _, _, _, _, _, _, _, _, _, _, _, _, _, _, _, _, _, _, _, _, _, _, _, _, _, _, _, _, _, _, _, _, _, _, _, _, _, _, _, _, _, _, _, _, _, _, _, _, _, _, _, _, _, _, _, _, _, _, _, _, _, _, _, _, _, _, _, _, _, _, _, _, _, _, _, _, _, _, _, _, _, _, _, _, _, _, _, _, _, _, _, _, _, _, _, _, _, _, _, _, _, _, _, _, _, _, _, _, _, _, _, _, _, _, _, _, _, _, _, _, _, _, _, _, _, _, _, _, _, _, _, _, _, _, _, _, _, _, _, _, _, _, _, _, _, _, _, _, _, _, _, _, _, _, _, _, _, _, _, _, _, _, _, _, _, _, _, _], _⟩) rfl)
          replace ha := ha.trans (put_fold (a' := ⟨#[_, _, _, _, _, _, _, _, _, _, _, _, _, _, _, _, _, _, _, _, _, _, _, _, _, _, _, _, _, _, _, _, _, _, _, _, _, _, _, _, _, _, _, _, _, _, _, _, _, _, _, _, _, _, _, _, _, _, _, _, _, _, _, _, _, _, _, _, _, _, _, _, _, _, _, _, _, _, _, _, _, _, _, _, _, _, _, _, _, _, _, _, _, _, _, _, _, _, _, _, _, _, _, _, _, _, _, _, _, _, _, _, _, _, _, _, _, _, _, _, _, _, _, _, _, _, _, _, _, _, _, _, _, _, _, _, _, _, _, _, _, _, _, _, _, _, _, _, _, _, _, _, _, _, _, _, _, _, _, _, _, _, _, _, _, _, _, _, _, _, _, _, _, _, _, _, _, _, _, _, _, _, _, _, _, _, _, _, _, _, _, _, _, _, _], _⟩) rfl)
          replace ha := ha.trans (put_fold (a' := ⟨#[_, _, _, _, _, _, _, _, _, _, _, _, _, _, _, _, _, _, _, _, _, _, _, _, _, _, _, _, _, _, _, _, _, _, _, _, _, _, _, _, _, _, _, _, _, _, _, _, _, _, _, _, _, _, _, _, _, _, _, _, _, _, _, _, _, _, _, _, _, _, _, _, _, _, _, _, _, _, _, _, _, _, _, _, _, _, _, _, _, _, _, _, _, _, _, _, _, _, _, _, _, _, _, _, _, _, _, _, _, _, _, _, _, _, _, _, _, _, _, _, _, _, _, _, _, _, _, _, _, _, _, _, _, _, _, _, _, _, _, _, _, _, _, _, _, _, _, _, _, _, _, _, _, _, _, _, _, _, _, _, _, _, _, _, _, _, _, _, _, _, _, _, _, _, _, _, _, _, _, _, _, _, _, _, _, _, _, _, _, _, _, _, _, _, _], _⟩) rfl)
          replace ha := ha.trans (put_fold (a' := ⟨#[_, _, _, _, _, _, _, _, _, _, _, _, _, _, _, _, _, _, _, _, _, _, _, _, _, _, _, _, _, _, _, _, _, _, _, _, _, _, _, _, _, _, _, _, _, _, _, _, _, _, _, _, _, _, _, _, _, _, _, _, _, _, _, _, _, _, _, _, _, _, _, _, _, _, _, _, _, _, _, _, _, _, _, _, _, _, _, _, _, _, _, _, _, _, _, _, _, _, _, _, _, _, _, _, _, _, _, _, _, _, _, _, _, _, _, _, _, _, _, _, _, _, _, _, _, _, _, _, _, _, _, _, _, _, _, _, _, _, _, _, _, _, _, _, _, _, _, _, _, _, _, _, _, _, _, _, _, _, _, _, _, _, _, _, _, _, _, _, _, _, _, _, _, _, _, _, _, _, _, _, _, _, _, _, _, _, _, _, _, _, _, _, _, _, _], _⟩) rfl)
          replace ha := ha.trans (put_fold (a' := ⟨#[_, _, _, _, _, _, _, _, _, _, _, _, _, _, _, _, _, _, _, _, _, _, _, _, _, _, _, _, _, _, _, _, _, _, _, _, _, _, _, _, _, _, _, _, _, _, _, _, _, _, _, _, _, _, _, _, _, _, _, _, _, _, _, _, _, _, _, _, _, _, _, _, _, _, _, _, _, _, _, _, _, _, _, _, _, _, _, _, _, _, _, _, _, _, _, _, _, _, _, _, _, _, _, _, _, _, _, _, _, _, _, _, _, _, _, _, _, _, _, _, _, _, _, _, _, _, _, _, _, _, _, _, _, _, _, _, _, _, _, _, _, _, _, _, _, _, _, _, _, _, _, _, _, _, _, _, _, _, _, _, _, _, _, _, _, _, _, _, _, _, _, _, _, _, _, _, _, _, _, _, _, _, _, _, _, _, _, _, _, _, _, _, _, _, _], _⟩) rfl)
          replace ha := ha.trans (put_fold (a' := ⟨#[_, _, _, _, _, _, _, _, _, _, _, _, _, _, _, _, _, _, _, _, _, _, _, _, _, _, _, _, _, _, _, _, _, _, _, _, _, _, _, _, _, _, _, _, _, _, _, _, _, _, _, _, _, _, _, _, _, _, _, _, _, _, _, _, _, _, _, _, _, _, _, _, _, _, _, _, _, _, _, _, _, _, _, _, _, _, _, _, _, _, _, _, _, _, _, _, _, _, _, _, _, _, _, _, _, _, _, _, _, _, _, _, _, _, _, _, _, _, _, _, _, _, _, _, _, _, _, _, _, _, _, _, _, _, _, _, _, _, _, _, _, _, _, _, _, _, _, _, _, _, _, _, _, _, _, _, _, _, _, _, _, _, _, _, _, _, _, _, _, _, _, _, _, _, _, _, _, _, _, _, _, _, _, _, _, _, _, _, _, _, _, _, _, _, _], _⟩) rfl)
          replace ha := ha.trans (put_fold (a' := ⟨#[_, _, _, _, _, _, _, _, _, _, _, _, _, _, _, _, _, _, _, _, _, _, _, _, _, _, _, _, _, _, _, _, _, _, _, _, _, _, _, _, _, _, _, _, _, _, _, _, _, _, _, _, _, _, _, _, _, _, _, _, _, _, _, _, _, _, _, _, _, _, _, _, _, _, _, _, _, _, _, _, _, _, _, _, _, _, _, _, _, _, _, _, _, _, _, _, _, _, _, _, _, _, _, _, _, _, _, _, _, _, _, _, _, _, _, _, _, _, _, _, _, _, _, _, _, _, _, _, _, _, _, _, _, _, _, _, _, _, _, _, _, _, _, _, _, _, _, _, _, _, _, _, _, _, _, _, _, _, _, _, _, _, _, _, _, _, _, _, _, _, _, _, _, _, _, _, _, _, _, _, _, _, _, _, _, _, _, _, _, _, _, _, _, _, _], _⟩) rfl)
          replace ha := ha.trans (put_fold (a' := ⟨#[_, _, _, _, _, _, _, _, _, _, _, _, _, _, _, _, _, _, _, _, _, _, _, _, _, _, _, _, _, _, _, _, _, _, _, _, _, _, _, _, _, _, _, _, _, _, _, _, _, _, _, _, _, _, _, _, _, _, _, _, _, _, _, _, _, _, _, _, _, _, _, _, _, _, _, _, _, _, _, _, _, _, _, _, _, _, _, _, _, _, _, _, _, _, _, _, _, _, _, _, _, _, _, _, _, _, _, _, _, _, _, _, _, _, _, _, _, _, _, _, _, _, _, _, _, _, _, _, _, _, _, _, _, _, _, _, _, _, _, _, _, _, _, _, _, _, _, _, _, _, _, _, _, _, _, _, _, _, _, _, _, _, _, _, _, _, _, _, _, _, _, _, _, _, _, _, _, _, _, _, _, _, _, _, _, _, _, _, _, _, _, _, _, _, _], _⟩) rfl)
          replace ha := ha.trans (put_fold (a' := ⟨#[_, _, _, _, _, _, _, _, _, _, _, _, _, _, _, _, _, _, _, _, _, _, _, _, _, _, _, _, _, _, _, _, _, _, _, _, _, _, _, _, _, _, _, _, _, _, _, _, _, _, _, _, _, _, _, _, _, _, _, _, _, _, _, _, _, _, _, _, _, _, _, _, _, _, _, _, _, _, _, _, _, _, _, _, _, _, _, _, _, _, _, _, _, _, _, _, _, _, _, _, _, _, _, _, _, _, _, _, _, _, _, _, _, _, _, _, _, _, _, _, _, _, _, _, _, _, _, _, _, _, _, _, _, _, _, _, _, _, _, _, _, _, _, _, _, _, _, _, _, _, _, _, _, _, _, _, _, _, _, _, _, _, _, _, _, _, _, _, _, _, _, _, _, _, _, _, _, _, _, _, _, _, _, _, _, _, _, _, _, _, _, _, _, _, _], _⟩) rfl)
          replace ha := ha.trans (put_fold (a' := ⟨#[_, _, _, _, _, _, _, _, _, _, _, _, _, _, _, _, _, _, _, _, _, _, _, _, _, _, _, _, _, _, _, _, _, _, _, _, _, _, _, _, _, _, _, _, _, _, _, _, _, _, _, _, _, _, _, _, _, _, _, _, _, _, _, _, _, _, _, _, _, _, _, _, _, _, _, _, _, _, _, _, _, _, _, _, _, _, _, _, _, _, _, _, _, _, _, _, _, _, _, _, _, _, _, _, _, _, _, _, _, _, _, _, _, _, _, _, _, _, _, _, _, _, _, _, _, _, _, _, _, _, _, _, _, _, _, _, _, _, _, _, _, _, _, _, _, _, _, _, _, _, _, _, _, _, _, _, _, _, _, _, _, _, _, _, _, _, _, _, _, _, _, _, _, _, _, _, _, _, _, _, _, _, _, _, _, _, _, _, _, _, _, _, _, _, _], _⟩) rfl)
          replace ha := ha.trans (put_fold (a' := ⟨#[_, _, _, _, _, _, _, _, _, _, _, _, _, _, _, _, _, _, _, _, _, _, _, _, _, _, _, _, _, _, _, _, _, _, _, _, _, _, _, _, _, _, _, _, _, _, _, _, _, _, _, _, _, _, _, _, _, _, _, _, _, _, _, _, _, _, _, _, _, _, _, _, _, _, _, _, _, _, _, _, _, _, _, _, _, _, _, _, _, _, _, _, _, _, _, _, _, _, _, _, _, _, _, _, _, _, _, _, _, _, _, _, _, _, _, _, _, _, _, _, _, _, _, _, _, _, _, _, _, _, _, _, _, _, _, _, _, _, _, _, _, _, _, _, _, _, _, _, _, _, _, _, _, _, _, _, _, _, _, _, _, _, _, _, _, _, _, _, _, _, _, _, _, _, _, _, _, _, _, _, _, _, _, _, _, _, _, _, _, _, _, _, _, _, _], _⟩) rfl)
          replace ha := ha.trans (put_fold (a' := ⟨#[_, _, _, _, _, _, _, _, _, _, _, _, _, _, _, _, _, _, _, _, _, _, _, _, _, _, _, _, _, _, _, _, _, _, _, _, _, _, _, _, _, _, _, _, _, _, _, _, _, _, _, _, _, _, _, _, _, _, _, _, _, _, _, _, _, _, _, _, _, _, _, _, _, _, _, _, _, _, _, _, _, _, _, _, _, _, _, _, _, _, _, _, _, _, _, _, _, _, _, _, _, _, _, _, _, _, _, _, _, _, _, _, _, _, _, _, _, _, _, _, _, _, _, _, _, _, _, _, _, _, _, _, _, _, _, _, _, _, _, _, _, _, _, _, _, _, _, _, _, _, _, _, _, _, _, _, _, _, _, _, _, _, _, _, _, _, _, _, _, _, _, _, _, _, _, _, _, _, _, _, _, _, _, _, _, _, _, _, _, _, _, _, _, _, _], _⟩) rfl)
          replace ha := ha.trans (put_fold (a' := ⟨#[_, _, _, _, _, _, _, _, _, _, _, _, _, _, _, _, _, _, _, _, _, _, _, _, _, _, _, _, _, _, _, _, _, _, _, _, _, _, _, _, _, _, _, _, _, _, _, _, _, _, _, _, _, _, _, _, _, _, _, _, _, _, _, _, _, _, _, _, _, _, _, _, _, _, _, _, _, _, _, _, _, _, _, _, _, _, _, _, _, _, _, _, _, _, _, _, _, _, _, _, _, _, _, _, _, _, _, _, _, _, _, _, _, _, _, _, _, _, _, _, _, _, _, _, _, _, _, _, _, _, _, _, _, _, _, _, _, _, _, _, _, _, _, _, _, _, _, _, _, _, _, _, _, _, _, _, _, _, _, _, _, _, _, _, _, _, _, _, _, _, _, _, _, _, _, _, _, _, _, _, _, _, _, _, _, _, _, _, _, _, _, _, _, _, _], _⟩) rfl)
          replace ha := ha.trans (put_fold (a' := ⟨#[_, _, _, _, _, _, _, _, _, _, _, _, _, _, _, _, _, _, _, _, _, _, _, _, _, _, _, _, _, _, _, _, _, _, _, _, _, _, _, _, _, _, _, _, _, _, _, _, _, _, _, _, _, _, _, _, _, _, _, _, _, _, _, _, _, _, _, _, _, _, _, _, _, _, _, _, _, _, _, _, _, _, _, _, _, _, _, _, _, _, _, _, _, _, _, _, _, _, _, _, _, _, _, _, _, _, _, _, _, _, _, _, _, _, _, _, _, _, _, _, _, _, _, _, _, _, _, _, _, _, _, _, _, _, _, _, _, _, _, _, _, _, _, _, _, _, _, _, _, _, _, _, _, _, _, _, _, _, _, _, _, _, _, _, _, _, _, _, _, _, _, _, _, _, _, _, _, _, _, _, _, _, _, _, _, _, _, _, _, _, _, _, _, _, _], _⟩) rfl)
          replace ha := ha.trans (put_fold (a' := ⟨#[_, _, _, _, _, _, _, _, _, _, _, _, _, _, _, _, _, _, _, _, _, _, _, _, _, _, _, _, _, _, _, _, _, _, _, _, _, _, _, _, _, _, _, _, _, _, _, _, _, _, _, _, _, _, _, _, _, _, _, _, _, _, _, _, _, _, _, _, _, _, _, _, _, _, _, _, _, _, _, _, _, _, _, _, _, _, _, _, _, _, _, _, _, _, _, _, _, _, _, _, _, _, _, _, _, _, _, _, _, _, _, _, _, _, _, _, _, _, _, _, _, _, _, _, _, _, _, _, _, _, _, _, _, _, _, _, _, _, _, _, _, _, _, _, _, _, _, _, _, _, _, _, _, _, _, _, _, _, _, _, _, _, _, _, _, _, _, _, _, _, _, _, _, _, _, _, _, _, _, _, _, _, _, _, _, _, _, _, _, _, _, _, _, _, _], _⟩) rfl)
          replace ha := ha.trans (put_fold (a' := ⟨#[_, _, _, _, _, _, _, _, _, _, _, _, _, _, _, _, _, _, _, _, _, _, _, _, _, _, _, _, _, _, _, _, _, _, _, _, _, _, _, _, _, _, _, _, _, _, _, _, _, _, _, _, _, _, _, _, _, _, _, _, _, _, _, _, _, _, _, _, _, _, _, _, _, _, _, _, _, _, _, _, _, _, _, _, _, _, _, _, _, _, _, _, _, _, _, _, _, _, _, _, _, _, _, _, _, _, _, _, _, _, _, _, _, _, _, _, _, _, _, _, _, _, _, _, _, _, _, _, _, _, _, _, _, _, _, _, _, _, _, _, _, _, _, _, _, _, _, _, _, _, _, _, _, _, _, _, _, _, _, _, _, _, _, _, _, _, _, _, _, _, _, _, _, _, _, _, _, _, _, _, _, _, _, _, _, _, _, _, _, _, _, _, _, _, _], _⟩) rfl)
          replace ha := ha.trans (put_fold (a' := ⟨#[_, _, _, _, _, _, _, _, _, _, _, _, _, _, _, _, _, _, _, _, _, _, _, _, _, _, _, _, _, _, _, _, _, _, _, _, _, _, _, _, _, _, _, _, _, _, _, _, _, _, _, _, _, _, _, _, _, _, _, _, _, _, _, _, _, _, _, _, _, _, _, _, _, _, _, _, _, _, _, _, _, _, _, _, _, _, _, _, _, _, _, _, _, _, _, _, _, _, _, _, _, _, _, _, _, _, _, _, _, _, _, _, _, _, _, _, _, _, _, _, _, _, _, _, _, _, _, _, _, _, _, _, _, _, _, _, _, _, _, _, _, _, _, _, _, _, _, _, _, _, _, _, _, _, _, _, _, _, _, _, _, _, _, _, _, _, _, _, _, _, _, _, _, _, _, _, _, _, _, _, _, _, _, _, _, _, _, _, _, _, _, _, _, _, _], _⟩) rfl)
          replace ha := ha.trans (put_fold (a' := ⟨#[_, _, _, _, _, _, _, _, _, _, _, _, _, _, _, _, _, _, _, _, _, _, _, _, _, _, _, _, _, _, _, _, _, _, _, _, _, _, _, _, _, _, _, _, _, _, _, _, _, _, _, _, _, _, _, _, _, _, _, _, _, _, _, _, _, _, _, _, _, _, _, _, _, _, _, _, _, _, _, _, _, _, _, _, _, _, _, _, _, _, _, _, _, _, _, _, _, _, _, _, _, _, _, _, _, _, _, _, _, _, _, _, _, _, _, _, _, _, _, _, _, _, _, _, _, _, _, _, _, _, _, _, _, _, _, _, _, _, _, _, _, _, _, _, _, _, _, _, _, _, _, _, _, _, _, _, _, _, _, _, _, _, _, _, _, _, _, _, _, _, _, _, _, _, _, _, _, _, _, _, _, _, _, _, _, _, _, _, _, _, _, _, _, _, _], _⟩) rfl)
          replace ha := ha.trans (put_fold (a' := ⟨#[_, _, _, _, _, _, _, _, _, _, _, _, _, _, _, _, _, _, _, _, _, _, _, _, _, _, _, _, _, _, _, _, _, _, _, _, _, _, _, _, _, _, _, _, _, _, _, _, _, _, _, _, _, _, _, _, _, _, _, _, _, _, _, _, _, _, _, _, _, _, _, _, _, _, _, _, _, _, _, _, _, _, _, _, _, _, _, _, _, _, _, _, _, _, _, _, _, _, _, _, _, _, _, _, _, _, _, _, _, _, _, _, _, _, _, _, _, _, _, _, _, _, _, _, _, _, _, _, _, _, _, _, _, _, _, _, _, _, _, _, _, _, _, _, _, _, _, _, _, _, _, _, _, _, _, _, _, _, _, _, _, _, _, _, _, _, _, _, _, _, _, _, _, _, _, _, _, _, _, _, _, _, _, _, _, _, _, _, _, _, _, _, _, _, _], _⟩) rfl)
          replace ha := ha.trans (put_fold (a' := ⟨#[_, _, _, _, _, _, _, _, _, _, _, _, _, _, _, _, _, _, _, _, _, _, _, _, _, _, _, _, _, _, _, _, _, _, _, _, _, _, _, _, _, _, _, _, _, _, _, _, _, _, _, _, _, _, _, _, _, _, _, _, _, _, _, _, _, _, _, _, _, _, _, _, _, _, _, _, _, _, _, _, _, _, _, _, _, _, _, _, _, _, _, _, _, _, _, _, _, _, _, _, _, _, _, _, _, _, _, _, _, _, _, _, _, _, _, _, _, _, _, _, _, _, _, _, _, _, _, _, _, _, _, _, _, _, _, _, _, _, _, _, _, _, _, _, _, _, _, _, _, _, _, _, _, _, _, _, _, _, _, _, _, _, _, _, _, _, _, _, _, _, _, _, _, _, _, _, _, _, _, _, _, _, _, _, _, _, _, _, _, _, _, _, _, _, _], _⟩) rfl)
          replace ha := ha.trans (put_fold (a' := ⟨#[_, _, _, _, _, _, _, _, _, _, _, _, _, _, _, _, _, _, _, _, _, _, _, _, _, _, _, _, _, _, _, _, _, _, _, _, _, _, _, _, _, _, _, _, _, _, _, _, _, _, _, _, _, _, _, _, _, _, _, _, _, _, _, _, _, _, _, _, _, _, _, _, _, _, _, _, _, _, _, _, _, _, _, _, _, _, _, _, _, _, _, _, _, _, _, _, _, _, _, _, _, _, _, _, _, _, _, _, _, _, _, _, _, _, _, _, _, _, _, _, _, _, _, _, _, _, _, _, _, _, _, _, _, _, _, _, _, _, _, _, _, _, _, _, _, _, _, _, _, _, _, _, _, _, _, _, _, _, _, _, _, _, _, _, _, _, _, _, _, _, _, _, _, _, _, _, _, _, _, _, _, _, _, _, _, _, _, _, _, _, _, _, _, _, _], _⟩) rfl)
          replace ha := ha.trans (put_fold (a' := ⟨#[_, _, _, _, _, _, _, _, _, _, _, _, _, _, _, _, _, _, _, _, _, _, _, _, _, _, _, _, _, _, _, _, _, _, _, _, _, _, _, _, _, _, _, _, _, _, _, _, _, _, _, _, _, _, _, _, _, _, _, _, _, _, _, _, _, _, _, _, _, _, _, _, _, _, _, _, _, _, _, _, _, _, _, _, _, _, _, _, _, _, _, _, _, _, _, _, _, _, _, _, _, _, _, _, _, _, _, _, _, _, _, _, _, _, _, _, _, _, _, _, _, _, _, _, _, _, _, _, _, _, _, _, _, _, _, _, _, _, _, _, _, _, _, _, _, _, _, _, _, _, _, _, _, _, _, _, _, _, _, _, _, _, _, _, _, _, _, _, _, _, _, _, _, _, _, _, _, _, _, _, _, _, _, _, _, _, _, _, _, _, _, _, _, _, _], _⟩) rfl)
          replace ha := ha.trans (put_fold (a' := ⟨#[_, _, _, _, _, _, _, _, _, _, _, _, _, _, _, _, _, _, _, _, _, _, _, _, _, _, _, _, _, _, _, _, _, _, _, _, _, _, _, _, _, _, _, _, _, _, _, _, _, _, _, _, _, _, _, _, _, _, _, _, _, _, _, _, _, _, _, _, _, _, _, _, _, _, _, _, _, _, _, _, _, _, _, _, _, _, _, _, _, _, _, _, _, _, _, _, _, _, _, _, _, _, _, _, _, _, _, _, _, _, _, _, _, _, _, _, _, _, _, _, _, _, _, _, _, _, _, _, _, _, _, _, _, _, _, _, _, _, _, _, _, _, _, _, _, _, _, _, _, _, _, _, _, _, _, _, _, _, _, _, _, _, _, _, _, _, _, _, _, _, _, _, _, _, _, _, _, _, _, _, _, _, _, _, _, _, _, _, _, _, _, _, _, _, _], _⟩) rfl)
          replace ha := ha.trans (put_fold (a' := ⟨#[_, _, _, _, _, _, _, _, _, _, _, _, _, _, _, _, _, _, _, _, _, _, _, _, _, _, _, _, _, _, _, _, _, _, _, _, _, _, _, _, _, _, _, _, _, _, _, _, _, _, _, _, _, _, _, _, _, _, _, _, _, _, _, _, _, _, _, _, _, _, _, _, _, _, _, _, _, _, _, _, _, _, _, _, _, _, _, _, _, _, _, _, _, _, _, _, _, _, _, _, _, _, _, _, _, _, _, _, _, _, _, _, _, _, _, _, _, _, _, _, _, _, _, _, _, _, _, _, _, _, _, _, _, _, _, _, _, _, _, _, _, _, _, _, _, _, _, _, _, _, _, _, _, _, _, _, _, _, _, _, _, _, _, _, _, _, _, _, _, _, _, _, _, _, _, _, _, _, _, _, _, _, _, _, _, _, _, _, _, _, _, _, _, _, _], _⟩) rfl)
          replace ha := ha.trans (put_fold (a' := ⟨#[_, _, _, _, _, _, _, _, _, _, _, _, _, _, _, _, _, _, _, _, _, _, _, _, _, _, _, _, _, _, _, _, _, _, _, _, _, _, _, _, _, _, _, _, _, _, _, _, _, _, _, _, _, _, _, _, _, _, _, _, _, _, _, _, _, _, _, _, _, _, _, _, _, _, _, _, _, _, _, _, _, _, _, _, _, _, _, _, _, _, _, _, _, _, _, _, _, _, _, _, _, _, _, _, _, _, _, _, _, _, _, _, _, _, _, _, _, _, _, _, _, _, _, _, _, _, _, _, _, _, _, _, _, _, _, _, _, _, _, _, _, _, _, _, _, _, _, _, _, _, _, _, _, _, _, _, _, _, _, _, _, _, _, _, _, _, _, _, _, _, _, _, _, _, _, _, _, _, _, _, _, _, _, _, _, _, _, _, _, _, _, _, _, _, _], _⟩) rfl)
          replace ha := ha.trans rfl
          subst ha
          go_wp2_with fail
          go_meet
          case rel => exact ⟨rfl, hide (drewN_of HBr.out ⟨m, rfl⟩)⟩
      case rest =>
      obtain ⟨rfl, HBc⟩ := hcut
      obtain ⟨wz, hwz⟩ : ∃ wz, wz = wc := ⟨_, rfl⟩
      subst hwz
      clear c0 c4 c5 hDD k4 k14 x4 x5
      obtain ⟨ab', ao', hp', c0, c4, c5⟩ := HRd.out _ HBc.out i hil
      rw [HDd.out] at c0 c4 c5
      dsimp only at c0 c4 c5
      cases DD with
      | true =>
        as_aux_lemma =>
        have hC := of_decide_eq_true HDD.out
        have HS2 : Hid (s1 = (t', dk, db)) := hide (by rw [HSu.out, if_pos hC, if_pos hC])
        injection hp' with e1
        injection e1 with e1 e2
        subst e1; subst e2
        clear hC HDD HSu
        go_wp2_with fail
        refine ⟨⟨i + 1, by go_num, by omega, ?_, ?_, ?_, HBc, HN1⟩, by simp [intOf]; omega⟩
        · rw [HSx.out, HS2.out]
        · rw [HSx.out, HS2.out]
        · rw [HSx.out, HS2.out]
      | false =>
        as_aux_lemma =>
        have hC := of_decide_eq_false HDD.out
        have HS2 : Hid (s1 = (t', a, b)) := hide (by rw [HSu.out, if_neg hC, if_neg hC])
        clear hC HDD HSu c0 c4 c5 hp'
        go_wp2_with fail
        refine ⟨⟨i + 1, by go_num, by omega, ?_, ?_, ?_, HBc, HN1⟩, by simp [intOf]; omega⟩
        · rw [HSx.out, HS2.out]
        · rw [HSx.out, HS2.out]
        · rw [HSx.out, HS2.out]
    · as_aux_lemma =>
      obtain rfl : i = l.length := by omega
      have hki : ¬ ((l.length : Int) < (l.length : Int)) := by omega
      obtain ⟨x0, _, _, _, x4, x5, _⟩ := HXc.out _ HBr.out
      have HN2 := hide HNo.out
      have HP2 := hide (fun hk => HPure.out hk HN2.out)
      clear HPure HNo HRd
      generalize lasN l ej l.length = s0 at *
      obtain ⟨t, a, b⟩ := s0
      go_upto_region 15 with fail
      go_cut [12] (fun u wc => u = .bool (a == 5 && b == eb) ∧ wr = wc)
      case first =>
        as_aux_lemma =>
        clear HP2
        by_cases h5 : a = 5
        · subst h5
          go_wp2_with fail
          go_meet
          case rel => exact ⟨by simp, rfl⟩
        · have k5 : (a == 5) = false := beq_eq_false_iff_ne.2 h5
          go_wp2_with fail
          go_meet
          case rel => exact ⟨by simp [k5], rfl⟩
      case rest =>
      obtain ⟨rfl, rfl⟩ := hcut
      go_upto_block 2 with fail
      go_cut [12] (fun u wc => u = .bool (fineB (t, a, b) ⟨ek, eo, en, el, ej, eb, ei, ec, es, er, ew, ex, et⟩) ∧ Hid (ek = 5 ∨ ek = 6 ∨ ek = 7) ∧ wr = wc)
      case first =>
        as_aux_lemma =>
        clear HP2
        by_cases h5 : ek = 5
        · subst h5
          by_cases h2 : a = 2
          · subst h2
            go_wp2_with fail
            go_meet
            case rel => exact ⟨by simp [fineB], hide (by simp), rfl⟩
          · have k2 : (a == 2) = false := beq_eq_false_iff_ne.2 h2
            by_cases h6 : a = 6
            · subst h6
              go_wp2_with fail
              go_meet
              case rel => exact ⟨by simp [fineB], hide (by simp), rfl⟩
            · have k6 : (a == 6) = false := beq_eq_false_iff_ne.2 h6
              go_wp2_with fail
              go_meet
              case rel => exact ⟨by simp [fineB, k2, k6], hide (by simp), rfl⟩
        · have k5 : (ek == 5) = false := beq_eq_false_iff_ne.2 h5
          by_cases h6 : ek = 6
          · subst h6
            go_wp2_with fail
            go_meet
            case rel => exact ⟨by simp [fineB], hide (by simp), rfl⟩
          · have k6 : (ek == 6) = false := beq_eq_false_iff_ne.2 h6
            by_cases h7 : ek = 7
            · subst h7
              go_wp2_with fail
              go_meet
              case rel => exact ⟨by simp [fineB], hide (by simp), rfl⟩
            · have k7 : (ek == 7) = false := beq_eq_false_iff_ne.2 h7
              go_wp2_with fail
              refine (HFx.out _).mono ?_
              rintro ev w5 ⟨rfl, hb5⟩
              have HB5 := hide (below_of HBw.out (below_of HBr.out hb5))
              clear hb5
              go_wp2_with fail
              go_ret
              exact ⟨rfl, HB5.out⟩
      case rest =>
      obtain ⟨rfl, HK, rfl⟩ := hcut
      have HP3 := hide (HP2.out HK.out)
      clear HP2 HK x0 x4 x5 HN2
      generalize fineB (t, a, b) ⟨ek, eo, en, el, ej, eb, ei, ec, es, er, ew, ex, et⟩ = fb at *
      obtain ⟨fr, hfr⟩ : ∃ n : Nat, n = (fs (l ++ [⟨ek, eo, en, el, ej, eb, ei, ec, es, er, ew, ex, et⟩])).1 := ⟨_, rfl⟩
      obtain ⟨fa, hfa⟩ : ∃ n : Nat, n = (fs (l ++ [⟨ek, eo, en, el, ej, eb, ei, ec, es, er, ew, ex, et⟩])).2 := ⟨_, rfl⟩
      obtain ⟨bb, hbb⟩ : ∃ n : Bool, n = !(allL (l ++ [⟨ek, eo, en, el, ej, eb, ei, ec, es, er, ew, ex, et⟩])).isEmpty := ⟨_, rfl⟩
      have HA2 : Hid (∀ V u, Rv V u (l ++ [⟨ek, eo, en, el, ej, eb, ei, ec, es, er, ew, ex, et⟩]) → Calls Try.prog 7 #[u] V fun e w' => e = .returned (.tuple #[.agg #[.int .i64 (fr : Int), .int .i64 (fa : Int)], .bool bb, .int .i64 0]) ∧ Below V.heap.size V w') := hide fun V u h => by
        have h1 := HA1.out V u h
        rw [HP3.out.1, ← hfr, ← hfa, ← hbb] at h1
        exact h1
      have Hbb : Hid (bb = !fb) := hide (by
        rw [hbb]
        cases fb with
        | true => rw [HP3.out.2.1 rfl]; rfl
        | false =>
          as_aux_lemma =>
          have h1 := (HP3.out.2.2 rfl).1
          cases hq : allL (l ++ [⟨ek, eo, en, el, ej, eb, ei, ec, es, er, ew, ex, et⟩]) with
          | nil => exact absurd hq h1
          | cons y Y => rfl)
      have Hfa : Hid (fb = false → fa = l.length) := hide fun h => by
        obtain ⟨h1, h2⟩ := HP3.out.2.2 h
        rw [hfa]
        unfold fs
        cases hq : allL (l ++ [⟨ek, eo, en, el, ej, eb, ei, ec, es, er, ew, ex, et⟩]) with
        | nil => exact absurd hq h1
        | cons y Y => exact h2 y (by rw [hq]; exact List.mem_cons_self)
      clear hfr hfa hbb HA1 HP3
      replace HSrc1 : Hid (∀ V, Below wr.heap.size wr V → Srv V (.slice p l.length cap) L) := hide fun V hb => HSrc1.out V (below_of HBr.out hb)
      replace HTx : Hid (∀ V, Below wr.heap.size wr V → EvT V [((⟨ek, eo, en, el, ej, eb, ei, ec, es, er, ew, ex, et⟩ : Ev), Value.slice q et.length cq)]) := hide fun V hb => HTx.out V (below_of HBr.out hb)
      replace HXc : Hid (∀ V : World, Below wr.heap.size wr V → V.cell? ⟨bx, 0, none⟩ = some (.int .i64 ek) ∧ V.cell? ⟨bx, 1, none⟩ = some (.int .i64 eo) ∧ V.cell? ⟨bx, 2, none⟩ = some (.int .i64 en) ∧ V.cell? ⟨bx, 3, none⟩ = some (.int .i64 el) ∧ V.cell? ⟨bx, 4, none⟩ = some (.int .i64 ej) ∧ V.cell? ⟨bx, 5, none⟩ = some (.int .i64 eb) ∧ V.cell? ⟨bx, 6, none⟩ = some (.int .i64 ei) ∧ V.cell? ⟨bx, 7, none⟩ = some (.int .i64 ec) ∧ V.cell? ⟨bx, 8, none⟩ = some (.int .i64 es) ∧ V.cell? ⟨bx, 9, none⟩ = some (.int .i64 er) ∧ V.cell? ⟨bx, 10, none⟩ = some (.int .u64 ew) ∧ V.cell? ⟨bx, 11, none⟩ = some (.string ex) ∧ V.cell? ⟨bx, 12, none⟩ = some (.slice q et.length cq)) := hide fun V hb => HXc.out V (below_of HBr.out hb)
      replace HFin : Hid (∀ V u, V.ownsRow wr.heap.size 43 13 u (0 + L.length + [((⟨ek, eo, en, el, ej, eb, ei, ec, es, er, ew, ex, et⟩ : Ev), Value.slice q et.length cq)].length) ([] ++ evs L ++ evs [(⟨ek, eo, en, el, ej, eb, ei, ec, es, er, ew, ex, et⟩, Value.slice q et.length cq)]) → Below wr.heap.size wr V → Rv V u (l ++ [⟨ek, eo, en, el, ej, eb, ei, ec, es, er, ew, ex, et⟩])) := hide fun V u ho hb => HFin.out V u (own_base ho HBr.out.size) (below_of HBr.out hb)
      replace HT1 : Hid (∀ V, Below wr.heap.size wr V → EvT V L) := hide fun V hb => HT1.out V (below_of HBr.out hb)
      have HBy := hide (below_of HBw.out HBr.out)
      clear HBw HBr HLl Hbx HBx
      go_upto_region 22 with fail
      go_cut [6, 13, 14] (fun u6 u13 u14 wc => ∃ g, u6 = .bool bb ∧ u13 = .pointer (some ⟨g, 0, none⟩) ∧ u14 = .int .i64 0 ∧ Hid (wc.heap[g]? = some (.cells #[.int .i64 (fr : Int), .int .i64 (fa : Int)] 25 (0, 0))) ∧ Hid (Below wr.heap.size wr wc))
      case first =>
        as_aux_lemma =>
        have HS0 : Hid (Below wr.heap.size wr wr.drew) := hide ((Below.refl _ _).drew)
        clear HFx Hbb Hfa HBy h65
        refine wp_share (fun a1 a' W => ∃ (vA vB vC vD : Value) (g : Nat), a' = putAll a1 [(163, vA), (164, .slice p l.length cap), (165, vB), (166, .agg #[.int .i64 ek, .int .i64 eo, .int .i64 en, .int .i64 el, .int .i64 ej, .int .i64 eb, .int .i64 ei, .int .i64 ec, .int .i64 es, .int .i64 er, .int .u64 ew, .string ex, .slice q et.length cq]), (167, vC), (168, vD), (169, .tuple #[.agg #[.int .i64 (fr : Int), .int .i64 (fa : Int)], .bool bb, .int .i64 0]), (162, .tuple #[.agg #[.int .i64 (fr : Int), .int .i64 (fa : Int)], .bool bb, .int .i64 0]), (170, .agg #[.int .i64 (fr : Int), .int .i64 (fa : Int)]), (171, .bool bb), (172, .int .i64 0), (13, .pointer (some ⟨g, 0, none⟩)), (6, .bool bb), (14, .int .i64 0)] ∧ Hid (W.heap[g]? = some (.cells #[.int .i64 (fr : Int), .int .i64 (fa : Int)] 25 (0, 0))) ∧ Hid (Below wr.heap.size wr W)) ?_ ?_
        · intro a ha
          exact reg22 (by rw [ha]; rfl) (by rw [ha]; rfl) (by rw [ha]; exact (by decide : 190 < 195)) hLb HSrc1 HT1 HTx HXc HFin HA2
        · rintro a' W ⟨vA, vB, vC, vD, g, ha, HZ, HB⟩
          replace ha := ha.trans (put_fold (a' := ⟨#[_, _, _, _, _, _, _, _, _, _, _, _, _, _, _, _, _, _, _, _, _, _, _, _, _, _, _, _, _, _, _, _, _, _, _, _, _, _, _, _, _, _, _, _, _, _, _, _, _, _, _, _, _, _, _, _, _, _, _, _, _, _, _, _, _, _, _, _, _, _, _, _, _, _, _, _, _, _, _, _, _, _, _, _, _, _, _, _, _, _, _, _, _, _, _, _, _, _, _, _, _, _, _, _, _, _, _, _, _, _, _, _, _, _, _, _, _, _, _, _, _, _, _, _, _, _, _, _, _, _, _, _, _, _, _, _, _, _, _, _, _, _, _, _, _, _, _, _, _, _, _, _, _, _, _, _, _, _, _, _, _, _, _, _, _, _, _, _, _, _, _, _, _, _, _, _, _, _, _, _, _, _, _, _, _, _, _, _, _, _, _, _, _, _, _], _⟩) rfl)
          replace ha := ha.trans (put_fold (a' := ⟨#[_, _, _, _, _, _, _, _, _, _, _, _, _, _, _, _, _, _, _, _, _, _, _, _, _, _, _, _, _, _, _, _, _, _, _, _, _, _, _, _, _, _, _, _, _, _, _, _, _, _, _, _, _, _, _, _, _, _, _, _, _, _, _, _, _, _, _, _, _, _, _, _, _, _, _, _, _, _, _, _, _, _, _, _, _, _, _, _, _, _, _, _, _, _, _, _, _, _, _, _, _, _, _, _, _, _, _, _, _, _, _, _, _, _, _, _, _, _, _, _, _, _, _, _, _, _, _, _, _, _, _, _, _, _, _, _, _, _, _, _, _, _, _, _, _, _, _, _, _, _, _, _, _, _, _, _, _, _, _, _, _, _, _, _, _, _, _, _, _, _, _, _, _, _, _, _, _, _, _, _, _, _, _, _, _, _, _, _, _, _, _, _, _, _, _], _⟩) rfl)
          replace ha := ha.trans (put_fold (a' := ⟨#[_, _, _, _, _, _, _, _, _, _, _, _, _, _, _, _, _, _, _, _, _, _, _, _, _, _, _, _, _, _, _, _, _, _, _, _, _, _, _, _, _, _, _, _, _, _, _, _, _, _, _, _, _, _, _, _, _, _, _, _, _, _, _, _, _, _, _, _, _, _, _, _, _, _, _, _, _, _, _, _, _, _, _, _, _, _, _, _, _, _, _, _, _, _, _, _, _, _, _, _, _, _, _, _, _, _, _, _, _, _, _, _, _, _, _, _, _, _, _, _, _, _, _, _, _, _, _, _, _, _, _, _, _, _, _, _, _, _, _, _, _, _, _, _, _, _, _, _, _, _, _, _, _, _, _, _, _, _, _, _, _, _, _, _, _, _, _, _, _, _, _, _, _, _, _, _, _, _, _, _, _, _, _, _, _, _, _, _, _, _, _, _, _, _, _], _⟩) rfl)
          replace ha := ha.trans (put_fold (a' := ⟨#[_, _, _, _, _, _, _, _, _, _, _, _, _, _, _, _, _, _, _, _, _, _, _, _, _, _, _, _, _, _, _, _, _, _, _, _, _, _, _, _, _, _, _, _, _, _, _, _, _, _, _, _, _, _, _, _, _, _, _, _, _, _, _, _, _, _, _, _, _, _, _, _, _, _, _, _, _, _, _, _, _, _, _, _, _, _, _, _, _, _, _, _, _, _, _, _, _, _, _, _, _, _, _, _, _, _, _, _, _, _, _, _, _, _, _, _, _, _, _, _, _, _, _, _, _, _, _, _, _, _, _, _, _, _, _, _, _, _, _, _, _, _, _, _, _, _, _, _, _, _, _, _, _, _, _, _, _, _, _, _, _, _, _, _, _, _, _, _, _, _, _, _, _, _, _, _, _, _, _, _, _, _, _, _, _, _, _, _, _, _, _, _, _, _, _], _⟩) rfl)
          replace ha := ha.trans (put_fold (a' := ⟨#[_, _, _, _, _, _, _, _, _, _, _, _, _, _, _, _, _, _, _, _, _, _, _, _, _, _, _, _, _, _, _, _, _, _, _, _, _, _, _, _, _, _, _, _, _, _, _, _, _, _, _, _, _, _, _, _, _, _, _, _, _, _, _, _, _, _, _, _, _, _, _, _, _, _, _, _, _, _, _, _, _, _, _, _, _, _, _, _, _, _, _, _, _, _, _, _, _, _, _, _, _, _, _, _, _, _, _, _, _, _, _, _, _, _, _, _, _, _, _, _, _, _, _, _, _, _, _, _, _, _, _, _, _, _, _, _, _, _, _, _, _, _, _, _, _, _, _, _, _, _, _, _, _, _, _, _, _, _, _, _, _, _, _, _, _, _, _, _, _, _, _, _, _, _, _, _, _, _, _, _, _, _, _, _, _, _, _, _, _, _, _, _, _, _, _], _⟩) rfl)
          replace ha := ha.trans (put_fold (a' := ⟨#[_, _, _, _, _, _, _, _, _, _, _, _, _, _, _, _, _, _, _, _, _, _, _, _, _, _, _, _, _, _, _, _, _, _, _, _, _, _, _, _, _, _, _, _, _, _, _, _, _, _, _, _, _, _, _, _, _, _, _, _, _, _, _, _, _, _, _, _, _, _, _, _, _, _, _, _, _, _, _, _, _, _, _, _, _, _, _, _, _, _, _, _, _, _, _, _, _, _, _, _, _, _, _, _, _, _, _, _, _, _, _, _, _, _, _, _, _, _, _, _, _, _, _, _, _, _, _, _, _, _, _, _, _, _, _, _, _, _, _, _, _, _, _, _, _, _, _, _, _, _, _, _, _, _, _, _, _, _, _, _, _, _, _, _, _, _, _, _, _, _, _, _, _, _, _, _, _, _, _, _, _, _, _, _, _, _, _, _, _, _, _, _, _, _, _], _⟩) rfl)
          replace ha := ha.trans (put_fold (a' := ⟨#[_, _, _, _, _, _, _, _, _, _, _, _, _, _, _, _, _, _, _, _, _, _, _, _, _, _, _, _, _, _, _, _, _, _, _, _, _, _, _, _, _, _, _, _, _, _, _, _, _, _, _, _, _, _, _, _, _, _, _, _, _, _, _, _, _, _, _, _, _, _, _, _, _, _, _, _, _, _, _, _, _, _, _, _, _, _, _, _, _, _, _, _, _, _, _, _, _, _, _, _, _, _, _, _, _, _, _, _, _, _, _, _, _, _, _, _, _, _, _, _, _, _, _, _, _, _, _, _, _, _, _, _, _, _, _, _, _, _, _, _, _, _, _, _, _, _, _, _, _, _, _, _, _, _, _, _, _, _, _, _, _, _, _, _, _, _, _, _, _, _, _, _, _, _, _, _, _, _, _, _, _, _, _, _, _, _, _, _, _, _, _, _, _, _, _], _⟩) rfl)
          replace ha := ha.trans (put_fold (a' := ⟨#[_, _, _, _, _, _, _, _, _, _, _, _, _, _, _, _, _, _, _, _, _, _, _, _, _, _, _, _, _, _, _, _, _, _, _, _, _, _, _, _, _, _, _, _, _, _, _, _, _, _, _, _, _, _, _, _, _, _, _, _, _, _, _, _, _, _, _, _, _, _, _, _, _, _, _, _, _, _, _, _, _, _, _, _, _, _, _, _, _, _, _, _, _, _, _, _, _, _, _, _, _, _, _, _, _, _, _, _, _, _, _, _, _, _, _, _, _, _, _, _, _, _, _, _, _, _, _, _, _, _, _, _, _, _, _, _, _, _, _, _, _, _, _, _, _, _, _, _, _, _, _, _, _, _, _, _, _, _, _, _, _, _, _, _, _, _, _, _, _, _, _, _, _, _, _, _, _, _, _, _, _, _, _, _, _, _, _, _, _, _, _, _, _, _, _], _⟩) rfl)
          replace ha := ha.trans (put_fold (a' := ⟨#[_, _, _, _, _, _, _, _, _, _, _, _, _, _, _, _, _, _, _, _, _, _, _, _, _, _, _, _, _, _, _, _, _, _, _, _, _, _, _, _, _, _, _, _, _, _, _, _, _, _, _, _, _, _, _, _, _, _, _, _, _, _, _, _, _, _, _, _, _, _, _, _, _, _, _, _, _, _, _, _, _, _, _, _, _, _, _, _, _, _, _, _, _, _, _, _, _, _, _, _, _, _, _, _, _, _, _, _, _, _, _, _, _, _, _, _, _, _, _, _, _, _, _, _, _, _, _, _, _, _, _, _, _, _, _, _, _, _, _, _, _, _, _, _, _, _, _, _, _, _, _, _, _, _, _, _, _, _, _, _, _, _, _, _, _, _, _, _, _, _, _, _, _, _, _, _, _, _, _, _, _, _, _, _, _, _, _, _, _, _, _, _, _, _, _], _⟩) rfl)
          replace ha := ha.trans (put_fold (a' := ⟨#[_, _, _, _, _, _, _, _, _, _, _, _, _, _, _, _, _, _, _, _, _, _, _, _, _, _, _, _, _, _, _, _, _, _, _, _, _, _, _, _, _, _, _, _, _, _, _, _, _, _, _, _, _, _, _, _, _, _, _, _, _, _, _, _, _, _, _, _, _, _, _, _, _, _, _, _, _, _, _, _, _, _, _, _, _, _, _, _, _, _, _, _, _, _, _, _, _, _, _, _, _, _, _, _, _, _, _, _, _, _, _, _, _, _, _, _, _, _, _, _, _, _, _, _, _, _, _, _, _, _, _, _, _, _, _, _, _, _, _, _, _, _, _, _, _, _, _, _, _, _, _, _, _, _, _, _, _, _, _, _, _, _, _, _, _, _, _, _, _, _, _, _, _, _, _, _, _, _, _, _, _, _, _, _, _, _, _, _, _, _, _, _, _, _, _], _⟩) rfl)
          replace ha := ha.trans (put_fold (a' := ⟨#[_, _, _, _, _, _, _, _, _, _, _, _, _, _, _, _, _, _, _, _, _, _, _, _, _, _, _, _, _, _, _, _, _, _, _, _, _, _, _, _, _, _, _, _, _, _, _, _, _, _, _, _, _, _, _, _, _, _, _, _, _, _, _, _, _, _, _, _, _, _, _, _, _, _, _, _, _, _, _, _, _, _, _, _, _, _, _, _, _, _, _, _, _, _, _, _, _, _, _, _, _, _, _, _, _, _, _, _, _, _, _, _, _, _, _, _, _, _, _, _, _, _, _, _, _, _, _, _, _, _, _, _, _, _, _, _, _, _, _, _, _, _, _, _, _, _, _, _, _, _, _, _, _, _, _, _, _, _, _, _, _, _, _, _, _, _, _, _, _, _, _, _, _, _, _, _, _, _, _, _, _, _, _, _, _, _, _, _, _, _, _, _, _, _, _], _⟩) rfl)
          replace ha := ha.trans (put_fold (a' := ⟨#[_, _, _, _, _, _, _, _, _, _, _, _, _, _, _, _, _, _, _, _, _, _, _, _, _, _, _, _, _, _, _, _, _, _, _, _, _, _, _, _, _, _, _, _, _, _, _, _, _, _, _, _, _, _, _, _, _, _, _, _, _, _, _, _, _, _, _, _, _, _, _, _, _, _, _, _, _, _, _, _, _, _, _, _, _, _, _, _, _, _, _, _, _, _, _, _, _, _, _, _, _, _, _, _, _, _, _, _, _, _, _, _, _, _, _, _, _, _, _, _, _, _, _, _, _, _, _, _, _, _, _, _, _, _, _, _, _, _, _, _, _, _, _, _, _, _, _, _, _, _, _, _, _, _, _, _, _, _, _, _, _, _, _, _, _, _, _, _, _, _, _, _, _, _, _, _, _, _, _, _, _, _, _, _, _, _, _, _, _, _, _, _, _, _, _], _⟩) rfl)
          replace ha := ha.trans (put_fold (a' := ⟨#[_, _, _, _, _, _, _, _, _, _, _, _, _, _, _, _, _, _, _, _, _, _, _, _, _, _, _, _, _, _, _, _, _, _, _, _, _, _, _, _, _, _, _, _, _, _, _, _, _, _, _, _, _, _, _, _, _, _, _, _, _, _, _, _, _, _, _, _, _, _, _, _, _, _, _, _, _, _, _, _, _, _, _, _, _, _, _, _, _, _, _, _, _, _, _, _, _, _, _, _, _, _, _, _, _, _, _, _, _, _, _, _, _, _, _, _, _, _, _, _, _, _, _, _, _, _, _, _, _, _, _, _, _, _, _, _, _, _, _, _, _, _, _, _, _, _, _, _, _, _, _, _, _, _, _, _, _, _, _, _, _, _, _, _, _, _, _, _, _, _, _, _, _, _, _, _, _, _, _, _, _, _, _, _, _, _, _, _, _, _, _, _, _, _, _], _⟩) rfl)
          replace ha := ha.trans (put_fold (a' := ⟨#[_, _, _, _, _, _, _, _, _, _, _, _, _, _, _, _, _, _, _, _, _, _, _, _, _, _, _, _, _, _, _, _, _, _, _, _, _, _, _, _, _, _, _, _, _, _, _, _, _, _, _, _, _, _, _, _, _, _, _, _, _, _, _, _, _, _, _, _, _, _, _, _, _, _, _, _, _, _, _, _, _, _, _, _, _, _, _, _, _, _, _, _, _, _, _, _, _, _, _, _, _, _, _, _, _, _, _, _, _, _, _, _, _, _, _, _, _, _, _, _, _, _, _, _, _, _, _, _, _, _, _, _, _, _, _, _, _, _, _, _, _, _, _, _, _, _, _, _, _, _, _, _, _, _, _, _, _, _, _, _, _, _, _, _, _, _, _, _, _, _, _, _, _, _, _, _, _, _, _, _, _, _, _, _, _, _, _, _, _, _, _, _, _, _, _], _⟩) rfl)
          replace ha := ha.trans rfl
          subst ha
          go_wp2_with fail
          go_meet
          case rel => exact ⟨g, rfl, rfl, rfl, HZ, HB⟩
      case rest =>
      obtain ⟨g, rfl, rfl, rfl, HZ, HBz⟩ := hcut
      obtain ⟨wz, hwz⟩ : ∃ wz, wz = wc := ⟨_, rfl⟩
      subst hwz
      obtain ⟨f0, f1, fz⟩ := two_of HZ.out
      have HB4 := hide (below_of HBy.out HBz.out)
      have hbb := Hbb.out
      have hfa := Hfa.out
      clear h65 hLb hki hcap hll hi fz hil
      clear HSrc1 HTx HXc HFin HT1 HBy HBz HA2 HZ Hbb Hfa
      cases fb with
      | true =>
        as_aux_lemma =>
        replace hbb : bb = false := hbb
        subst hbb
        clear hfa
        go_wp2_with fail
        refine (HFx.out _).mono ?_
        rintro ev w6 ⟨rfl, hb6⟩
        have HB6 := hide (below_of HB4.out hb6)
        clear hb6
        go_wp2_with fail
        go_ret
        exact ⟨rfl, HB6.out⟩
      | false =>
        as_aux_lemma =>
        replace hbb : bb = true := hbb
        subst hbb
        rw [hfa rfl] at f1
        clear hfa
        go_wp2_with fail
        refine (HFx.out _).mono ?_
        rintro ev w6 ⟨rfl, hb6⟩
        have HB6 := hide (below_of HB4.out hb6)
        clear hb6
        go_wp2_with fail
        go_ret
        exact ⟨rfl, HB6.out⟩
end Go.Proofs.Ytjfgmdiafhkbgaa
