import Derived.Test.YtpgehocadohkiaaGreatDoorMgAT

section
namespace Go.Proofs.YtpgehocadohkiaaGreatDoor
open Go.RowKit Go.Shelf

namespace Pg
def cutF (s : ByteArray) : ByteArray := ⟨(Lib.trimPrefix s.data.toList [102, 117, 101, 108, 32]).toArray⟩
def fuelP (s : ByteArray) (f : Int) : Int × Bool := if Lib.hasPrefix s.data.toList [102, 117, 101, 108, 32] then (((numP (cutF s)).1 : Int), (numP (cutF s)).2) else (f, false)
def cutN (s : ByteArray) : ByteArray := ⟨(Lib.trimSuffix s.data.toList [10]).toArray⟩
def addP (xs : List In) (r : In × Bool) : List In := if r.2 = true ∧ xs.length ≤ 64 then xs ++ [r.1] else xs
/-- what a line does to a program -/
def lineP (number : Nat) (line : ByteArray) (f : Int) (xs : List In) : (Int × List In) × Bool :=
  if Lib.hasSuffix line.data.toList [10] = false then ((f, xs), false)
  else if number = 1 then (((fuelP (cutN line) f).1, xs), (fuelP (cutN line) f).2)
  else ((f, addP xs (insP (cutN line))), (insP (cutN line)).2)
end Pg
/-- a program under way: its block, its own code -/
structure Prg (base P : Nat) (w : World) (f : Int) (v : Value) (xs : List In) : Prop where
  blk : Pb w P f v
  row : w.ownsRow base 71 6 v xs.length (Pg.flat xs)
  apt : ∀ g, v.ownBlock = some g → P < g
  low : base ≤ P
/-- the blocks that a program under way has -/
def Fp (P : Nat) (v : Value) (k : Nat) : Prop := k = P ∨ v.ownBlock = some k
/-- a step from a program to another one -/
structure Mp (P : Nat) (v v' : Value) (w w' : World) : Prop where
  os : w'.os = w.os
  tape : w'.tape = w.tape
  output : w'.output = w.output
  size : w.heap.size ≤ w'.heap.size
  block : ∀ k, k < w.heap.size → ¬ Fp P v k → w'.heap[k]? = w.heap[k]?
  foot : ∀ k, Fp P v' k → Fp P v k ∨ w.heap.size ≤ k
theorem Mp.of_below {P : Nat} {v : Value} {w w' : World} (h : Below w.heap.size w w') : Mp P v v w w' := ⟨h.os, h.tape, h.output, h.size, fun k hk _ => h.block k hk, fun _ h => .inl h⟩
theorem Mp.trans {P : Nat} {a b c : Value} {w1 w2 w3 : World} (h : Mp P a b w1 w2) (k : Mp P b c w2 w3) : Mp P a c w1 w3 :=
  ⟨k.os.trans h.os, k.tape.trans h.tape, k.output.trans h.output, Nat.le_trans h.size k.size, fun i hi hn => (k.block i (Nat.lt_of_lt_of_le hi h.size) (fun hf => (h.foot i hf).elim hn (fun h2 => by omega))).trans (h.block i hi hn),
    fun i hi => (k.foot i hi).elim (h.foot i) (fun h2 => .inr (Nat.le_trans h.size h2))⟩
theorem Mp.below {P base : Nat} {v v' : Value} {w w' : World} {f : Int} {xs : List In} (h : Mp P v v' w w') (hp : Prg base P w f v xs) (hb : base ≤ w.heap.size) : Below base w w' :=
  ⟨h.os, h.tape, h.output, h.size, fun k hk => h.block k (Nat.lt_of_lt_of_le hk hb) (fun hf => by
    rcases hf with rfl | hf
    · have := hp.low; omega
    · have := hp.apt k hf; have := hp.low; omega)⟩
theorem Prg.keep {base P : Nat} {w w' : World} {f : Int} {v : Value} {xs : List In} (h : Prg base P w f v xs) (hb : Below w.heap.size w w') : Prg base P w' f v xs :=
  ⟨h.blk.grown (grown_below hb none) (by simp), own_below h.row hb, h.apt, h.low⟩
set_option maxHeartbeats 1000000 in
theorem parseFuel_any {base P : Nat} {f : Int} {v : Value} {xs : List In} (line : ByteArray) (w : World) (hP : Prg base P w f v xs) (hT : Libs w) :
    Calls Tryz.prog 47 #[.pointer (some ⟨P, 0, none⟩), .string line] w fun e w' => e = .returned (.bool (Pg.fuelP line f).2) ∧ Prg base P w' (Pg.fuelP line f).1 v xs ∧ Mp P v v w w' := by
  have HC : Hid (Calls Tryz.prog 75 #[.string line, .string ⟨#[102, 117, 101, 108, 32]⟩] w fun e w' => e = .returned (.tuple #[.string (Pg.cutF line), .bool (Lib.hasPrefix line.data.toList [102, 117, 101, 108, 32])]) ∧ w' = w) := Tryz.strings_CutPrefix line ⟨#[102, 117, 101, 108, 32]⟩ w
  have HN := hide (parseNumber_any (Pg.cutF line) w hT)
  unfold Pg.fuelP
  have hlt := numP_lt (Pg.cutF line)
  generalize Pg.numP (Pg.cutF line) = r at *
  obtain ⟨u, ok⟩ := r
  generalize Pg.cutF line = c at *
  generalize Lib.hasPrefix line.data.toList [102, 117, 101, 108, 32] = hp at *
  have HP := hide hP
  clear hT hP
  cases hp with
  | false =>
    go_enter Tryz.func47, Tryz.ntmps47
    go_wp2_with fail
    refine HC.out.mono ?_
    rintro e w1 ⟨rfl, rfl⟩
    go_wp2
    go_ret
    exact ⟨rfl, HP.out, .of_below (Below.refl _ _)⟩
  | true =>
    go_enter Tryz.func47, Tryz.ntmps47
    go_wp2_with fail
    refine HC.out.mono ?_
    rintro e w1 ⟨rfl, rfl⟩
    go_wp2_with fail
    refine HN.out.mono ?_
    rintro e w2 ⟨rfl, hb2⟩
    have hP2 := HP.out.keep hb2
    have HB2 := hide hb2
    have p0 := hP2.blk.c0
    have p1 := hP2.blk.c1
    have pz := hP2.blk.z
    have HP2 := hide hP2
    have hu : u < 1000000000 := hlt
    clear hb2 hP2 HP
    go_wp2
    go_ret
    have hs := grown_set w2 P 0 (.int .i64 (u : Int))
    refine ⟨rfl, ⟨HP2.out.blk.set0 _, own_grown HP2.out.row hs (fun k hk => by have := HP2.out.apt k hk; simp; omega), HP2.out.apt, HP2.out.low⟩, ?_⟩
    refine (Mp.of_below HB2.out).trans ⟨hs.os, hs.tape, hs.output, hs.size, fun k hk hn => hs.block k hk (fun e => hn (.inl (by injection e))), fun k hk => .inl hk⟩
theorem line_added {base P IB : Nat} {w3 w7 : World} {f : Int} {v : Value} {xs : List In} {x : In} {o : Obj} {g cap : Nat} (hP : Prg base P w3 f v xs) (hI : Ib w3 IB x)
    (hown : w7.ownsRow base 71 6 (.slice (some ⟨g, 0, none⟩) (xs.length + 1) cap) (xs.length + 1) (Pg.flat xs ++ [.int .i64 x.op, .int .i64 x.a, .int .i64 x.b, .int .i64 x.c, .int .i64 x.n, .int .u64 (x.k : Int)])) (g7 : (w3.alloc o).grownBy w7 v.ownBlock) (hat : v.ownBlock = some g ∨ g = w3.heap.size + 1) (hIP : IB ≠ P) (hIv : v.ownBlock ≠ some IB) :
    Prg base P (w7.setCell ⟨P, 1, none⟩ (.slice (some ⟨g, 0, none⟩) (xs.length + 1) cap)) f (.slice (some ⟨g, 0, none⟩) (xs.length + 1) cap) (xs ++ [x]) ∧ Mp P v (.slice (some ⟨g, 0, none⟩) (xs.length + 1) cap) w3 (w7.setCell ⟨P, 1, none⟩ (.slice (some ⟨g, 0, none⟩) (xs.length + 1) cap)) ∧
    Ib w7 IB x ∧ Ib (w7.setCell ⟨P, 1, none⟩ (.slice (some ⟨g, 0, none⟩) (xs.length + 1) cap)) IB x := by
  have hPl := hP.blk.lt
  have hgP : P < g := by
    rcases hat with h | h
    · exact hP.apt g h
    · omega
  have hs := grown_set w7 P 1 (.slice (some ⟨g, 0, none⟩) (xs.length + 1) cap)
  have hkeep : ∀ k o', w3.heap[k]? = some o' → v.ownBlock ≠ some k → w7.heap[k]? = some o' := fun k o' hk hv =>
    (g7.block k (by have h1 := lt_of_block hk; rw [World.size_alloc]; omega) (fun e => hv e.symm)).trans ((Below.heap_alloc w3 o k (lt_of_block hk)).trans hk)
  have hP7 : Pb w7 P f v := hkeep P _ hP.blk (fun e => absurd (hP.apt P e) (Nat.lt_irrefl _))
  have hsz : w3.heap.size ≤ w7.heap.size := Nat.le_trans (by rw [World.size_alloc]; omega) g7.size
  have hI7 : Ib w7 IB x := hkeep IB _ hI hIv
  refine ⟨⟨hP7.set1 _, ?_, ?_, hP.low⟩, ⟨g7.os, g7.tape, g7.output, Nat.le_trans hsz hs.size, ?_, ?_⟩, hI7, hI7.grown hs (by simp; omega)⟩
  · rw [flat_snoc, List.length_append]
    exact own_grown hown hs (fun k hk => by simp only [Value.ownBlock] at hk; injection hk with hk; simp; omega)
  · intro k hk
    simp only [Value.ownBlock] at hk
    injection hk with hk
    omega
  · intro k hk hn
    obtain ⟨o', ho'⟩ : ∃ o', w3.heap[k]? = some o' := ⟨_, Array.getElem?_eq_getElem hk⟩
    rw [ho']
    exact (hs.block k (Nat.lt_of_lt_of_le hk hsz) (fun e => hn (.inl (by injection e)))).trans (hkeep k o' ho' (fun e => hn (.inr e)))
  · intro k hk
    rcases hk with rfl | hk
    · exact .inl (.inl rfl)
    · simp only [Value.ownBlock] at hk
      injection hk with hk
      subst hk
      rcases hat with h | h
      · exact .inl (.inr h)
      · exact .inr (by omega)
set_option maxRecDepth 10000 in
set_option maxHeartbeats 1000000 in
theorem parseLine_any {base P : Nat} {f : Int} {v : Value} {xs : List In} (number : Nat) (line : ByteArray) (hs : line.size ≤ 4611686018427387904) (w : World) (hP : Prg base P w f v xs) (hxs : xs.length ≤ 65) (hbase : base ≤ w.heap.size) (hT : Libs w) :
    Calls Tryz.prog 25 #[.pointer (some ⟨P, 0, none⟩), .int .i64 (number : Int), .string line] w fun e w' => ∃ v', e = .returned (.bool (Pg.lineP number line f xs).2) ∧ Prg base P w' (Pg.lineP number line f xs).1.1 v' (Pg.lineP number line f xs).1.2 ∧ Mp P v v' w w' := by
  have HC : Hid (Calls Tryz.prog 46 #[.string line, .string ⟨#[10]⟩] w fun e w' => e = .returned (.tuple #[.string (Pg.cutN line), .bool (Lib.hasSuffix line.data.toList [10])]) ∧ w' = w) := Tryz.strings_CutSuffix line ⟨#[10]⟩ w (by omega)
  have hcs : (Pg.cutN line).size ≤ 4611686018427387904 := by
    have hl : line.data.toList.length = line.size := by rw [Array.length_toList]; rfl
    show (Lib.trimSuffix line.data.toList [10]).toArray.size ≤ _
    rw [List.size_toArray]
    unfold Lib.trimSuffix
    split
    · rw [List.length_take]; omega
    · omega
  unfold Pg.lineP
  have HFu := hide (parseFuel_any (Pg.cutN line) w hP hT)
  have HIn := hide (parseIns_any (Pg.cutN line) hcs w hT)
  generalize Pg.fuelP (Pg.cutN line) f = fu at *
  generalize Pg.insP (Pg.cutN line) = is at *
  generalize Pg.cutN line = c at *
  generalize Lib.hasSuffix line.data.toList [10] = hp at *
  obtain ⟨fu1, fu2⟩ := fu
  obtain ⟨x, ok⟩ := is
  have HP := hide hP
  clear hT hP
  cases hp with
  | false =>
    rw [if_pos rfl]
    go_enter Tryz.func25, Tryz.ntmps25
    go_wp2_with fail
    refine HC.out.mono ?_
    rintro e w1 ⟨rfl, rfl⟩
    go_wp2
    go_ret
    exact ⟨v, rfl, HP.out, .of_below (Below.refl _ _)⟩
  | true =>
    rw [if_neg (by simp)]
    by_cases hn1 : number = 1
    · subst hn1
      rw [if_pos rfl]
      go_enter Tryz.func25, Tryz.ntmps25
      go_wp2_with fail
      refine HC.out.mono ?_
      rintro e w1 ⟨rfl, rfl⟩
      go_wp2_with fail
      refine HFu.out.mono ?_
      rintro e w2 ⟨rfl, hP2, hM2⟩
      have HP2 := hide hP2
      have HM2 := hide hM2
      clear hP2 hM2
      go_wp2
      go_ret
      exact ⟨v, rfl, HP2.out, HM2.out⟩
    · rw [if_neg hn1]
      have hnb : ((number : Int) == 1) = false := beq_eq_false_iff_ne.2 (by omega)
      obtain ⟨R, hRes⟩ : ∃ R, Pg.addP xs (x, ok) = R := ⟨_, rfl⟩
      rw [hRes]
      have HRes := hide hRes
      clear hRes
      go_enter Tryz.func25, Tryz.ntmps25
      go_wp2_with fail
      refine HC.out.mono ?_
      rintro e w1 ⟨rfl, rfl⟩
      go_wp2_with fail
      refine HIn.out.mono ?_
      rintro e w2 ⟨rfl, hb2⟩
      have HP2 := hide (HP.out.keep hb2)
      have HB2 := hide hb2
      clear hb2
      obtain ⟨ad, cap, rfl⟩ := own_slice HP2.out.row
      have hPl : P < w2.heap.size := HP2.out.blk.lt
      have HP3 := hide (HP2.out.keep (below_one w2 (.cells #[.int .i64 x.op, .int .i64 x.a, .int .i64 x.b, .int .i64 x.c, .int .i64 x.n, .int .u64 (x.k : Int)] 71)))
      have HI3 : Hid (Ib (w2.alloc (.cells #[.int .i64 x.op, .int .i64 x.a, .int .i64 x.b, .int .i64 x.c, .int .i64 x.n, .int .u64 (x.k : Int)] 71)) w2.heap.size x) := heap_alloc_new w2 _
      have HZ3 : Hid (base ≤ (w2.alloc (.cells #[.int .i64 x.op, .int .i64 x.a, .int .i64 x.b, .int .i64 x.c, .int .i64 x.n, .int .u64 (x.k : Int)] 71)).heap.size) := by have := HB2.out.size; show base ≤ _; rw [World.size_alloc]; omega
      have HNV : Hid ((Value.slice ad xs.length cap).ownBlock ≠ some w2.heap.size) := fun e => by have := (HP2.out.row.lt _ e).2; omega
      have p0 := HP3.out.blk.c0
      have p1 := HP3.out.blk.c1
      have pz := HP3.out.blk.z
      obtain ⟨⟨x0, x1, x2, x3, x4, x5⟩, xz⟩ := six_of HI3.out
      cases ok with
      | false =>
        go_wp2
        go_ret
        exact ⟨_, rfl, by rw [← HRes.out]; exact HP3.out, (Mp.of_below HB2.out).trans (Mp.of_below (below_one w2 _))⟩
      | true =>
        by_cases h64 : xs.length ≤ 64
        · have h64' : (xs.length : Int) ≤ 64 := by omega
          go_wp2_with fail
          generalize hW3 : w2.alloc (.cells #[.int .i64 x.op, .int .i64 x.a, .int .i64 x.b, .int .i64 x.c, .int .i64 x.n, .int .u64 (x.k : Int)] 71) = w3 at *
          have HW3 := hide hW3
          clear hW3
          have HPd : Hid (Prg base P w3.drew f (.slice ad xs.length cap) xs) := ⟨HP3.out.blk, HP3.out.row, HP3.out.apt, HP3.out.low⟩
          have HId : Hid (Ib w3.drew w2.heap.size x) := HI3.out
          have HZd : Hid (base ≤ w3.drew.heap.size) := HZ3.out
          have HMd : Hid (Mp P (.slice ad xs.length cap) (.slice ad xs.length cap) w3 w3.drew) := ⟨rfl, rfl, rfl, Nat.le_refl _, fun _ _ _ => rfl, fun _ h => .inl h⟩
          refine wp_region_held_drew (S := fun w' => Ib w' w2.heap.size x) (by kernel_rfl) HI3.out (fun hHeld => ?_)
          generalize w3.drew = wd at *
          obtain ⟨i0, hi0, hz0, hz1, hz2⟩ := info_parts Tryz.infoI
          have c1d : wd.cell? ⟨P, 1, none⟩ = some (.slice ad xs.length cap) := HPd.out.blk.c1
          have c6 : (wd.alloc (.cells #[.int .i64 x.op, .int .i64 x.a, .int .i64 x.b, .int .i64 x.c, .int .i64 x.n, .int .u64 (x.k : Int)] 71)).cell? ⟨P, 1, none⟩ = some (.slice ad xs.length cap) := Lib.cell?_alloc_some _ c1d
          have HS6 : Hid (Ib (wd.alloc (.cells #[.int .i64 x.op, .int .i64 x.a, .int .i64 x.b, .int .i64 x.c, .int .i64 x.n, .int .u64 (x.k : Int)] 71)) w2.heap.size x) := HId.out.grown (grown_one wd (.cells #[.int .i64 x.op, .int .i64 x.a, .int .i64 x.b, .int .i64 x.c, .int .i64 x.n, .int .u64 (x.k : Int)] 71) none) (by simp)
          have c5 : True := trivial
          refine wpAnyH_take (i := 0) (v := (.pointer (some ⟨P, 0, none⟩))) rfl (by kernel_rfl) (by kernel_rfl) (by kernel_rfl) (fun _ _ _ h => h) (Or.inl ⟨by rfl, fun w1 hSw => by clear hHeld hSw; go_simp⟩) hHeld ?_
          simp only [Act.put, List.setIfInBounds_toArray]
          refine wpAnyH_take (i := 1) (v := (.pointer (some ⟨P, 0, none⟩))) rfl (by kernel_rfl) (by kernel_rfl) (by kernel_rfl) (fun _ _ _ h => h) (Or.inl ⟨by rfl, fun w1 hSw => by clear hHeld hSw; go_simp⟩) hHeld ?_
          try simp only [Act.put]
          refine wpAnyH_take (i := 2) (v := (.pointer (some ⟨P, 0, none⟩))) rfl (by kernel_rfl) (by kernel_rfl) (by kernel_rfl) (fun _ _ _ h => h) (Or.inl ⟨by rfl, fun w1 hSw => by clear hHeld hSw; go_simp⟩) hHeld ?_
          try simp only [Act.put]
          refine wpAnyH_take (i := 3) (v := (.pointer (some ⟨P, 1, none⟩))) rfl (by kernel_rfl) (by kernel_rfl) (by kernel_rfl) (fun _ _ _ h => h) (Or.inl ⟨by rfl, fun w1 hSw => by clear hHeld hSw; go_simp⟩) hHeld ?_
          try simp only [Act.put]
          refine wpAnyH_take (i := 5) (v := (.agg #[.int .i64 x.op, .int .i64 x.a, .int .i64 x.b, .int .i64 x.c, .int .i64 x.n, .int .u64 (x.k : Int)])) rfl (by kernel_rfl) (by kernel_rfl) (by kernel_rfl) (fun _ _ _ h => h) (Or.inl ⟨by rfl, fun w1 hSw => by obtain ⟨⟨q0, q1, q2, q3, q4, q5⟩, qz⟩ := six_of hSw; clear hHeld hSw; go_simp⟩) hHeld ?_
          try simp only [Act.put]
          refine wpAnyH_ready (rs := [4, 6]) (by kernel_rfl) (by simp) ?_
          refine AllReadyH.cons rfl (fun K hK => ?_) (AllReadyH.cons rfl (fun K hK => ?_) AllReadyH.nil)
          · go_simp
            refine hK.out _ _ hHeld (fun hHeld => ?_)
            try simp only [Act.put]
            clear hK K
            refine wpAnyH_ready (rs := [6]) (by kernel_rfl) (by simp) ?_
            refine AllReadyH.cons rfl (fun K hK => ?_) AllReadyH.nil
            go_simp
            refine hK.out _ _ HS6.out (fun hHeld => ?_)
            try simp only [Act.put]
            clear hK K
            refine wpAnyH_ready (rs := [7]) (by kernel_rfl) (by simp) ?_
            refine AllReadyH.cons rfl (fun K hK => ?_) AllReadyH.nil
            refine step_append_lies _ rfl (.tmp 40) (.tmp 42) 22 rfl base 71 i0 (.agg #[.int .i64 0, .int .i64 0, .int .i64 0, .int .i64 0, .int .i64 0, .int .u64 0]) 6 48 Tryz.underlying22 hi0 hz0 hz1 hz2 rfl (by decide) (.slice ad xs.length cap) xs.length (Pg.flat xs) rfl (own_grown HPd.out.row (grown_one wd (.cells #[.int .i64 x.op, .int .i64 x.a, .int .i64 x.b, .int .i64 x.c, .int .i64 x.n, .int .u64 (x.k : Int)] 71) none) (fun _ _ => by simp)) ⟨wd.heap.size, 0, none⟩ 1 1 [.int .i64 x.op, .int .i64 x.a, .int .i64 x.b, .int .i64 x.c, .int .i64 x.n, .int .u64 (x.k : Int)] rfl rfl
              (World.news_of_block (cs := #[.int .i64 x.op, .int .i64 x.a, .int .i64 x.b, .int .i64 x.c, .int .i64 x.n, .int .u64 (x.k : Int)]) (t := 71) (fr := (0, 0)) (heap_alloc_new wd _)) (by simp [Value.oneCell']) (by decide) (by unfold maxLen; omega) (by omega) (by rw [World.size_alloc]; have := HZd.out; omega) (wd.heap.size + 1) (by rw [World.size_alloc]) ?_
            intro g cap' w7 hown hgrow hat _
            obtain ⟨q1, q2, q3⟩ := line_added HPd.out HId.out hown hgrow hat (by omega) HNV.out
            have HQ1 := hide q1
            have HQ2 := hide q2
            have d1 : w7.cell? ⟨P, 1, none⟩ = some (.slice ad xs.length cap) := hgrow.cell c6 (fun e => absurd (HPd.out.apt _ e.symm) (Nat.lt_irrefl _))
            have dz : w7.frozen? ⟨P, 1, none⟩ = false := (hgrow.frozen_far ⟨P, 1, none⟩ (World.block_lt_of_cell? _ _ c6) (fun e => absurd (HPd.out.apt _ e.symm) (Nat.lt_irrefl _))).trans ((HPd.out.blk.grown (grown_one wd (.cells #[.int .i64 x.op, .int .i64 x.a, .int .i64 x.b, .int .i64 x.c, .int .i64 x.n, .int .u64 (x.k : Int)] 71) none) (by simp)).z 1)
            have hS7 : Ib w7 w2.heap.size x := q3.1
            have hS8 : Ib (w7.setCell ⟨P, 1, none⟩ (.slice (some ⟨g, 0, none⟩) (xs.length + 1) cap')) w2.heap.size x := q3.2
            clear hown hgrow hat q1 q2 q3
            refine hK.out _ _ hS7 (fun hHeld => ?_)
            try simp only [Act.put]
            clear hK K
            refine wpAnyH_take (i := 8) (v := (.pointer (some ⟨P, 0, none⟩))) rfl (by kernel_rfl) (by kernel_rfl) (by kernel_rfl) (fun _ _ _ h => h) (Or.inl ⟨by rfl, fun w1 hSw => by clear hHeld hSw; go_simp⟩) hHeld ?_
            try simp only [Act.put]
            refine wpAnyH_take (i := 9) (v := (.pointer (some ⟨P, 1, none⟩))) rfl (by kernel_rfl) (by kernel_rfl) (by kernel_rfl) (fun _ _ _ h => h) (Or.inl ⟨by rfl, fun w1 hSw => by clear hHeld hSw; go_simp⟩) hHeld ?_
            try simp only [Act.put]
            refine wpAnyH_ready (rs := [10]) (by kernel_rfl) (by simp) ?_
            refine AllReadyH.cons rfl (fun K hK => ?_) AllReadyH.nil
            go_simp
            refine hK.out _ _ hS8 (fun hHeld => ?_)
            refine wpAnyH_done (by kernel_rfl) ?_ _
            clear hHeld hK K hS7 hS8 d1 dz c6 c5 c1d
            go_wp2
            go_ret
            exact ⟨_, rfl, by rw [← HRes.out]; unfold Pg.addP; rw [if_pos ⟨rfl, h64⟩]; exact HQ1.out, (Mp.of_below HB2.out).trans ((Mp.of_below (below_one w2 _)).trans (by rw [HW3.out]; exact HMd.out.trans HQ2.out))⟩
          · go_simp
            refine hK.out _ _ HS6.out (fun hHeld => ?_)
            try simp only [Act.put]
            clear hK K
            refine wpAnyH_ready (rs := [4]) (by kernel_rfl) (by simp) ?_
            refine AllReadyH.cons rfl (fun K hK => ?_) AllReadyH.nil
            go_simp
            refine hK.out _ _ hHeld (fun hHeld => ?_)
            try simp only [Act.put]
            clear hK K
            refine wpAnyH_ready (rs := [7]) (by kernel_rfl) (by simp) ?_
            refine AllReadyH.cons rfl (fun K hK => ?_) AllReadyH.nil
            refine step_append_lies _ rfl (.tmp 40) (.tmp 42) 22 rfl base 71 i0 (.agg #[.int .i64 0, .int .i64 0, .int .i64 0, .int .i64 0, .int .i64 0, .int .u64 0]) 6 48 Tryz.underlying22 hi0 hz0 hz1 hz2 rfl (by decide) (.slice ad xs.length cap) xs.length (Pg.flat xs) rfl (own_grown HPd.out.row (grown_one wd (.cells #[.int .i64 x.op, .int .i64 x.a, .int .i64 x.b, .int .i64 x.c, .int .i64 x.n, .int .u64 (x.k : Int)] 71) none) (fun _ _ => by simp)) ⟨wd.heap.size, 0, none⟩ 1 1 [.int .i64 x.op, .int .i64 x.a, .int .i64 x.b, .int .i64 x.c, .int .i64 x.n, .int .u64 (x.k : Int)] rfl rfl
              (World.news_of_block (cs := #[.int .i64 x.op, .int .i64 x.a, .int .i64 x.b, .int .i64 x.c, .int .i64 x.n, .int .u64 (x.k : Int)]) (t := 71) (fr := (0, 0)) (heap_alloc_new wd _)) (by simp [Value.oneCell']) (by decide) (by unfold maxLen; omega) (by omega) (by rw [World.size_alloc]; have := HZd.out; omega) (wd.heap.size + 1) (by rw [World.size_alloc]) ?_
            intro g cap' w7 hown hgrow hat _
            obtain ⟨q1, q2, q3⟩ := line_added HPd.out HId.out hown hgrow hat (by omega) HNV.out
            have HQ1 := hide q1
            have HQ2 := hide q2
            have d1 : w7.cell? ⟨P, 1, none⟩ = some (.slice ad xs.length cap) := hgrow.cell c6 (fun e => absurd (HPd.out.apt _ e.symm) (Nat.lt_irrefl _))
            have dz : w7.frozen? ⟨P, 1, none⟩ = false := (hgrow.frozen_far ⟨P, 1, none⟩ (World.block_lt_of_cell? _ _ c6) (fun e => absurd (HPd.out.apt _ e.symm) (Nat.lt_irrefl _))).trans ((HPd.out.blk.grown (grown_one wd (.cells #[.int .i64 x.op, .int .i64 x.a, .int .i64 x.b, .int .i64 x.c, .int .i64 x.n, .int .u64 (x.k : Int)] 71) none) (by simp)).z 1)
            have hS7 : Ib w7 w2.heap.size x := q3.1
            have hS8 : Ib (w7.setCell ⟨P, 1, none⟩ (.slice (some ⟨g, 0, none⟩) (xs.length + 1) cap')) w2.heap.size x := q3.2
            clear hown hgrow hat q1 q2 q3
            refine hK.out _ _ hS7 (fun hHeld => ?_)
            try simp only [Act.put]
            clear hK K
            refine wpAnyH_take (i := 8) (v := (.pointer (some ⟨P, 0, none⟩))) rfl (by kernel_rfl) (by kernel_rfl) (by kernel_rfl) (fun _ _ _ h => h) (Or.inl ⟨by rfl, fun w1 hSw => by clear hHeld hSw; go_simp⟩) hHeld ?_
            try simp only [Act.put]
            refine wpAnyH_take (i := 9) (v := (.pointer (some ⟨P, 1, none⟩))) rfl (by kernel_rfl) (by kernel_rfl) (by kernel_rfl) (fun _ _ _ h => h) (Or.inl ⟨by rfl, fun w1 hSw => by clear hHeld hSw; go_simp⟩) hHeld ?_
            try simp only [Act.put]
            refine wpAnyH_ready (rs := [10]) (by kernel_rfl) (by simp) ?_
            refine AllReadyH.cons rfl (fun K hK => ?_) AllReadyH.nil
            go_simp
            refine hK.out _ _ hS8 (fun hHeld => ?_)
            refine wpAnyH_done (by kernel_rfl) ?_ _
            clear hHeld hK K hS7 hS8 d1 dz c6 c5 c1d
            go_wp2
            go_ret
            exact ⟨_, rfl, by rw [← HRes.out]; unfold Pg.addP; rw [if_pos ⟨rfl, h64⟩]; exact HQ1.out, (Mp.of_below HB2.out).trans ((Mp.of_below (below_one w2 _)).trans (by rw [HW3.out]; exact HMd.out.trans HQ2.out))⟩
        · have h64' : ¬ (xs.length : Int) ≤ 64 := by omega
          go_wp2
          go_ret
          exact ⟨_, rfl, by rw [← HRes.out]; unfold Pg.addP; rw [if_neg (fun h => h64 h.2)]; exact HP3.out, (Mp.of_below HB2.out).trans (Mp.of_below (below_one w2 _))⟩
end Go.Proofs.YtpgehocadohkiaaGreatDoor
end
