/-
  The laws' function puts: writes by plain numbers are writes behind a journal.
-/
import Derived.Test.YteggaeopnljgnaaGreatDoorMRedD
import Derived.Test.YteggaeopnljgnaaGreatDoorRLaw
import Derived.Test.YteggaeopnljgnaaGreatDoorMArg
namespace Go.Proofs.YteggaeopnljgnaaGreatDoor
open Go.RowKit Dsk

def posK (z : Int) : Nat := if z < 0 then (-(z + 1)).toNat else z.toNat
def putsT (n : Nat) (l : List SpecR) : List (Nat × ByteArray) := l.map fun o => (n + posK o.at_ % (40 - n), withB o.byte)
theorem putsT_len (n : Nat) (l : List SpecR) : (putsT n l).length = l.length := List.length_map _
theorem putsT_in (n : Nat) (hn : n ≤ 39) (l : List SpecR) : ∀ y ∈ putsT n l, n ≤ y.1 ∧ y.1 < 40 ∧ y.2.size = 256 := by
  intro y hy
  obtain ⟨o, _, rfl⟩ := List.mem_map.1 hy
  have := Nat.mod_lt (posK o.at_) (show 0 < 40 - n by omega)
  exact ⟨Nat.le_add_right _ _, by show n + posK o.at_ % (40 - n) < 40; omega, withB_size _⟩
/-- What is kept while writes are collected. -/
structure PhQ (w : World) (cv : Value) (c : List (Nat × ByteArray)) (k : Nat) (u : World) : Prop where
  low : Below w.heap.size w u
  cache : k = 0 → CacheAt cv c u
  hge : ∀ j, cv.ownBlock = some j → w.heap.size ≤ j
theorem PhQ.old {w : World} {cv : Value} {c : List (Nat × ByteArray)} {k : Nat} {u u' : World} (h : PhQ w cv c k u) (hb : Below u.heap.size u u') : PhQ w cv c k u' :=
  ⟨below_step h.low (Nat.le_refl _) hb, fun e => (h.cache e).kept fun j hj => hb.block j (World.ownsRow.lt (h.cache e) j hj).2, h.hge⟩
theorem PhQ.start {w wr : World} {cv : Value} {c : List (Nat × ByteArray)} (hl : Below w.heap.size w wr) (hc : CacheAt cv c wr) (hg : ∀ j, cv.ownBlock = some j → w.heap.size ≤ j) : PhQ w cv c 0 wr.drew :=
  PhQ.old (u := wr) ⟨hl, fun _ => hc, hg⟩ (below_drewN2 1)
theorem PhQ.grow {w : World} {cv : Value} {c : List (Nat × ByteArray)} {u u' : World} (h : PhQ w cv c 0 u) (hg : u.grownBy u' cv.ownBlock) : PhQ w cv c 1 u' :=
  ⟨below_grown h.low hg h.low.size h.hge, fun e => absurd e (by decide), h.hge⟩
set_option maxHeartbeats 6400000 in
set_option maxRecDepth 100000 in
theorem puts_any (v : Value) (l : List SpecR) (n most : Nat) (w : World) (hv : Specs w v l) (hn : n ≤ 39) (hm : most ≤ 60) :
    Calls Tryz.prog 28 #[v, .int .i64 (n : Int), .int .i64 (most : Int)] w fun e w' => ∃ v', e = .returned v' ∧ Below w.heap.size w w' ∧ CacheAt v' (putsT n (l.take most)) w' ∧ ∀ k, v'.ownBlock = some k → w.heap.size ≤ k := by
  obtain ⟨⟨a, cap, rfl, hll, hrow⟩, hok⟩ := hv
  have HROW := Lib.hid hrow
  have HOK := Lib.hid hok
  clear hrow hok
  go_enter Tryz.func28, Tryz.ntmps28
  go_upto_region 3 with fail
  go_loopw [7, 8] (fun v i wr => ∃ k : Nat, k ≤ l.length ∧ k ≤ most ∧ i = .int .i64 k ∧ CacheAt v (putsT n (l.take k)) wr ∧ (∀ j, v.ownBlock = some j → w.heap.size ≤ j) ∧ Below w.heap.size w wr) (fun _ i _ => l.length - (intOf i).toNat)
  case atStart => exact ⟨0, Nat.zero_le _, Nat.zero_le _, rfl, CacheAt.nil _, fun j e => by simp [Value.ownBlock] at e, Below.refl _ _⟩
  case round =>
    obtain ⟨k, hk, hkm, rfl, hcc, hge, hbl⟩ := hrel
    by_cases hlt : k < l.length ∧ k < most
    · obtain ⟨hlt, hlm⟩ := hlt
      have hlt' : (k : Int) < (l.length : Int) := by omega
      have hlm' : (k : Int) < (most : Int) := by omega
      obtain ⟨b, off, rfl, hbB, hcs⟩ := HROW.out k hlt
      obtain ⟨hz1, hz2⟩ := HOK.out l[k] (List.getElem_mem _)
      have htk : putsT n (l.take (k + 1)) = putsT n (l.take k) ++ [(n + posK l[k].at_ % (40 - n), withB l[k].byte)] := by
        unfold putsT
        rw [List.take_succ_eq_append_getElem hlt, List.map_append]
        rfl
      have c0 : wr.cell? ⟨b, off + k * 2, none⟩ = some (.int .i64 l[k].at_) := (hbl.cell (p := ⟨b, off + k * 2, none⟩) hbB).trans (hcs 0 _ rfl)
      have c1 : ∀ u, Below w.heap.size w u → u.cell? ⟨b, off + k * 2 + 1, none⟩ = some (.int .u8 (l[k].byte.toNat : Int)) := fun u hu => (hu.cell (p := ⟨b, off + k * 2 + 1, none⟩) hbB).trans (by rw [Nat.add_assoc]; exact hcs 1 _ rfl)
      have hw := fun u => with7_any l[k].byte u
      have hR := Nat.mod_lt (posK l[k].at_) (show 0 < 40 - n by omega)
      obtain ⟨Kn, hK⟩ : ∃ Kn, Kn = posK l[k].at_ := ⟨_, rfl⟩
      have hKz : (l[k].at_ < 0 ∧ -(l[k].at_ + 1) = (Kn : Int)) ∨ (0 ≤ l[k].at_ ∧ l[k].at_ = (Kn : Int)) := by
        rw [hK]
        unfold posK
        split <;> omega
      rw [← hK] at htk hR
      obtain ⟨R, hRR⟩ : ∃ R, R = Kn % (40 - n) := ⟨_, rfl⟩
      rw [← hRR] at htk hR
      have hrm : (Kn : Int).tmod ((40 - n : Nat) : Int) = (R : Int) := by rw [hRR]; rfl
      obtain ⟨A, hA⟩ : ∃ A, A = n + R := ⟨_, rfl⟩
      rw [← hA] at htk
      obtain ⟨X, hX⟩ : ∃ X, X = withB l[k].byte := ⟨_, rfl⟩
      rw [← hX] at htk
      simp only [← hX] at hw
      clear hX
      obtain ⟨y, hy⟩ : ∃ y : Int, y = (l[k].byte.toNat : Int) := ⟨_, rfl⟩
      rw [← hy] at hw
      simp only [← hy] at c1
      generalize l[k].at_ = z at *
      have hsub : ∀ u, (binOp .sub 3 (.int .i64 40) (.int .i64 (n : Int))).run Tryz.prog u = .ok (.int .i64 ((40 - n : Nat) : Int)) u := fun u => sub_int 40 (n : Int) _ (by omega) (by omega) u
      have hdn : ¬ ((40 - n : Nat) : Int) = 0 := by omega
      have hdn2 : ¬ 40 - n = 0 := by omega
      have hrem : ∀ u, (binOp .rem 3 (.int .i64 (Kn : Int)) (.int .i64 ((40 - n : Nat) : Int))).run Tryz.prog u = .ok (.int .i64 (R : Int)) u := by
        intro u
        have hKb : (Kn : Int) ≤ 9223372036854775807 := by omega
        obtain ⟨D, hD⟩ : ∃ D : Int, D = ((40 - n : Nat) : Int) := ⟨_, rfl⟩
        have hD1 : 0 < D := by omega
        have hD2 : D ≤ 40 := by omega
        rw [← hD] at hrm hdn ⊢
        rw [← hrm]
        have hw1 := IntWalk.i64_in ((Kn : Int).tmod D) (by rw [hrm]; omega)
        go_simp
      have hadd : ∀ u, (binOp .add 3 (.int .i64 (n : Int)) (.int .i64 (R : Int))).run Tryz.prog u = .ok (.int .i64 (A : Int)) u := fun u => add_int _ _ _ (by omega) (by omega) u
      have hix : ∀ u, (Instr.indexAt 49 (.slice (some ⟨b, off, none⟩) l.length cap) (.int .i64 (k : Int))).run Tryz.prog u = .ok (.pointer (some ⟨b, off + k * 2, none⟩)) u := by intro u; go_simp
      have hfl : ∀ u, (Instr.fieldAt 105 (.pointer (some ⟨b, off + k * 2, none⟩)) 1).run Tryz.prog u = .ok (.pointer (some ⟨b, off + k * 2 + 1, none⟩)) u := by intro u; go_simp
      have hld : ∀ u, Below w.heap.size w u → (Instr.loadAt 5 (.pointer (some ⟨b, off + k * 2 + 1, none⟩))).run Tryz.prog u = .ok (.int .u8 y) u := by
        intro u hu; have c := c1 u hu; go_simp
      obtain ⟨c, hc⟩ : ∃ c, c = putsT n (l.take k) := ⟨_, rfl⟩
      have hcl : c.length ≤ 100 := by rw [hc, putsT_len, List.length_take]; omega
      rw [← hc] at hcc htk
      obtain ⟨va, vc, rfl⟩ := hcc.slice
      have HTK := Lib.hid htk
      clear hc hcs htk c1 hK hRR hA hrm hdn hdn2 hy
      rcases hKz with ⟨hneg, hKe⟩ | ⟨hnn, hKe⟩
      · go_upto_region 8 with fail
        try rw [hKe]
        clear hKe hneg hz1 hz2 c0
        refine wp_region_ph (Lx := LxP) [RXP.is (.slice va c.length vc), RXP.is (.int .i64 (n : Int)), RXP.is (.int .i64 (Kn : Int)), RXP.is (.int .i64 (n : Int)), RXP.is (.int .i64 ((40 - n : Nat) : Int)), RXP.is (.int .i64 (R : Int)), RXP.is (.int .i64 (A : Int)), RXP.is (.slice (some ⟨b, off, none⟩) l.length cap), RXP.is (.int .i64 (k : Int)), RXP.is (.pointer (some ⟨b, off + k * 2, none⟩)), RXP.is (.pointer (some ⟨b, off + k * 2 + 1, none⟩)), RXP.is (.int .u8 y), RXP.is (.string X), RXP.is (.agg #[.int .i64 (A : Int), .string X]), QX A X, PX w.heap.size (c ++ [(A, X)]), PX w.heap.size (c ++ [(A, X)])] [15] (PhQ w (.slice va c.length vc) c) (by kernel_rfl) (by kernel_rfl) (by kernel_rfl) (by kernel_rfl) (by kernel_rfl) (PhQ.start hbl hcc hge) ⟨?_, ?_, ?_, ?_, ?_, ?_, ?_, ?_, ?_, ?_, ?_, ?_, ?_, ?_, ?_, ?_, ?_, trivial⟩ ?_
        · intro ac' w' ph hF hPh hlt hP hU K hK0
          have e7 : ac'.eval (.tmp 7) = .slice va c.length vc := by
            have hu := hU 16 7 (by kernel_rfl) rfl
            simp [Act.eval, hu]
          exact rop_move _ rfl e7 (wanted_none rfl) (hK0 _ _ (.inl ⟨rfl, Below.refl _ _⟩) hPh rfl)
        · intro ac' w' ph hF hPh hlt hP hU K hK0
          have e1 : ac'.eval (.tmp 1) = .int .i64 (n : Int) := hF.at 1 (by kernel_rfl)
          exact rop_move _ rfl e1 (wanted_none rfl) (hK0 _ _ (.inl ⟨rfl, Below.refl _ _⟩) hPh rfl)
        · intro ac' w' ph hF hPh hlt hP hU K hK0
          have e9 : ac'.eval (.tmp 9) = .int .i64 (Kn : Int) := hF.at 9 (by kernel_rfl)
          exact rop_move _ rfl e9 (wanted_none rfl) (hK0 _ _ (.inl ⟨rfl, Below.refl _ _⟩) hPh rfl)
        · intro ac' w' ph hF hPh hlt hP hU K hK0
          have e1 : ac'.eval (.tmp 1) = .int .i64 (n : Int) := hF.at 1 (by kernel_rfl)
          exact rop_move _ rfl e1 (wanted_none rfl) (hK0 _ _ (.inl ⟨rfl, Below.refl _ _⟩) hPh rfl)
        · intro ac' w' ph hF hPh hlt hP hU K hK0
          have e34 : ac'.eval (.tmp 34) = .int .i64 (n : Int) := hP 3 (by kernel_rfl)
          exact rop_bin _ _ _ _ _ rfl rfl e34 (guard_int _ _ _ _ _ _ _ _) (hsub _) (wanted_none rfl) (hK0 _ _ (.inl ⟨rfl, Below.refl _ _⟩) hPh rfl)
        · intro ac' w' ph hF hPh hlt hP hU K hK0
          have e33 : ac'.eval (.tmp 33) = .int .i64 (Kn : Int) := hP 2 (by kernel_rfl)
          have e35 : ac'.eval (.tmp 35) = .int .i64 ((40 - n : Nat) : Int) := hP 4 (by kernel_rfl)
          exact rop_bin _ _ _ _ _ rfl e33 e35 (guard_int _ _ _ _ _ _ _ _) (hrem _) (wanted_none rfl) (hK0 _ _ (.inl ⟨rfl, Below.refl _ _⟩) hPh rfl)
        · intro ac' w' ph hF hPh hlt hP hU K hK0
          have e32 : ac'.eval (.tmp 32) = .int .i64 (n : Int) := hP 1 (by kernel_rfl)
          have e36 : ac'.eval (.tmp 36) = .int .i64 (R : Int) := hP 5 (by kernel_rfl)
          exact rop_bin _ _ _ _ _ rfl e32 e36 (guard_int _ _ _ _ _ _ _ _) (hadd _) (wanted_none rfl) (hK0 _ _ (.inl ⟨rfl, Below.refl _ _⟩) hPh rfl)
        · intro ac' w' ph hF hPh hlt hP hU K hK0
          have e0 : ac'.eval (.tmp 0) = .slice (some ⟨b, off, none⟩) l.length cap := hF.at 0 (by kernel_rfl)
          exact rop_move _ rfl e0 (wanted_none rfl) (hK0 _ _ (.inl ⟨rfl, Below.refl _ _⟩) hPh rfl)
        · intro ac' w' ph hF hPh hlt hP hU K hK0
          have e8 : ac'.eval (.tmp 8) = .int .i64 (k : Int) := hF.at 8 (by kernel_rfl)
          exact rop_move _ rfl e8 (wanted_none rfl) (hK0 _ _ (.inl ⟨rfl, Below.refl _ _⟩) hPh rfl)
        · intro ac' w' ph hF hPh hlt hP hU K hK0
          have e38 : ac'.eval (.tmp 38) = .slice (some ⟨b, off, none⟩) l.length cap := hP 7 (by kernel_rfl)
          have e39 : ac'.eval (.tmp 39) = .int .i64 (k : Int) := hP 8 (by kernel_rfl)
          exact rop_idx _ _ _ rfl e38 e39 (hix _) (wanted_none rfl) (hK0 _ _ (.inl ⟨rfl, Below.refl _ _⟩) hPh rfl)
        · intro ac' w' ph hF hPh hlt hP hU K hK0
          have e40 : ac'.eval (.tmp 40) = .pointer (some ⟨b, off + k * 2, none⟩) := hP 9 (by kernel_rfl)
          exact rop_fld _ _ _ rfl e40 (hfl _) (wanted_none rfl) (hK0 _ _ (.inl ⟨rfl, Below.refl _ _⟩) hPh rfl)
        · intro ac' w' ph hF hPh hlt hP hU K hK0
          have e41 : ac'.eval (.tmp 41) = .pointer (some ⟨b, off + k * 2 + 1, none⟩) := hP 10 (by kernel_rfl)
          exact rop_ld _ _ rfl e41 (hld _ hPh.low) (wanted_none rfl) (hK0 _ _ (.inl ⟨rfl, Below.refl _ _⟩) hPh rfl)
        · intro ac' w' ph hF hPh hlt hP hU K hK0
          have e42 : ac'.eval (.tmp 42) = .int .u8 y := hP 11 (by kernel_rfl)
          refine rop_call 15 _ _ rfl #[.int .u8 y] (by simp [e42]) (by kernel_rfl) (wanted_none rfl) ?_
          refine (hw _).mono ?_
          rintro e w2 ⟨rfl, hb⟩
          exact ⟨_, rfl, hK0 _ _ (.inl ⟨rfl, hb⟩) (hPh.old hb) rfl⟩
        · intro ac' w' ph hF hPh hlt hP hU K hK0
          have e37 : ac'.eval (.tmp 37) = .int .i64 (A : Int) := hP 6 (by kernel_rfl)
          have e43 : ac'.eval (.tmp 43) = .string X := hP 12 (by kernel_rfl)
          exact rop_v (wanted_none rfl) (by simp [execOp, e37, e43, built_put]) (hK0 _ _ (.inl ⟨rfl, Below.refl _ _⟩) hPh rfl)
        · intro ac' w' ph hF hPh hlt hP hU K hK0
          have e44 : ac'.eval (.tmp 44) = .agg #[.int .i64 (A : Int), .string X] := hP 13 (by kernel_rfl)
          exact rop_put1 _ rfl e44 (wanted_none rfl) (hK0 _ _ (.inl ⟨rfl, (Below.refl _ _).alloc (Nat.le_refl _) _⟩) (hPh.old ((Below.refl _ _).alloc (Nat.le_refl _) _)) (fun _ => ⟨_, rfl, heap_alloc_last _ _⟩))
        · intro ac' w' ph hF hPh hlt hP hU K hK0
          obtain rfl : ph = 0 := (hlt 0 15 rfl).1 rfl
          have e31 : ac'.eval (.tmp 31) = .slice va c.length vc := hP 0 (by kernel_rfl)
          have e45 : (QX A X).p 0 (ac'.eval (.tmp 45)) w' := hP 14 (by kernel_rfl)
          obtain ⟨q, e45, hq⟩ := e45 rfl
          obtain ⟨cv', w6, hr6, hc6, hg6, ho6⟩ := append_put c (.slice va c.length vc) w' _ (hPh.cache rfl) q (A, X) hq (by omega)
          exact rop_append _ _ _ rfl e31 e45 hr6 (wanted_none rfl) (hK0 _ _ (.inr ⟨rfl, rfl⟩) (hPh.grow hg6) ⟨rfl, hc6, fun j e => by
            rcases ho6 j e with h | h
            · exact hge j h
            · exact Nat.le_trans hPh.low.size h⟩)
        · intro ac' w' ph hF hPh hlt hP hU K hK0
          have e46 : (PX w.heap.size (c ++ [(A, X)])).p ph (ac'.eval (.tmp 46)) w' := hP 15 (by kernel_rfl)
          exact rop_assign _ rfl rfl (wanted_none rfl) (hK0 _ _ (.inl ⟨rfl, Below.refl _ _⟩) hPh e46)
        · intro ac' w' hF hPh hT'
          have e7 : (PX w.heap.size (c ++ [(A, X)])).p 1 (ac'.eval (.tmp 7)) w' := hT' 16 (by decide)
          obtain ⟨_, hc8, ho8⟩ := e7
          rw [hF.sets [31, 32, 33, 34, 35, 36, 37, 38, 39, 40, 41, 42, 43, 44, 45, 46, 7] (by kernel_rfl)]
          simp only [List.foldl_cons, List.foldl_nil, List.setIfInBounds_toArray, List.set_cons_succ, List.set_cons_zero]
          generalize ac'.eval (.tmp 31) = u31
          generalize ac'.eval (.tmp 32) = u32
          generalize ac'.eval (.tmp 33) = u33
          generalize ac'.eval (.tmp 34) = u34
          generalize ac'.eval (.tmp 35) = u35
          generalize ac'.eval (.tmp 36) = u36
          generalize ac'.eval (.tmp 37) = u37
          generalize ac'.eval (.tmp 38) = u38
          generalize ac'.eval (.tmp 39) = u39
          generalize ac'.eval (.tmp 40) = u40
          generalize ac'.eval (.tmp 41) = u41
          generalize ac'.eval (.tmp 42) = u42
          generalize ac'.eval (.tmp 43) = u43
          generalize ac'.eval (.tmp 44) = u44
          generalize ac'.eval (.tmp 45) = u45
          generalize ac'.eval (.tmp 46) = u46
          generalize ac'.eval (.tmp 7) = v7 at hc8 ho8 ⊢
          clear hT' hF ac'
          have hrel' : CacheAt v7 (putsT n (l.take (k + 1))) w' := by rw [HTK.out]; exact hc8
          have P3 := hPh.low
          clear hPh hc8
          go_wp2
          go_roundw
          case rel => exact ⟨k + 1, by omega, by omega, by go_num, hrel', ho8, P3⟩
          case measure => simp [intOf]; omega

      · subst hKe
        have hnn' : ¬ (Kn : Int) < 0 := by omega
        go_upto_region 8 with fail
        clear hnn hnn' hz1 hz2 c0
        refine wp_region_ph (Lx := LxP) [RXP.is (.slice va c.length vc), RXP.is (.int .i64 (n : Int)), RXP.is (.int .i64 (Kn : Int)), RXP.is (.int .i64 (n : Int)), RXP.is (.int .i64 ((40 - n : Nat) : Int)), RXP.is (.int .i64 (R : Int)), RXP.is (.int .i64 (A : Int)), RXP.is (.slice (some ⟨b, off, none⟩) l.length cap), RXP.is (.int .i64 (k : Int)), RXP.is (.pointer (some ⟨b, off + k * 2, none⟩)), RXP.is (.pointer (some ⟨b, off + k * 2 + 1, none⟩)), RXP.is (.int .u8 y), RXP.is (.string X), RXP.is (.agg #[.int .i64 (A : Int), .string X]), QX A X, PX w.heap.size (c ++ [(A, X)]), PX w.heap.size (c ++ [(A, X)])] [15] (PhQ w (.slice va c.length vc) c) (by kernel_rfl) (by kernel_rfl) (by kernel_rfl) (by kernel_rfl) (by kernel_rfl) (PhQ.start hbl hcc hge) ⟨?_, ?_, ?_, ?_, ?_, ?_, ?_, ?_, ?_, ?_, ?_, ?_, ?_, ?_, ?_, ?_, ?_, trivial⟩ ?_
        · intro ac' w' ph hF hPh hlt hP hU K hK0
          have e7 : ac'.eval (.tmp 7) = .slice va c.length vc := by
            have hu := hU 16 7 (by kernel_rfl) rfl
            simp [Act.eval, hu]
          exact rop_move _ rfl e7 (wanted_none rfl) (hK0 _ _ (.inl ⟨rfl, Below.refl _ _⟩) hPh rfl)
        · intro ac' w' ph hF hPh hlt hP hU K hK0
          have e1 : ac'.eval (.tmp 1) = .int .i64 (n : Int) := hF.at 1 (by kernel_rfl)
          exact rop_move _ rfl e1 (wanted_none rfl) (hK0 _ _ (.inl ⟨rfl, Below.refl _ _⟩) hPh rfl)
        · intro ac' w' ph hF hPh hlt hP hU K hK0
          have e9 : ac'.eval (.tmp 9) = .int .i64 (Kn : Int) := hF.at 9 (by kernel_rfl)
          exact rop_move _ rfl e9 (wanted_none rfl) (hK0 _ _ (.inl ⟨rfl, Below.refl _ _⟩) hPh rfl)
        · intro ac' w' ph hF hPh hlt hP hU K hK0
          have e1 : ac'.eval (.tmp 1) = .int .i64 (n : Int) := hF.at 1 (by kernel_rfl)
          exact rop_move _ rfl e1 (wanted_none rfl) (hK0 _ _ (.inl ⟨rfl, Below.refl _ _⟩) hPh rfl)
        · intro ac' w' ph hF hPh hlt hP hU K hK0
          have e34 : ac'.eval (.tmp 34) = .int .i64 (n : Int) := hP 3 (by kernel_rfl)
          exact rop_bin _ _ _ _ _ rfl rfl e34 (guard_int _ _ _ _ _ _ _ _) (hsub _) (wanted_none rfl) (hK0 _ _ (.inl ⟨rfl, Below.refl _ _⟩) hPh rfl)
        · intro ac' w' ph hF hPh hlt hP hU K hK0
          have e33 : ac'.eval (.tmp 33) = .int .i64 (Kn : Int) := hP 2 (by kernel_rfl)
          have e35 : ac'.eval (.tmp 35) = .int .i64 ((40 - n : Nat) : Int) := hP 4 (by kernel_rfl)
          exact rop_bin _ _ _ _ _ rfl e33 e35 (guard_int _ _ _ _ _ _ _ _) (hrem _) (wanted_none rfl) (hK0 _ _ (.inl ⟨rfl, Below.refl _ _⟩) hPh rfl)
        · intro ac' w' ph hF hPh hlt hP hU K hK0
          have e32 : ac'.eval (.tmp 32) = .int .i64 (n : Int) := hP 1 (by kernel_rfl)
          have e36 : ac'.eval (.tmp 36) = .int .i64 (R : Int) := hP 5 (by kernel_rfl)
          exact rop_bin _ _ _ _ _ rfl e32 e36 (guard_int _ _ _ _ _ _ _ _) (hadd _) (wanted_none rfl) (hK0 _ _ (.inl ⟨rfl, Below.refl _ _⟩) hPh rfl)
        · intro ac' w' ph hF hPh hlt hP hU K hK0
          have e0 : ac'.eval (.tmp 0) = .slice (some ⟨b, off, none⟩) l.length cap := hF.at 0 (by kernel_rfl)
          exact rop_move _ rfl e0 (wanted_none rfl) (hK0 _ _ (.inl ⟨rfl, Below.refl _ _⟩) hPh rfl)
        · intro ac' w' ph hF hPh hlt hP hU K hK0
          have e8 : ac'.eval (.tmp 8) = .int .i64 (k : Int) := hF.at 8 (by kernel_rfl)
          exact rop_move _ rfl e8 (wanted_none rfl) (hK0 _ _ (.inl ⟨rfl, Below.refl _ _⟩) hPh rfl)
        · intro ac' w' ph hF hPh hlt hP hU K hK0
          have e38 : ac'.eval (.tmp 38) = .slice (some ⟨b, off, none⟩) l.length cap := hP 7 (by kernel_rfl)
          have e39 : ac'.eval (.tmp 39) = .int .i64 (k : Int) := hP 8 (by kernel_rfl)
          exact rop_idx _ _ _ rfl e38 e39 (hix _) (wanted_none rfl) (hK0 _ _ (.inl ⟨rfl, Below.refl _ _⟩) hPh rfl)
        · intro ac' w' ph hF hPh hlt hP hU K hK0
          have e40 : ac'.eval (.tmp 40) = .pointer (some ⟨b, off + k * 2, none⟩) := hP 9 (by kernel_rfl)
          exact rop_fld _ _ _ rfl e40 (hfl _) (wanted_none rfl) (hK0 _ _ (.inl ⟨rfl, Below.refl _ _⟩) hPh rfl)
        · intro ac' w' ph hF hPh hlt hP hU K hK0
          have e41 : ac'.eval (.tmp 41) = .pointer (some ⟨b, off + k * 2 + 1, none⟩) := hP 10 (by kernel_rfl)
          exact rop_ld _ _ rfl e41 (hld _ hPh.low) (wanted_none rfl) (hK0 _ _ (.inl ⟨rfl, Below.refl _ _⟩) hPh rfl)
        · intro ac' w' ph hF hPh hlt hP hU K hK0
          have e42 : ac'.eval (.tmp 42) = .int .u8 y := hP 11 (by kernel_rfl)
          refine rop_call 15 _ _ rfl #[.int .u8 y] (by simp [e42]) (by kernel_rfl) (wanted_none rfl) ?_
          refine (hw _).mono ?_
          rintro e w2 ⟨rfl, hb⟩
          exact ⟨_, rfl, hK0 _ _ (.inl ⟨rfl, hb⟩) (hPh.old hb) rfl⟩
        · intro ac' w' ph hF hPh hlt hP hU K hK0
          have e37 : ac'.eval (.tmp 37) = .int .i64 (A : Int) := hP 6 (by kernel_rfl)
          have e43 : ac'.eval (.tmp 43) = .string X := hP 12 (by kernel_rfl)
          exact rop_v (wanted_none rfl) (by simp [execOp, e37, e43, built_put]) (hK0 _ _ (.inl ⟨rfl, Below.refl _ _⟩) hPh rfl)
        · intro ac' w' ph hF hPh hlt hP hU K hK0
          have e44 : ac'.eval (.tmp 44) = .agg #[.int .i64 (A : Int), .string X] := hP 13 (by kernel_rfl)
          exact rop_put1 _ rfl e44 (wanted_none rfl) (hK0 _ _ (.inl ⟨rfl, (Below.refl _ _).alloc (Nat.le_refl _) _⟩) (hPh.old ((Below.refl _ _).alloc (Nat.le_refl _) _)) (fun _ => ⟨_, rfl, heap_alloc_last _ _⟩))
        · intro ac' w' ph hF hPh hlt hP hU K hK0
          obtain rfl : ph = 0 := (hlt 0 15 rfl).1 rfl
          have e31 : ac'.eval (.tmp 31) = .slice va c.length vc := hP 0 (by kernel_rfl)
          have e45 : (QX A X).p 0 (ac'.eval (.tmp 45)) w' := hP 14 (by kernel_rfl)
          obtain ⟨q, e45, hq⟩ := e45 rfl
          obtain ⟨cv', w6, hr6, hc6, hg6, ho6⟩ := append_put c (.slice va c.length vc) w' _ (hPh.cache rfl) q (A, X) hq (by omega)
          exact rop_append _ _ _ rfl e31 e45 hr6 (wanted_none rfl) (hK0 _ _ (.inr ⟨rfl, rfl⟩) (hPh.grow hg6) ⟨rfl, hc6, fun j e => by
            rcases ho6 j e with h | h
            · exact hge j h
            · exact Nat.le_trans hPh.low.size h⟩)
        · intro ac' w' ph hF hPh hlt hP hU K hK0
          have e46 : (PX w.heap.size (c ++ [(A, X)])).p ph (ac'.eval (.tmp 46)) w' := hP 15 (by kernel_rfl)
          exact rop_assign _ rfl rfl (wanted_none rfl) (hK0 _ _ (.inl ⟨rfl, Below.refl _ _⟩) hPh e46)
        · intro ac' w' hF hPh hT'
          have e7 : (PX w.heap.size (c ++ [(A, X)])).p 1 (ac'.eval (.tmp 7)) w' := hT' 16 (by decide)
          obtain ⟨_, hc8, ho8⟩ := e7
          rw [hF.sets [31, 32, 33, 34, 35, 36, 37, 38, 39, 40, 41, 42, 43, 44, 45, 46, 7] (by kernel_rfl)]
          simp only [List.foldl_cons, List.foldl_nil, List.setIfInBounds_toArray, List.set_cons_succ, List.set_cons_zero]
          generalize ac'.eval (.tmp 31) = u31
          generalize ac'.eval (.tmp 32) = u32
          generalize ac'.eval (.tmp 33) = u33
          generalize ac'.eval (.tmp 34) = u34
          generalize ac'.eval (.tmp 35) = u35
          generalize ac'.eval (.tmp 36) = u36
          generalize ac'.eval (.tmp 37) = u37
          generalize ac'.eval (.tmp 38) = u38
          generalize ac'.eval (.tmp 39) = u39
          generalize ac'.eval (.tmp 40) = u40
          generalize ac'.eval (.tmp 41) = u41
          generalize ac'.eval (.tmp 42) = u42
          generalize ac'.eval (.tmp 43) = u43
          generalize ac'.eval (.tmp 44) = u44
          generalize ac'.eval (.tmp 45) = u45
          generalize ac'.eval (.tmp 46) = u46
          generalize ac'.eval (.tmp 7) = v7 at hc8 ho8 ⊢
          clear hT' hF ac'
          have hrel' : CacheAt v7 (putsT n (l.take (k + 1))) w' := by rw [HTK.out]; exact hc8
          have P3 := hPh.low
          clear hPh hc8
          go_wp2
          go_roundw
          case rel => exact ⟨k + 1, by omega, by omega, by go_num, hrel', ho8, P3⟩
          case measure => simp [intOf]; omega

    · have hend : k = l.length ∨ (k < l.length ∧ k = most) := by omega
      have htk : putsT n (l.take k) = putsT n (l.take most) := by
        rcases hend with e | ⟨_, e⟩
        · rw [List.take_of_length_le (by omega), List.take_of_length_le (by omega)]
        · rw [e]
      rw [htk] at hcc
      have HCC := Lib.hid hcc
      clear hcc htk
      rcases hend with rfl | ⟨h1, rfl⟩
      · go_wp2
        go_ret
        exact ⟨_, rfl, hbl, HCC.out, hge⟩
      · have h1' : (k : Int) < (l.length : Int) := by omega
        go_wp2
        go_ret
        exact ⟨_, rfl, hbl, HCC.out, hge⟩
end Go.Proofs.YteggaeopnljgnaaGreatDoor
