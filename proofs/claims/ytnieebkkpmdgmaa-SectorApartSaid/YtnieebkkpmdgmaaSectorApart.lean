/-
  SectorApart: what is written into one of 8 sectors changes no other one, and each one is read as it was written last, be it flushed in between or not. For every script of up to 40 writes (of a longer one the first 40), and every place of a flush, no condition.
-/
import Derived.Test.YtnieebkkpmdgmaaSecAwake
import Derived.Test.YtnieebkkpmdgmaaOpArg
import Derived.Test.YtnieebkkpmdgmaaGenLaw
import Derived.Test.YtnieebkkpmdgmaaSecLaw
namespace Go.Proofs.Ytnieebkkpmdgmaa.sectorApart
open Go.ChangeShapes Go.WideShapes Go.ChangeAt Go.RowKit Dsk

def zpart (k : Nat) : List ByteArray := List.replicate k zeroB ++ List.replicate (8 - k) ⟨#[]⟩
theorem zpart_len (k : Nat) (h : k ≤ 8) : (zpart k).length = 8 := by simp [zpart]; omega
theorem zpart_set (k : Nat) (h : k < 8) : (zpart k).set k zeroB = zpart (k + 1) := by
  unfold zpart
  rw [List.set_append_right _ _ (by simp), List.length_replicate, Nat.sub_self, show 8 - k = (8 - (k + 1)) + 1 by omega, List.replicate_succ, List.set_cons_zero, List.replicate_succ']
  simp
theorem new_read (s : Nat) (hs : s < 8) : Dsk.read (Dsk.new 8) s = (zpart 8).getD s .empty := by
  show (List.replicate 8 zeroB).getD s .empty = _
  unfold zpart
  rw [Nat.sub_self, List.replicate_zero, List.append_nil]

set_option maxHeartbeats 6400000 in
set_option maxRecDepth 100000 in
theorem walk {w : World} (v : Value) (l : List OpR) (hl : Ops w v l) (bh : Int) (_l : -9223372036854775808 ≤ bh) (_m : bh ≤ 9223372036854775807) :
    Calls Try.prog 9 #[v, .int .i64 bh] w fun e w' => e = .returned (.bool true) ∧ Below w.heap.size w w' := by
  obtain ⟨av, cap, rfl, hll, hops⟩ := hl
  obtain ⟨O, hmk, hcv⟩ := zeros_obj 256 (by decide)
  rw [show ((256 : Nat) : Int) = 256 from rfl, show zs 256 = zeroB from rfl] at *
  go_enter Try.func9, Try.ntmps9
  go_upto_region 2 with (go_at_call 10; refine (awake_any _).mono ?_; rintro e w1 ⟨rfl, b1⟩)
  have hnew := newIn 8 w1 w.heap.size (by decide) (by decide) b1.size
  rw [show ((8 : Nat) : Int) = 8 from rfl] at hnew
  go_upto_region 5 with (go_at_call 16; refine hnew.mono ?_; rintro e w2 ⟨p, rfl, h2, b2⟩)
  have s2 := below_step b1 (Nat.le_refl _) b2
  clear hnew b1 b2
  go_upto_region 6 with fail
  obtain ⟨w3, hw3⟩ : ∃ w3, w3 = w2.alloc (.cells #[.string ⟨#[]⟩, .string ⟨#[]⟩, .string ⟨#[]⟩, .string ⟨#[]⟩, .string ⟨#[]⟩, .string ⟨#[]⟩, .string ⟨#[]⟩, .string ⟨#[]⟩] 60) := ⟨_, rfl⟩
  have b3 : Below w2.heap.size w2 w3 := by rw [hw3]; exact (Below.refl _ _).alloc (Nat.le_refl _) _
  obtain ⟨q, hq⟩ : ∃ q, q = w2.heap.size := ⟨_, rfl⟩
  have hq3 : Want 60 q (zpart 0) w3 := by rw [hw3, hq]; exact heap_alloc_last w2 _
  have h3 := h2.old b3
  have s3 := below_step s2 (Nat.le_refl _) b3
  have hqB : w.heap.size ≤ q := by rw [hq]; exact s2.size
  rw [← hw3, ← hq]
  clear hw3 hq h2 s2 b3
  go_upto_region 7 with fail
  go_loopw [8] (fun i wr => ∃ k : Nat, k ≤ 8 ∧ i = .int .i64 k ∧ Want 60 q (zpart k) wr ∧ DiskIn w.heap.size p (Dsk.new 8) wr ∧ Below w.heap.size w wr) (fun i _ => 8 - (intOf i).toNat)
  case atStart => exact ⟨0, by omega, rfl, hq3, h3, s3⟩
  case round =>
    obtain ⟨k, hk, rfl, hqr, hdr, hbr⟩ := hrel
    clear hq3 h3 s3
    by_cases hlt : k < 8
    · have al : Below wr.heap.size wr (wr.alloc O) := (Below.refl _ _).alloc (Nat.le_refl _) _
      have hqa := hqr.old al
      have ca := hqa.cell (i := k) (by rw [zpart_len k hk]; exact hlt)
      have fa := hqa.fz k
      have hda := (hdr.old al).want hqa (by decide) (by decide) (by decide) k (.string zeroB)
      have hba : Below w.heap.size w ((wr.alloc O).setCell ⟨q, k, none⟩ (.string zeroB)) := (hbr.alloc hbr.size O).setCell (p := ⟨q, k, none⟩) hqB _
      have hqs := hqa.set k zeroB
      rw [zpart_set k hlt] at hqs
      have HQ := Lib.hid hqs
      have HD := Lib.hid hda
      clear hqr hdr hqa hda hqs
      go_wp2
      go_roundw
      case rel => exact ⟨k + 1, by omega, by go_num, HQ.out, HD.out, hba⟩
      case measure => simp [intOf]; omega
    · obtain rfl : k = 8 := by omega
      clear hmk hcv
      simp only [Int.cast_ofNat_Int]
      go_upto_region 11 with fail
      rename_i w4
      go_loopw [9] (fun i wr => ∃ k : Nat, k ≤ l.length ∧ k ≤ 40 ∧ i = .int .i64 k ∧ ∃ d L, DiskIn w.heap.size p d wr ∧ Live 8 d ∧ d.steps ≤ 2 * k ∧ d.cache.length ≤ k ∧ Want 60 q L wr ∧ L.length = 8 ∧ (∀ s, s < 8 → Dsk.read d s = L.getD s .empty) ∧ Below w.heap.size w wr) (fun i _ => 40 - (intOf i).toNat)
      case atStart => exact ⟨0, by omega, by omega, rfl, Dsk.new 8, zpart 8, hdr, live_new 8, by simp [Dsk.new], by simp [Dsk.new], hqr, zpart_len 8 (by omega), new_read, hbr⟩
      case round =>
        clear hdr hqr hbr
        obtain ⟨k, hk, hk40, rfl, d, L, hd, hlv, hst, hca, hq, hL, hrd, hb⟩ := hrel
        by_cases hlt : k < l.length
        · by_cases h40 : k < 40
          · obtain ⟨b, off, rfl, hbB, hok, hcs⟩ := hops k hlt
            obtain ⟨o, ho⟩ : ∃ o, o = l[k] := ⟨_, rfl⟩
            rw [← ho] at hok hcs
            have c1 : wr.cell? ⟨b, off + k * 6 + 1, none⟩ = some (.int .i64 o.at_) := by
              rw [Nat.add_assoc]; exact (cell_below hb hbB).trans (hcs 1 _ rfl)
            have c3 : wr.cell? ⟨b, off + k * 6 + 3, none⟩ = some (.int .u8 (o.byte.toNat : Int)) := by
              rw [Nat.add_assoc]; exact (cell_below hb hbB).trans (hcs 3 _ rfl)
            obtain ⟨m, hm, hm8⟩ := mod_nat o.at_ 8 (by decide)
            rw [show ((8 : Nat) : Int) = 8 from rfl] at hm
            have hm2 := (and7 o.at_).trans hm
            obtain ⟨X, hX⟩ : ∃ X, X = withB o.byte := ⟨_, rfl⟩
            have hXs : X.size = 256 := by rw [hX]; exact withB_size _
            have hwith := fun u => with_any o.byte u
            simp only [← hX] at hwith
            obtain ⟨y, hy⟩ : ∃ y : Int, y = (o.byte.toNat : Int) := ⟨_, rfl⟩
            rw [← hy] at c3 hwith
            obtain ⟨z, hz⟩ : ∃ z, z = o.at_ := ⟨_, rfl⟩
            rw [← hz] at c1 hm hm2
            clear hX hy hz ho hcs hok
            go_upto_region 14 with fail
            have cq := fun w' (hb : Below wr.heap.size wr w') => (hq.old hb).cell (i := m) (by rw [hL]; exact hm8)
            have fq := fun w' (hb : Below wr.heap.size wr w') => (hq.old hb).fz m
            go_upto_region 15 with (go_at_call 26; refine (hwith _).mono ?_; rintro e w3' ⟨rfl, b3⟩; have cq3 := cq _ b3; have fq3 := fq _ b3)
            clear cq fq cq3 fq3 hwith c1 c3
            have hd3 := (hd.old b3).want (hq.old b3) (by decide) (by decide) (by decide) m (.string X)
            have hqs := (hq.old b3).set m X
            have s4 : Below w.heap.size w (w3'.setCell ⟨q, m, none⟩ (.string X)) := (below_step hb (Nat.le_refl _) b3).setCell (p := ⟨q, m, none⟩) hqB _
            obtain ⟨w4', hw4⟩ : ∃ w4', w4' = w3'.setCell ⟨q, m, none⟩ (.string X) := ⟨_, rfl⟩
            rw [← hw4] at hd3 hqs s4 ⊢
            clear hw4 b3
            have cX := hqs.cell (i := m) (by rw [List.length_set, hL]; exact hm8)
            have eX : (L.set m X).getD m .empty = X := by rw [List.getD_eq_getElem?_getD, List.getElem?_set_self (by rw [hL]; exact hm8)]; rfl
            rw [eX] at cX
            have hwr := writeIn _ _ _ (m : Int) X _ hd3 (by omega) (by omega) (by omega)
            rw [hlv.writeE hm8 hXs] at hwr
            have hlv5 := hlv.write hm8 hXs
            have hst5 : (writeD d (m : Int) X).steps ≤ 2 * k + 1 := by rw [hlv.writeD hm8 hXs]; show d.steps + 1 ≤ _; omega
            have hca5 : (writeD d (m : Int) X).cache.length ≤ k + 1 := by rw [hlv.writeD hm8 hXs]; simp; omega
            have hrd5 : ∀ s, s < 8 → Dsk.read (writeD d (m : Int) X) s = (L.set m X).getD s .empty := fun s hs => by
              rw [hlv.read_write hm8 hXs]
              by_cases e : m = s
              · rw [if_pos e, ← e, eX]
              · rw [if_neg e, hrd s hs, List.getD_eq_getElem?_getD, List.getD_eq_getElem?_getD, List.getElem?_set_ne e]
            obtain ⟨D5, hD5⟩ : ∃ D5, D5 = writeD d (m : Int) X := ⟨_, rfl⟩
            rw [← hD5] at hwr hlv5 hst5 hca5 hrd5
            clear hD5 hd hq hrd hd3 hst hca eX hlv
            by_cases hbh : (k : Int) = bh
            · subst hbh
              go_upto_region 18 with (first | (go_at_call 27; refine hwr.mono ?_; rintro e w5 ⟨rfl, h5, f5⟩) | (go_at_call 19; refine (flushIn _ _ _ _ h5 (by omega)).mono ?_; rintro e w6 ⟨rfl, h6, f6⟩; rw [hlv5.err]))
              have hq6 : Want 60 q (L.set m X) w6 := (hqs.kept f5 (by decide) (by decide) (by decide)).kept f6 (by decide) (by decide) (by decide)
              have s6 : Below w.heap.size w w6 := (s4.trans f5.below).trans f6.below
              obtain ⟨D', hD'⟩ : ∃ D', D' = Dsk.flush D5 := ⟨_, rfl⟩
              have hlv' : Live 8 D' := by rw [hD']; exact hlv5.flush
              have hst' : D'.steps ≤ 2 * (k + 1) := by rw [hD', hlv5.flushD]; show D5.steps + 1 ≤ _; omega
              have hca' : D'.cache.length ≤ k + 1 := by rw [hD', hlv5.flushD]; show 0 ≤ _; omega
              have hrd' : ∀ s, s < 8 → Dsk.read D' s = (L.set m X).getD s .empty := fun s hs => by rw [hD', hlv5.read_flush hs]; exact hrd5 s hs
              rw [← hD'] at h6
              clear f5 f6 h5 hqs s4 hD' hrd5
              go_loopw [11] (fun s w7 => ∃ j : Nat, j ≤ 8 ∧ s = .int .i64 j ∧ DiskIn w.heap.size p D' w7 ∧ Want 60 q (L.set m X) w7 ∧ Below w.heap.size w w7) (fun s _ => 8 - (intOf s).toNat)
              case atStart => exact ⟨0, by omega, rfl, h6, hq6, s6⟩
              case round =>
                clear h6 hq6 s6
                obtain ⟨j, hj, rfl, hdj, hqj, hbj⟩ := hrel
                by_cases hj8 : j < 8
                · have hre := readIn _ _ _ (j : Int) _ hdj
                  rw [hlv'.readS hj8, hlv'.readE hj8, hrd' j hj8] at hre
                  obtain ⟨S, hS⟩ : ∃ S, S = (L.set m X).getD j .empty := ⟨_, rfl⟩
                  have cj := hqj.cell (i := j) (by rw [List.length_set, hL]; exact hj8)
                  rw [← hS] at hre cj
                  have HD := Lib.hid hdj
                  have HQ := Lib.hid hqj
                  have hqlt := hqj.lt
                  clear hS hdj hqj
                  rename_i w7
                  go_upto_region 21 with (go_at_call 32; refine hre.mono ?_; rintro e w8 ⟨rfl, b8⟩; have cj8 : w8.cell? ⟨q, j, none⟩ = some (.string S) := (b8.cell (p := ⟨q, j, none⟩) hqlt).trans cj)
                  go_wp2
                  go_roundw
                  case rel => exact ⟨j + 1, by omega, by go_num, HD.out.old b8, HQ.out.old b8, below_step hbj (Nat.le_refl _) b8⟩
                  case measure => simp [intOf]; omega
                · obtain rfl : j = 8 := by omega
                  go_wp2
                  go_roundw
                  case rel => exact ⟨k + 1, by omega, by omega, by go_num, D', L.set m X, hdj, hlv', by omega, by omega, hqj, by rw [List.length_set]; exact hL, hrd', hbj⟩
                  case measure => simp [intOf]; omega
            · have hbh' : ¬ ((k : Int) = bh) := hbh
              go_upto_region 18 with (go_at_call 27; refine hwr.mono ?_; rintro e w5 ⟨rfl, h5, f5⟩)
              have hq6 : Want 60 q (L.set m X) w5 := hqs.kept f5 (by decide) (by decide) (by decide)
              have s6 : Below w.heap.size w w5 := s4.trans f5.below
              obtain ⟨D', hD'⟩ : ∃ D', D' = D5 := ⟨_, rfl⟩
              have hlv' : Live 8 D' := by rw [hD']; exact hlv5
              have hst' : D'.steps ≤ 2 * (k + 1) := by rw [hD']; omega
              have hca' : D'.cache.length ≤ k + 1 := by rw [hD']; omega
              have hrd' : ∀ s, s < 8 → Dsk.read D' s = (L.set m X).getD s .empty := by rw [hD']; exact hrd5
              have h6 : DiskIn w.heap.size p D' w5 := by rw [hD']; exact h5
              clear f5 h5 hqs s4 hD' hrd5
              go_loopw [11] (fun s w7 => ∃ j : Nat, j ≤ 8 ∧ s = .int .i64 j ∧ DiskIn w.heap.size p D' w7 ∧ Want 60 q (L.set m X) w7 ∧ Below w.heap.size w w7) (fun s _ => 8 - (intOf s).toNat)
              case atStart => exact ⟨0, by omega, rfl, h6, hq6, s6⟩
              case round =>
                clear h6 hq6 s6
                obtain ⟨j, hj, rfl, hdj, hqj, hbj⟩ := hrel
                by_cases hj8 : j < 8
                · have hre := readIn _ _ _ (j : Int) _ hdj
                  rw [hlv'.readS hj8, hlv'.readE hj8, hrd' j hj8] at hre
                  obtain ⟨S, hS⟩ : ∃ S, S = (L.set m X).getD j .empty := ⟨_, rfl⟩
                  have cj := hqj.cell (i := j) (by rw [List.length_set, hL]; exact hj8)
                  rw [← hS] at hre cj
                  have HD := Lib.hid hdj
                  have HQ := Lib.hid hqj
                  have hqlt := hqj.lt
                  clear hS hdj hqj
                  rename_i w7
                  go_upto_region 21 with (go_at_call 32; refine hre.mono ?_; rintro e w8 ⟨rfl, b8⟩; have cj8 : w8.cell? ⟨q, j, none⟩ = some (.string S) := (b8.cell (p := ⟨q, j, none⟩) hqlt).trans cj)
                  go_wp2
                  go_roundw
                  case rel => exact ⟨j + 1, by omega, by go_num, HD.out.old b8, HQ.out.old b8, below_step hbj (Nat.le_refl _) b8⟩
                  case measure => simp [intOf]; omega
                · obtain rfl : j = 8 := by omega
                  go_wp2
                  go_roundw
                  case rel => exact ⟨k + 1, by omega, by omega, by go_num, D', L.set m X, hdj, hlv', by omega, by omega, hqj, by rw [List.length_set]; exact hL, hrd', hbj⟩
                  case measure => simp [intOf]; omega
          · obtain rfl : k = 40 := by omega
            go_wp2
            go_ret
            exact ⟨rfl, hb⟩
        · obtain rfl : k = l.length := by omega
          go_wp2
          go_ret
          exact ⟨rfl, hb⟩

set_option maxRecDepth 100000 in
theorem lifted (os : Os) (started : os.Started) (H : Type) (enc : TypeId × Value → H) :
    ReturnsInHanded {} Try.checked os 9 .any (Rows.sectorApartSpec.pre6 enc Try.prog Try.f9 Rows.sectorApartRow.domain false) (Rows.sectorApartSpec.post enc Try.prog Try.f9 false true false false) := by
  refine returnsInHanded_of_change (C := Try.checked) lawOwn started (by kernel_rfl) Try.func9
    (ChangeSpec.witness6 (enc := enc) (C := Try.checked) false ⟨#[], #[.slice none 0 0, .int .i64 0], []⟩ 8 (by kernel_rfl) (by kernel_rfl) (by kernel_rfl) (by kernel_rfl)) ?_
  intro W base args ds gs before hval0 hW hcnd _
  have hval : ∀ (j : Nat) t v, Try.f9.params[j]? = some t → args[j]? = some v → Value.okWide Try.prog W .any base t v := hval0
  have hW' := hW
  obtain ⟨p, q, hA0, hV, rfl, hfz, hnd⟩ := hW
  have hA : DataW.TrodAll enc Try.prog W 0 (fun _ => true) true Try.f9.params.toList args.toList ds p := hA0
  rw [Try.params9] at hA hval
  obtain ⟨v0, vs0, d0, ds0, p0, q0, hargs, rfl, rfl, h0, r0⟩ := trodAll_cons hA
  obtain ⟨v1, vs1, d1, ds1, p1, q1, rfl, rfl, rfl, h1, r1⟩ := trodAll_cons r0
  obtain ⟨rfl, rfl, rfl⟩ := trodAll_nil r1
  obtain rfl : args = #[v0, v1] := by cases args; simp_all
  obtain ⟨rfl, rfl⟩ := trodVars_none hV
  obtain ⟨a0, len0, cap0, rfl⟩ := okWide_slice Try.underlying30 (hval 0 30 v0 rfl rfl)
  obtain ⟨l0, w0⟩ := ops_of h0
  obtain ⟨a1, rfl, rfl, rfl, w1⟩ := open_int Try.underlying3 (hval 1 3 v1 rfl rfl) h1
  clear hA0 hval0 hcnd
  obtain ⟨l1, m1⟩ := i64_bounds w1
  refine (walk (w := W) _ l0 w0 a1 l1 m1).mono fun e W' ⟨he, bel⟩ => ?_
  subst he
  exact ⟨_, rfl, law_post rfl rfl (by kernel_rfl) hW' rfl bel⟩

theorem holds : Rows.SectorApartSaid :=
  OpenClaim.holds_of_wide 9 Try.f9 rfl rfl rfl rfl rfl rfl rfl ⟨rfl, rfl, rfl, rfl, rfl⟩ rfl rfl rfl rfl rfl (by kernel_rfl) Try.func9 (by kernel_rfl)
    (of_decide_eq_true (by kernel_rfl)) (by unfold Func.isWrapper; first | (rw [if_pos (by decide +kernel)]; kernel_rfl) | (rw [if_neg (by decide +kernel)]; exact ⟨rfl, rfl⟩))
    (fun os started H enc _ => lifted os started H enc)
end Go.Proofs.Ytnieebkkpmdgmaa.sectorApart

theorem Go.Proofs.Ytnieebkkpmdgmaa.sectorApart_holds : Go.Proofs.Ytnieebkkpmdgmaa.Rows.SectorApartSaid := Go.Proofs.Ytnieebkkpmdgmaa.sectorApart.holds
#print axioms Go.Proofs.Ytnieebkkpmdgmaa.sectorApart_holds
