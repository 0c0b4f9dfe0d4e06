/-
  Package sector: what the last write of a sector is, and Read.
-/
import Derived.Test.YtkoojbbimjjndaaDiskBack
import Derived.Test.YtkoojbbimjjndaaDiskAsk
import Derived.Test.YtkoojbbimjjndaaRegEff
namespace Go.Proofs.Ytkoojbbimjjndaa
open Go.RowKit Go.Shelf Dsk

attribute [local go_sem] Oper.semAt_some

theorem cells_own {β : Type} (B b : Nat) (C : Array Value) (T : TypeId) (fr : Nat × Nat) : OwnFrom B (fun (_ : β) W => W.heap[b]? = some (.cells C T fr)) := by
  intro s W W' row hs hg hr
  refine (hg.block b (Array.getElem?_eq_some_iff.1 hs).1 fun e => ?_).trans hs
  obtain ⟨_, o, ho, hc⟩ := hr b e.symm
  rw [hs] at ho
  cases ho
  cases hc
theorem rd_dn (L : List ByteArray) (c : List (Nat × ByteArray)) (a : Nat) : ∀ j, j ≤ c.length → (∀ y ∈ dn c j, y.2.1 ≠ a) → rdK L c a c.length = rdK L c a (c.length - j)
  | 0, _, _ => rfl
  | j + 1, hj, h => by
    rw [rd_dn L c a j (by omega) (fun y hy => h y (by rw [dn_succ]; exact List.mem_append_left _ hy))]
    have hne := h (c.length - 1 - j, cAt c (c.length - 1 - j)) (by rw [dn_succ]; simp)
    rw [show c.length - j = (c.length - 1 - j) + 1 by omega, show c.length - (j + 1) = c.length - 1 - j by omega]
    conv => lhs; unfold rdK
    rw [if_neg hne]
theorem rd_hit (L : List ByteArray) (c : List (Nat × ByteArray)) (a k : Nat) (hk : k ≤ c.length) (ini : List (Nat × (Nat × ByteArray))) (x : Nat × (Nat × ByteArray)) (e : dn c k = ini ++ [x]) (h : ∀ y ∈ ini, y.2.1 ≠ a) (hx : x.2.1 = a) : rdK L c a c.length = x.2.2 := by
  cases k with
  | zero => simp [dn] at e
  | succ j =>
    rw [dn_succ] at e
    obtain ⟨rfl, e2⟩ := List.append_inj' e rfl
    have e3 : (c.length - 1 - j, cAt c (c.length - 1 - j)) = x := by simpa using e2
    subst e3
    rw [rd_dn L c a j (by omega) h, show c.length - j = (c.length - 1 - j) + 1 by omega]
    conv => lhs; unfold rdK
    rw [if_pos hx]
theorem ownFrom_pure' {β : Type} {B : Nat} (p : β → Prop) : OwnFrom B (fun s (_ : World) => p s) := fun _ _ _ _ hs _ _ => hs

set_option maxRecDepth 100000 in
set_option maxHeartbeats 2000000 in
theorem last_any (p bl : Nat) (cv : Value) (d : Dk) (a : Nat) (w : World) (h : DiskAt p bl cv d w) (ha : a < d.lies.length) :
    Calls Try.prog 49 #[.pointer (some ⟨p, 0, none⟩), .int .i64 (a : Int)] w fun e w' => e = .returned (.string (Dsk.read d a)) ∧ Below w.heap.size w w' := by
  have h1 := h.c1
  obtain ⟨ca, ccap, hcv⟩ := h.cache.slice
  have H := Lib.hid h
  refine (callsIn_wide (n := 3)).1 ?_
  refine callsIn_of_wp_marks Try.func49 rfl trivial ?_ rfl
  simp only [Try.ntmps49, List.size_toArray, List.length_cons, List.length_nil, Nat.reduceAdd, Nat.reduceSub, Array.replicate_succ, Array.replicate_zero, List.push_toArray, List.append_toArray, List.nil_append, List.cons_append]
  refine wpIn_wide.2 ?_
  go_wp2
  go_step3
  have h1' : ((w.alloc (.cells #[.int .i64 (a : Int)] 3)).alloc (.cells #[.string ⟨#[]⟩] 9)).cell? ⟨p, 1, none⟩ = some (.slice ca d.cache.length ccap) := by
    rw [← hcv, ← h1]
    exact (((Below.refl w.heap.size w).alloc (Nat.le_refl _) _).alloc (by simp) _).cell (p := ⟨p, 1, none⟩) h.lt
  go_wp2
  go_step3
  go_wp2_with (go_at_call 60; refine ((callsIn_wide (n := 3)).1 (back_in Fence.wide 3 trivial rfl _ _ _ _)).mono ?_; rintro e w' ⟨rfl, rfl⟩)
  obtain ⟨W0, hW0⟩ : ∃ W0, W0 = ((w.alloc (.cells #[.int .i64 (a : Int)] 3)).alloc (.cells #[.string ⟨#[]⟩] 9)).alloc (.cells #[.slice ca d.cache.length ccap] 47) := ⟨_, rfl⟩
  have hsz : W0.heap.size = w.heap.size + 3 := by rw [hW0]; simp
  have hB0 : Below w.heap.size w W0 := by
    rw [hW0]; exact (((Below.refl _ w).alloc (Nat.le_refl _) _).alloc (by simp) _).alloc (by simp; omega) _
  have b3 : W0.heap[w.heap.size]? = some (.cells #[.int .i64 (a : Int)] 3 (0, 0)) := by
    rw [hW0]; exact (Below.heap_alloc _ _ _ (by simp; omega)).trans ((Below.heap_alloc _ _ _ (by simp)).trans (World.alloc_heap_new w _))
  have b4 : W0.heap[w.heap.size + 1]? = some (.cells #[.string ⟨#[]⟩] 9 (0, 0)) := by
    rw [hW0]; refine (Below.heap_alloc _ _ _ (by simp)).trans ?_
    have := World.alloc_heap_new (w.alloc (.cells #[.int .i64 (a : Int)] 3)) (.cells #[.string ⟨#[]⟩] 9)
    rwa [World.size_alloc] at this
  have b5 : W0.heap[w.heap.size + 1 + 1]? = some (.cells #[.slice ca d.cache.length ccap] 47 (0, 0)) := by
    rw [hW0]
    have := World.alloc_heap_new ((w.alloc (.cells #[.int .i64 (a : Int)] 3)).alloc (.cells #[.string ⟨#[]⟩] 9)) (.cells #[.slice ca d.cache.length ccap] 47)
    rwa [World.size_alloc, World.size_alloc] at this
  rw [← hW0]
  clear hW0 h1'
  have hca : CacheAt (.slice ca d.cache.length ccap) d.cache W0 := by
    have := h.cache
    rw [hcv] at this
    exact this.kept fun k hk => hB0.block k (by have := World.ownsRow.lt this k hk; exact this.2)
  have hcg : ∀ k, (Value.slice ca d.cache.length ccap).ownBlock = some k → k < W0.heap.size := fun k hk => (World.ownsRow.lt hca k hk).2
  refine (wpIn_wide (n := 3)).1 ?_
  refine wpIn_rangeFunc_ownH rfl (by omega) (gf := 70) (lb := #[.pointer (some ⟨w.heap.size + 1 + 1, 0, none⟩)]) rfl trivial (enters_of Try.func70 (by kernel_rfl) rfl)
    (back_stops Fence.wide 2 trivial rfl (by omega) (w.heap.size + 1 + 1) W0.heap.size _ d.cache h.writes W0 (by omega) (Nat.le_refl _) (cell_of b5 0) hca hcg) belowK_t (belowK_b (Nat.le_refl _)) (Below.refl _ _) (fun _ => rfl)
    (fun pre W => ((∀ y ∈ pre, y.2.1 ≠ a) ∧ W.heap[w.heap.size]? = some (.cells #[.int .i64 (a : Int)] 3 (0, 0)) ∧ W.heap[w.heap.size + 1]? = some (.cells #[.string ⟨#[]⟩] 9 (0, 0))) ∧ Below w.heap.size w W ∧ W0.heap.size ≤ W.heap.size)
    (fun c pre W => (c = .ret ∧ (∃ ini last, pre = ini ++ [last] ∧ (∀ y ∈ ini, y.2.1 ≠ a) ∧ last.2.1 = a ∧ W.heap[w.heap.size + 1]? = some (.cells #[.string last.2.2] 9 (0, 0)))) ∧ Below w.heap.size w W)
    (OwnFrom.and (OwnFrom.and (ownFrom_pure' _) (OwnFrom.and (cells_own _ _ _ _ _) (cells_own _ _ _ _ _))) (OwnFrom.and (ownFrom_below (Nat.le_refl _) (by omega)) (fun s A B row hs hg hr => Nat.le_trans hs hg.size)))
    (fun c => OwnFrom.and (fun s A B row hs hg hr => by obtain ⟨hc, ini, last, e1, e2, e3, e4⟩ := hs; exact ⟨hc, ini, last, e1, e2, e3, cells_own (β := Unit) _ _ _ _ _ () A B row e4 hg hr⟩) (ownFrom_below (Nat.le_refl _) (by omega)))
    ⟨⟨by simp, b3, b4⟩, hB0, Nat.le_refl _⟩
    (fun x a' W => ∃ Bx, w.heap.size + 1 < Bx ∧ W.heap[Bx]? = some (.cells #[.int .i64 (x.2.1 : Int), .string x.2.2] 73 (0, 0)) ∧ a' = { tmps := #[.pointer (some ⟨p, 0, none⟩), .int .i64 (a : Int), undef, .pointer (some ⟨w.heap.size, 0, none⟩), .pointer (some ⟨w.heap.size + 1, 0, none⟩), undef, .pointer (some ⟨Bx, 0, none⟩), .pointer (some ⟨p, 0, none⟩), .pointer (some ⟨p, 0, none⟩), .pointer (some ⟨p, 1, none⟩), .slice ca d.cache.length ccap, .func (.func 70) #[] #[.pointer (some ⟨w.heap.size + 1 + 1, 0, none⟩)], .int .i64 (x.1 : Int), .agg #[.int .i64 (x.2.1 : Int), .string x.2.2], undef, undef, undef, undef, undef, undef, undef, undef, undef, undef, undef, undef, undef], defers := [] })
    (fun x a' s A B row hs hg hr => by obtain ⟨Bx, e1, e2, e3⟩ := hs; exact ⟨Bx, e1, cells_own (β := Unit) _ _ _ _ _ () A B row e2 hg hr, e3⟩) ?assign ?body ?done ?stop
  case assign =>
    rintro l pre x W K ⟨⟨hp, hb3, hb4⟩, hB, hS⟩ hK
    have hlt : w.heap.size + 1 < W.heap.size := (Array.getElem?_eq_some_iff.1 hb4).1
    gi_wp2
    exact hK _ _ ((KeepsOthers.alloc _ _).from _) ((Below.refl _ W).alloc hS _) ⟨⟨hp, (Below.heap_alloc _ _ _ (by omega)).trans hb3, (Below.heap_alloc _ _ _ hlt).trans hb4⟩, hB.alloc hB.size _, by simp; omega⟩ ⟨W.heap.size, hlt, World.alloc_heap_new W _, rfl⟩
  case body =>
    rintro l pre x a' W hl ⟨r, hr⟩ ⟨⟨hp, hb3, hb4⟩, hB, hS⟩ ⟨Bx, hBx, bX, rfl⟩ hlt
    have c3 : W.cell? ⟨w.heap.size, 0, none⟩ = some (.int .i64 (a : Int)) := cell_of hb3 0
    have c4 : W.cell? ⟨w.heap.size + 1, 0, none⟩ = some (.string ⟨#[]⟩) := cell_of hb4 0
    have f4 : W.frozen? ⟨w.heap.size + 1, 0, none⟩ = false := fz_of hb4 0
    have x0 : W.cell? ⟨Bx, 0, none⟩ = some (.int .i64 (x.2.1 : Int)) := cell_of bX 0
    have x1 : W.cell? ⟨Bx, 1, none⟩ = some (.string x.2.2) := cell_of bX 1
    gi_wp2
    · rename_i hx
      have hx' : x.2.1 ≠ a := fun e => by rw [e] at hx; simp at hx
      exact ⟨KeepsFrom.refl _ _, Below.refl _ _, ⟨fun y hy => (List.mem_append.1 hy).elim (hp y) (fun e => by simp at e; subst e; exact hx'), hb3, hb4⟩, hB, hS⟩
    · rename_i hx
      have hx' : x.2.1 = a := by
        have h' : ((x.2.1 : Nat) : Int) = (a : Int) := by simpa using hx
        omega
      exact ⟨(KeepsOthers.setCell _ _ _).from _, ⟨rfl, pre, x, rfl, hp, hx', heap_set hb4 _⟩, hB.setCell (p := ⟨w.heap.size + 1, 0, none⟩) (by simp) _⟩
  case stop =>
    rintro D c pre W hD ⟨k, hk, rfl⟩ ⟨⟨rfl, ini, last, e1, e2, e3, hb4⟩, hB⟩ hK
    gi_wp2
    rw [Exit.noGoto_ret]
    refine ⟨by simp, .inl ⟨_, _, rfl, run_takeDeferred hK, ?_⟩⟩
    have hc5 := cell_kept (cell_of hb4 0) (grownBy_putObj' _ D (.deferred none)) (fun r e => by cases e; exact ⟨_, hK, rfl⟩)
    refine ⟨.string last.2.2, ?_, by rw [← rd_hit d.lies d.cache a k hk ini last e1 e2 e3]; rfl, hB.trans (belowK_b (w := w) (Nat.le_refl _) W D _ _ (by omega) hK rfl rfl)⟩
    simp [results, Try.f49, go_sem, hc5]
  case done =>
    rintro D ys W hD rfl ⟨⟨hne, hb3, hb4⟩, hB, hS⟩ hK
    have hrd : Dsk.read d a = d.lies.getD a .empty := by
      unfold Dsk.read
      rw [rd_dn d.lies d.cache a _ (Nat.le_refl _) hne, Nat.sub_self]
      rfl
    have hd : DiskAt p bl cv d W := h.old hB
    have c0 := hd.c0
    have cr := hd.row a ha
    have c3 : W.cell? ⟨w.heap.size, 0, none⟩ = some (.int .i64 (a : Int)) := cell_of hb3 0
    have c4 : W.cell? ⟨w.heap.size + 1, 0, none⟩ = some (.string ⟨#[]⟩) := cell_of hb4 0
    have f4 : W.frozen? ⟨w.heap.size + 1, 0, none⟩ = false := fz_of hb4 0
    obtain ⟨S, hS'⟩ : ∃ S, S = d.lies.getD a .empty := ⟨_, rfl⟩
    rw [← hS'] at cr hrd
    clear hS' hne hd
    gi_wp2
    go_wp2
    go_region
    go_wp2
    rw [Exit.noGoto_ret]
    have hK' : (W.setCell ⟨w.heap.size + 1, 0, none⟩ (.string S)).drew.heap[D]? = some (.deferred (some [])) := (KeepsOthers.setCell W ⟨w.heap.size + 1, 0, none⟩ (.string S)).same D _ hK rfl
    refine ⟨by simp, .inl ⟨_, _, rfl, run_takeDeferred hK', ?_⟩⟩
    have hb5 : (W.setCell ⟨w.heap.size + 1, 0, none⟩ (.string S)).drew.heap[w.heap.size + 1]? = some (.cells #[.string S] 9 (0, 0)) := heap_set hb4 _
    have hc5 := cell_kept (cell_of hb5 0) (grownBy_putObj' _ D (.deferred none)) (fun r e => by cases e; exact ⟨_, hK', rfl⟩)
    refine ⟨.string S, ?_, by rw [hrd], (below_drew (hB.setCell (p := ⟨w.heap.size + 1, 0, none⟩) (by simp) (.string S))).trans (belowK_b (w := w) (Nat.le_refl _) _ D _ _ (by omega) hK' rfl rfl)⟩
    simp [results, Try.f49, go_sem, hc5]

/-- What Read tells: the text, and the error. -/
def readS (d : Dk) (at_ : Int) : ByteArray := if hasB d.lies.length at_ && d.on then Dsk.read d at_.toNat else ⟨#[]⟩
def readE (d : Dk) (at_ : Int) : Int := if hasB d.lies.length at_ then (if d.on then 0 else 14) else 1
theorem read_disk (p bl : Nat) (cv : Value) (d : Dk) (at_ : Int) (w : World) (h : DiskAt p bl cv d w) :
    Calls Try.prog 32 #[.pointer (some ⟨p, 0, none⟩), .int .i64 at_] w fun e w' => e = .returned (.tuple #[.string (readS d at_), .int .i64 (readE d at_)]) ∧ Below w.heap.size w w' := by
  have h2 := h.c2
  unfold readS readE
  by_cases hh : hasB d.lies.length at_ = true
  · have hh' := hh
    simp only [hasB, Bool.and_eq_true, decide_eq_true_eq] at hh'
    obtain ⟨k, rfl⟩ : ∃ k : Nat, at_ = k := ⟨at_.toNat, by omega⟩
    have hk : k < d.lies.length := by omega
    rw [hh, Bool.true_and, if_pos rfl, Int.toNat_natCast]
    cases hon : d.on with
    | false =>
      rw [hon] at h2
      go_enter Try.func32, Try.ntmps32
      go_wp2_with (go_at_call 48; refine (has_any _ _ _ _ _ _ h).mono ?_; rintro e w' ⟨rfl, rfl⟩; rw [hh])
      go_ret2
      exact ⟨rfl, Below.refl _ _⟩
    | true =>
      rw [hon] at h2
      obtain ⟨S, hS⟩ : ∃ S, S = Dsk.read d k := ⟨_, rfl⟩
      have hl := last_any p bl cv d k w h hk
      rw [← hS] at hl ⊢
      clear hS
      go_enter Try.func32, Try.ntmps32
      go_wp2_with (first
        | (go_at_call 48; refine (has_any _ _ _ _ _ _ h).mono ?_; rintro e w' ⟨rfl, rfl⟩; rw [hh])
        | (go_at_call 49; refine hl.mono ?_; rintro e w' ⟨rfl, hb⟩))
      go_ret2
      exact ⟨rfl, hb⟩
  · have hh' : hasB d.lies.length at_ = false := by simpa using hh
    rw [hh', Bool.false_and]
    go_enter Try.func32, Try.ntmps32
    go_wp2_with (go_at_call 48; refine (has_any _ _ _ _ _ _ h).mono ?_; rintro e w' ⟨rfl, rfl⟩; rw [hh'])
    go_ret2
    exact ⟨rfl, Below.refl _ _⟩
theorem read_nil (at_ : Int) (w : World) :
    Calls Try.prog 32 #[.pointer none, .int .i64 at_] w fun e w' => e = .returned (.tuple #[.string ⟨#[]⟩, .int .i64 1]) ∧ w = w' := by
  go_enter Try.func32, Try.ntmps32
  go_wp2_with (go_at_call 48; refine (has_nil _ _).mono ?_; rintro e w' ⟨rfl, rfl⟩)
  go_ret2
  exact ⟨rfl, rfl⟩
end Go.Proofs.Ytkoojbbimjjndaa
