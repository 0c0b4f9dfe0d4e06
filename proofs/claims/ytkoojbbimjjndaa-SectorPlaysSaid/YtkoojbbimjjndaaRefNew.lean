/-
  The document's own disk: a new one.
-/
import Derived.Test.YtkoojbbimjjndaaRefDisk
import Derived.Test.YtkoojbbimjjndaaDiskNew
import Derived.Deep.RegionLaw
namespace Go.Proofs.Ytkoojbbimjjndaa
open Go.RowKit Dsk

theorem owns_kept {w w' : World} {e : TypeId} {size : Nat} {v : Value} {n : Nat} {xs : List Value} (h : w.ownsRow 0 e size v n xs) (hk : ∀ k, v.ownBlock = some k → w'.heap[k]? = w.heap[k]?) : w'.ownsRow 0 e size v n xs := by
  refine ⟨h.1, ?_⟩
  rcases h.2 with e | ⟨g, cap, cur, e1, e2, hg, r⟩
  · exact .inl e
  · exact .inr ⟨g, cap, cur, e1, e2, (hk g (by rw [e1]; rfl)).trans hg, r⟩
theorem owns_slice {w : World} {e : TypeId} {size : Nat} {v : Value} {n : Nat} {xs : List Value} (h : w.ownsRow 0 e size v n xs) : ∃ a cap, v = .slice a n cap := by
  rcases h.2 with ⟨rfl, rfl⟩ | ⟨g, cap, cur, rfl, _⟩
  · exact ⟨none, 0, rfl⟩
  · exact ⟨_, cap, rfl⟩
/-- append at a step of a region that draws its order, where its run is known. -/
theorem step_append_run {P : Program} {ops : Array Oper} {o : Oper} {a : Act} {w w' : World} {K : Act → World → Prop} {Q : Exit → Act → World → Prop} {E : Prop} (hgd : o.guard = none) (s x : Operand) (t : TypeId)
    (ho : o.op = .call { callee := .builtin .append, args := #[s, x], argTypes := #[t, t] }) (v u v' : Value) (hs : a.eval s = v) (hx : a.eval x = u) (hr : (Builtin.append_ #[t, t] o.type #[v, u]).run P w = .ok v' w') (h : K (a.put o.dst v') w') :
    if Region.wanted o (yielded ops a.tmps) = true then Oper.wp P o a w K Q else E := by
  have hw : Region.wanted o (yielded ops a.tmps) = true := by simp [Region.wanted, hgd]
  rw [if_pos hw]
  unfold Oper.wp execOp
  simp only [ho, resolve, invoke, builtin, Sem.run_bind, Sem.run_pure, Result.andThen_ok, List.map_toArray, List.map_cons, List.map_nil, hs, hx, hr]
  exact h
set_option maxHeartbeats 1600000 in
set_option maxRecDepth 100000 in
theorem rnew_any (n : Nat) (w : World) (h1 : 1 ≤ n) (hn : n ≤ 65536) :
    Calls Try.prog 17 #[.int .i64 (n : Int)] w fun e w' => ∃ q ql J cap, e = .returned (.pointer (some ⟨q, 0, none⟩)) ∧ w.heap.size ≤ q ∧ w.heap.size ≤ ql ∧ RefAt q ql (.slice none 0 0) J cap ⟨List.replicate n zeroB, [], false, -1, 0⟩ w' ∧ Below w.heap.size w w' := by
  obtain ⟨X, hmk, hcv⟩ := zeros_obj 256 (by decide)
  rw [show ((256 : Nat) : Int) = 256 from rfl] at hmk
  rw [show zs 256 = zeroB from rfl] at hcv
  obtain ⟨Z, hZ⟩ : ∃ Z, Z = zeroB := ⟨_, rfl⟩
  rw [← hZ] at hcv ⊢
  clear hZ
  have hl1 : ¬ (n : Int) < 1 := by omega
  have hl2 : ¬ 65536 < (n : Int) := by omega
  go_enter Try.func17, Try.ntmps17
  go_upto_region 7 with fail
  clear hl1 hl2
  go_loopw [4] (fun i wr => ∃ k : Nat, k ≤ n ∧ i = .int .i64 k ∧ ∃ lv, wr.ownsRow 0 9 1 lv k (List.replicate k (Value.string Z)) ∧ wr.heap[w.heap.size]? = some (.cells #[lv, .slice none 0 0, .bool false, .int .i64 (-1), .int .i64 0] 49 (0, 0)) ∧ (∀ j, lv.ownBlock = some j → w.heap.size < j) ∧ Below w.heap.size w wr) (fun i _ => n - (intOf i).toNat)
  case atStart => exact ⟨0, Nat.zero_le _, rfl, _, World.ownsRow_nil _ 0 _ 1, heap_alloc_last w _, (fun j e => by simp [Value.ownBlock] at e), (Below.refl _ _).alloc (Nat.le_refl _) _⟩
  case round =>
    obtain ⟨k, hk, rfl, lv, hlv, hh, hoj, hb⟩ := hrel
    by_cases hlt : k < n
    · have hqlt : w.heap.size < wr.heap.size := (Array.getElem?_eq_some_iff.1 hh).1
      obtain ⟨i0, hi, hz0, hz1, hz2⟩ := info_parts info_str3
      obtain ⟨W2, hW2⟩ : ∃ W2, W2 = (wr.drew.alloc X).alloc (.cells #[.string Z] 9) := ⟨_, rfl⟩
      have hs2 : wr.heap.size ≤ W2.heap.size := by rw [hW2]; simp; omega
      have hB2 : Below wr.heap.size wr W2 := by
        rw [hW2]
        exact ((below_drew (Below.refl _ _)).alloc (Nat.le_refl _) _).alloc (by simp) _
      have hlv2 : W2.ownsRow 0 9 i0.size lv k (List.replicate k (Value.string Z)) := by
        rw [hz1]
        exact owns_kept hlv fun j e => hB2.block j (World.ownsRow.lt hlv j e).2
      have hnew : W2.cell? ⟨wr.heap.size + 1, 0, none⟩ = some (.string Z) := by
        rw [hW2]
        have := cell_of (heap_alloc_last (wr.drew.alloc X) (.cells #[.string Z] 9)) 0
        rw [World.size_alloc] at this
        exact this
      obtain ⟨v', w2, hr, h2, h3, h4⟩ := append_where (ty := 46) Try.underlying46 hi hz0 (by rw [hz1]; rfl) (by rw [hz1]; decide) lv k (List.replicate k (Value.string Z)) hlv2 ⟨wr.heap.size + 1, 0, none⟩ 1 1 [.string Z] (by rw [hz1]; rfl)
        (fun j u hu => by
          rw [Addr.add_mid, Nat.zero_add]
          match j, hu with
          | 0, hu => simp at hu; subst hu; exact hnew) (by intro u hu; simp at hu; subst hu; rfl) (by unfold maxLen; omega) (by rw [hz2]; omega) (by decide)
      rw [hz1] at h2
      have hh2 : w2.heap[w.heap.size]? = some (.cells #[lv, .slice none 0 0, .bool false, .int .i64 (-1), .int .i64 0] 49 (0, 0)) := by
        rw [h3.block w.heap.size (by omega) (fun e => by have := hoj _ e.symm; omega), hB2.block w.heap.size hqlt]; exact hh
      have hb2 : Below w.heap.size w w2 := by
        refine (below_step hb (by omega) hB2).trans ⟨h3.os, h3.tape, h3.output, h3.size, fun j hj => h3.block j (by omega) fun e => ?_⟩
        have := hoj j e.symm
        omega
      rw [hW2] at hr
      have hcv' : (convert 53 9 (.slice (some ⟨wr.heap.size, 0, none⟩) 256 256)).run Try.prog (wr.alloc X).drew = .ok (.string Z) (wr.alloc X).drew := hcv wr.drew
      have hr' : (Builtin.append_ #[46, 46] 46 #[lv, .slice (some ⟨wr.heap.size + 1, 0, none⟩) 1 1]).run Try.prog ((wr.alloc X).alloc (.cells #[.string Z] 9)).drew = .ok v' w2 := hr
      have HR := Lib.hid hr'
      clear hr hr'
      clear hlv2 hnew hB2 hz0 hz1 hz2 hi
      obtain ⟨la, lcap, rfl⟩ := owns_slice hlv
      obtain ⟨la', lcap', rfl⟩ := owns_slice h2
      have c0 := cell_of hh 0
      have c2 := cell_of hh2 0
      have f2 := fz_of hh2 0
      have HH := Lib.hid hh2
      have HO := Lib.hid hoj
      have H2 := Lib.hid h2
      have H4 := Lib.hid h4
      have HB := Lib.hid hb2
      have HS := Lib.hid hs2
      have HL := Lib.hid hlv
      clear hh2 hoj h2 h3 h4 hh hlv hb2 hs2 hW2
      go_wp2
      go_region_law (refine step_append_run rfl (.tmp 20) (.tmp 23) 46 rfl (.slice la k lcap) (.slice (some ⟨wr.heap.size + 1, 0, none⟩) 1 1) (.slice la' (k + 1) lcap') (by simp [Act.eval]) (by simp [Act.eval]) HR.out ?_)
      all_goals
        go_wp2
        go_roundw
        case rel =>
          have hoj' : ∀ j, (Value.slice la' (k + 1) lcap').ownBlock = some j → w.heap.size < j := fun j e => by
            rcases H4.out j e with e' | e'
            · exact HO.out j e'
            · have := HS.out; omega
          refine ⟨k + 1, by omega, by go_num, _, owns_kept (w := w2) (by rw [List.replicate_succ']; exact H2.out) (fun j e => heap_far (fun e' : j = w.heap.size => by have := hoj' j e; omega) _), heap_set HH.out _, hoj', HB.out.setCell (Nat.le_refl _) _⟩
        case measure => simp [intOf]; omega
    · obtain rfl : k = n := by omega
      rcases hlv.2 with ⟨_, h0⟩ | ⟨g, cap, cur, rfl, _, hg, hkc, hcm, hcs, htk⟩
      · omega
      · go_wp2
        go_ret
        have hL : (List.replicate k Z).length = k := List.length_replicate
        refine ⟨w.heap.size, g, cur.toList.drop k, cap, rfl, Nat.le_refl _, Nat.le_of_lt (hoj g rfl), ⟨by rw [hL]; exact hh, ?_, CacheAt.nil _, (fun x hx => by cases hx), by rw [hL]; exact hn, (show (-1 : Int) ≤ -1 ∧ (-1 : Int) ≤ 9223372036854775807 by decide), by simp, by simp⟩, hb⟩
        rw [hg]
        have e : List.map Value.string (List.replicate k Z) ++ cur.toList.drop k = cur.toList := by
          rw [List.map_replicate, ← htk, Nat.mul_one, List.take_append_drop]
        show _ = some (Obj.cells (List.map Value.string (List.replicate k Z) ++ List.drop k cur.toList).toArray _ _)
        rw [e]
end Go.Proofs.Ytkoojbbimjjndaa
