/-
  The statements' own helper awake (mac) answers true.
-/
import Derived.Test.YtcecncbhfcoilaaDoorMacOf
namespace Go.Proofs.YtcecncbhfcoilaaDoor
open Go.RowKit

def fox1 : ByteArray := ⟨#[84, 104, 101, 32, 113, 117, 105, 99, 107, 32, 98, 114, 111, 119, 110, 32, 102, 111, 120, 32]⟩
def fox2 : ByteArray := ⟨#[106, 117, 109, 112, 115, 32, 111, 118, 101, 114, 32, 116, 104, 101, 32, 108, 97, 122, 121, 32, 100, 111, 103]⟩
def foxHex : ByteArray := ⟨#[102, 55, 98, 99, 56, 51, 102, 52, 51, 48, 53, 51, 56, 52, 50, 52, 98, 49, 51, 50, 57, 56, 101, 54, 97, 97, 54, 102, 98, 49, 52, 51, 101, 102, 52, 100, 53, 57, 97, 49, 52, 57, 52, 54, 49, 55, 53, 57, 57, 55, 52, 55, 57, 100, 98, 99, 50, 100, 49, 97, 51, 99, 100, 56]⟩
def noneHex : ByteArray := ⟨#[98, 54, 49, 51, 54, 55, 57, 97, 48, 56, 49, 52, 100, 57, 101, 99, 55, 55, 50, 102, 57, 53, 100, 55, 55, 56, 99, 51, 53, 102, 99, 53, 102, 102, 49, 54, 57, 55, 99, 52, 57, 51, 55, 49, 53, 54, 53, 51, 99, 54, 99, 55, 49, 50, 49, 52, 52, 50, 57, 50, 99, 53, 97, 100]⟩
theorem hex_fox1 (w : World) : Calls Tryd.prog 20 #[sumV (Mac.mac [107, 101, 121] Mac.fox)] w fun e w' => e = .returned (.string foxHex) ∧ Below w.heap.size w w' := by
  refine (hex_any _ w (Mac.mac_length _ _)).mono fun e w' ⟨he, hb⟩ => ⟨?_, hb⟩
  rw [he, Mac.hex_fox]
  rfl
theorem hex_none1 (w : World) : Calls Tryd.prog 20 #[sumV (Mac.mac [] [])] w fun e w' => e = .returned (.string noneHex) ∧ Below w.heap.size w w' := by
  refine (hex_any _ w (Mac.mac_length _ _)).mono fun e w' ⟨he, hb⟩ => ⟨?_, hb⟩
  rw [he, Mac.hex_none]
  rfl

set_option maxHeartbeats 1000000 in
set_option maxRecDepth 100000 in
theorem awake3_any (w : World) (hK : KT w) : Calls Tryd.prog 24 #[] w fun e w' => e = .returned (.bool true) ∧ Below w.heap.size w w' := by
  have b0 : Below w.heap.size w (w.alloc (.cells #[.string fox1, .string fox2] 9)) := (Below.refl _ _).alloc (Nat.le_refl _) _
  have h1 := macOf_any ⟨#[107, 101, 121]⟩ [107, 101, 121] rfl _ [fox1, fox2] Mac.fox (by rw [flat_two]; rfl) _ (StrRow.two w fox1 fox2) (hK.old b0) (by decide) (by decide)
  unfold fox1 fox2 at h1 b0
  have H1 := Lib.hid h1
  have hh : foxHex = foxHex := rfl
  clear h1
  go_enter Tryd.func24, Tryd.ntmps24
  go_wp2_with (first
    | (go_at_call 29; ((with_reducible refine H1.out.mono ?_); rintro e w1 ⟨rfl, b1⟩; have hK1 := (hK.old b0).old b1))
    | (go_at_call 20; ((with_reducible refine (hex_fox1 _).mono ?_); unfold foxHex; rintro e w2 ⟨rfl, b2⟩; have hK2 := hK1.old b2))
    | (go_at_call 29; refine (macOf_any ⟨#[]⟩ [] rfl _ [] [] rfl w2 (StrRow.nil w2) hK2 (by decide) (by decide)).mono ?_; rintro e w3 ⟨rfl, b3⟩)
    | (go_at_call 20; ((with_reducible refine (hex_none1 _).mono ?_); unfold noneHex; rintro e w4 ⟨rfl, b4⟩)))
  go_ret
  exact ⟨rfl, below_step (below_step (below_step (below_step b0 (Nat.le_refl _) b1) (Nat.le_refl _) b2) (Nat.le_refl _) b3) (Nat.le_refl _) b4⟩

theorem macRight_t (p : Nat) (k x : List UInt8) (hx : x.length = 32) (v : Value) (ts : List ByteArray) (w : World) (he : Mac.mac k (flat ts) = x) (h : IsMaker p k w ∨ ZeroMaker p w ∧ k = []) (hr : StrRow w v ts) (hK : KT w) (hlen : (flat ts).length < 288230376151711744) :
    Calls Tryd.prog 33 #[.pointer (some ⟨p, 0, none⟩), sumV x, v] w fun e w' => e = .returned (.bool true) ∧ Below w.heap.size w w' := by
  have := macRight_any p k x hx v ts w h hr hK hlen
  rwa [decide_eq_true he] at this
theorem macRightF_t (s : ByteArray) (k : List UInt8) (hs : s.data.toList = k) (x : List UInt8) (hx : x.length = 32) (v : Value) (ts : List ByteArray) (T : List UInt8) (hT : flat ts = T) (w : World) (he : Mac.mac k T = x) (hr : StrRow w v ts) (hK : KT w) (hkl : k.length < 288230376151711744) (hlen : T.length < 288230376151711744) :
    Calls Tryd.prog 30 #[.string s, sumV x, v] w fun e w' => e = .returned (.bool true) ∧ Below w.heap.size w w' := by
  have := macRightF_any s k hs x hx v ts T hT w hr hK hkl hlen
  rwa [decide_eq_true he] at this
end Go.Proofs.YtcecncbhfcoilaaDoor
