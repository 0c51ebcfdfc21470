/- The head word of the dump, and what a row's facts say of it. -/
import Derived.Test.YtpgbbnmflnhlbaaRows
import Derived.JoinedOf
import Derived.KernelRfl
namespace Go.Proofs.Ytpgbbnmflnhlbaa
set_option maxRecDepth 1000000

def ordH : List Char := List.map Char.ofNat [104, 97, 114, 110, 101, 115, 115]
def ordS : List Char := List.map Char.ofNat [56, 56, 53, 97, 50, 53, 98, 48, 101, 56, 50, 49, 50, 55, 56, 97, 55, 50, 97, 99, 49, 52, 52, 56, 49, 97, 97, 99, 50, 48, 48, 99, 52, 102, 97, 100, 102, 52, 97, 48, 100, 97, 51, 57, 53, 57, 100, 97, 48, 50, 100, 52, 102, 102, 57, 57, 99, 99, 55, 52, 98, 49, 57, 100]
def ordC : List Char := List.map Char.ofNat [99, 117, 116]
def ordR : List Char := List.map Char.ofNat [97, 116, 32, 104, 97, 117, 108, 105, 101, 114, 47, 104, 97, 117, 108, 105, 101, 114, 108, 97, 119, 48, 54, 46, 80, 108, 97, 110, 101, 84, 101, 108, 108, 115, 32, 104, 97, 117, 108, 105, 101, 114, 47, 104, 97, 117, 108, 105, 101, 114, 108, 97, 119, 48, 54, 46, 80, 108, 97, 110, 101, 87, 97, 121, 115, 32, 104, 97, 117, 108, 105, 101, 114, 47, 104, 97, 117, 108, 105, 101, 114, 108, 97, 119, 48, 54, 46, 80, 108, 97, 110, 101, 77, 111, 118, 101, 115, 32, 104, 97, 117, 108, 105, 101, 114, 47, 104, 97, 117, 108, 105, 101, 114, 108, 97, 119, 48, 54, 46, 80, 108, 97, 110, 101, 78, 101, 97, 114, 32, 104, 97, 117, 108, 105, 101, 114, 47, 104, 97, 117, 108, 105, 101, 114, 108, 97, 119, 48, 54, 46, 80, 108, 97, 110, 101, 83, 97, 109, 101, 32, 104, 97, 117, 108, 105, 101, 114, 47, 104, 97, 117, 108, 105, 101, 114, 108, 97, 119, 48, 55, 46, 83, 99, 104, 101, 100, 84, 105, 109, 101, 115, 32, 104, 97, 117, 108, 105, 101, 114, 47, 104, 97, 117, 108, 105, 101, 114, 108, 97, 119, 48, 55, 46, 83, 99, 104, 101, 100, 75, 101, 101, 112, 115, 32, 104, 97, 117, 108, 105, 101, 114, 47, 104, 97, 117, 108, 105, 101, 114, 108, 97, 119, 48, 55, 46, 83, 99, 104, 101, 100, 76, 101, 115, 115, 32, 104, 97, 117, 108, 105, 101, 114, 47, 104, 97, 117, 108, 105, 101, 114, 108, 97, 119, 48, 55, 46, 83, 99, 104, 101, 100, 72, 101, 97, 100, 32, 104, 97, 117, 108, 105, 101, 114, 47, 104, 97, 117, 108, 105, 101, 114, 108, 97, 119, 48, 55, 46, 83, 99, 104, 101, 100, 66, 97, 99, 107, 32, 104, 97, 117, 108, 105, 101, 114, 47, 104, 97, 117, 108, 105, 101, 114, 108, 97, 119, 48, 55, 46, 83, 99, 104, 101, 100, 79, 110, 101, 32, 104, 97, 117, 108, 105, 101, 114, 47, 104, 97, 117, 108, 105, 101, 114, 108, 97, 119, 48, 55, 46, 83, 99, 104, 101, 100, 87, 105, 100, 101, 114, 32, 104, 97, 117, 108, 105, 101, 114, 47, 104, 97, 117, 108, 105, 101, 114, 108, 97, 119, 49, 48, 46, 83, 116, 97, 116, 101, 77, 111, 118, 101, 115, 32, 104, 97, 117, 108, 105, 101, 114, 47, 104, 97, 117, 108, 105, 101, 114, 108, 97, 119, 49, 48, 46, 83, 116, 97, 116, 101, 70, 111, 108, 108, 111, 119, 115, 32, 104, 97, 117, 108, 105, 101, 114, 47, 104, 97, 117, 108, 105, 101, 114, 108, 97, 119, 49, 48, 46, 83, 116, 97, 116, 101, 80, 108, 97, 110, 115, 32, 104, 97, 117, 108, 105, 101, 114, 47, 104, 97, 117, 108, 105, 101, 114, 108, 97, 119, 49, 48, 46, 83, 116, 97, 116, 101, 84, 111, 117, 114, 115, 32, 104, 97, 117, 108, 105, 101, 114, 47, 104, 97, 117, 108, 105, 101, 114, 108, 97, 119, 49, 48, 46, 83, 116, 97, 116, 101, 83, 101, 101, 110, 32, 104, 97, 117, 108, 105, 101, 114, 47, 104, 97, 117, 108, 105, 101, 114, 108, 97, 119, 49, 48, 46, 83, 116, 97, 116, 101, 83, 116, 101, 112, 115, 32, 104, 97, 117, 108, 105, 101, 114, 47, 104, 97, 117, 108, 105, 101, 114, 108, 97, 119, 49, 48, 46, 83, 116, 97, 116, 101, 76, 97, 116, 101, 32, 104, 97, 117, 108, 105, 101, 114, 47, 104, 97, 117, 108, 105, 101, 114, 108, 97, 119, 49, 48, 46, 83, 116, 97, 116, 101, 69, 110, 100, 115, 32, 104, 97, 117, 108, 105, 101, 114, 47, 104, 97, 117, 108, 105, 101, 114, 108, 97, 119, 49, 49, 46, 82, 101, 108, 97, 120, 77, 111, 118, 101, 115, 32, 104, 97, 117, 108, 105, 101, 114, 47, 104, 97, 117, 108, 105, 101, 114, 108, 97, 119, 49, 49, 46, 82, 101, 108, 97, 120, 87, 97, 121, 115, 32, 104, 97, 117, 108, 105, 101, 114, 47, 104, 97, 117, 108, 105, 101, 114, 108, 97, 119, 49, 50, 46, 66, 111, 117, 110, 100, 84, 101, 108, 108, 115, 32, 104, 97, 117, 108, 105, 101, 114, 47, 104, 97, 117, 108, 105, 101, 114, 108, 97, 119, 49, 50, 46, 66, 111, 117, 110, 100, 83, 116, 101, 112, 115, 32, 104, 97, 117, 108, 105, 101, 114, 47, 104, 97, 117, 108, 105, 101, 114, 108, 97, 119, 49, 50, 46, 66, 111, 117, 110, 100, 87, 97, 121, 115, 32, 104, 97, 117, 108, 105, 101, 114, 47, 104, 97, 117, 108, 105, 101, 114, 108, 97, 119, 49, 50, 46, 66, 111, 117, 110, 100, 67, 111, 118, 101, 114, 115, 32, 104, 97, 117, 108, 105, 101, 114, 47, 104, 97, 117, 108, 105, 101, 114, 108, 97, 119, 49, 50, 46, 66, 111, 117, 110, 100, 76, 101, 115, 115, 32, 104, 97, 117, 108, 105, 101, 114, 47, 104, 97, 117, 108, 105, 101, 114, 108, 97, 119, 49, 51, 46, 66, 101, 116, 116, 101, 114, 87, 97, 121, 115]
theorem ord_is : Try.checked.prog.initOrder = String.ofList (ordH ++ Char.ofNat 32 :: (ordS ++ Char.ofNat 32 :: (ordC ++ Char.ofNat 32 :: ordR))) := by kernel_rfl
theorem word_step : ∀ (l R : List Char), (l.all fun c => c != Char.ofNat 32) = true → wordsSigns (l ++ Char.ofNat 32 :: R) = l :: wordsSigns R
  | [], R, _ => by simp [wordsSigns]
  | c :: l, R, h => by
    simp only [List.all_cons, Bool.and_eq_true, bne_iff_ne, ne_eq] at h
    have ih := word_step l R h.2
    rw [List.cons_append, wordsSigns, ih]
    exact h.1
theorem ord_words : behindMainWord (wordsSigns Try.checked.prog.initOrder.toList) = ordC :: wordsSigns ordR := by
  rw [ord_is, String.toList_ofList, word_step _ _ (by kernel_rfl), word_step _ _ (by kernel_rfl), word_step _ _ (by kernel_rfl)]
  generalize wordsSigns ordR = T
  kernel_rfl
theorem strip_cut (T : List (List Char)) : stripLifts liftWords (ordC :: T) = ([], ordC :: T) := by kernel_rfl
theorem may_of (P : Program) (T : List (List Char)) (h : behindMainWord (wordsSigns P.initOrder.toList) = ordC :: T)
    (hl : P.laysLater = false) (hb : P.bearsReflect = false) (hd : P.doorFits [] = true) : P.mayEnter = true := by
  unfold Program.mayEnter; rw [h]
  show (_ || (((stripLifts liftWords (ordC :: T)).2.head? == some "cut".toList && ((stripLifts liftWords (ordC :: T)).1.contains "finals" || !P.laysLater) && ((stripLifts liftWords (ordC :: T)).1.contains "reflectrows" || !P.bearsReflect) && ((stripLifts liftWords (ordC :: T)).1.contains "reflectrows" || !(stripLifts liftWords (ordC :: T)).1.contains "leanrows") && P.doorFits (stripLifts liftWords (ordC :: T)).1))) = true
  rw [strip_cut, hl, hb, hd]
  have e : (ordC == "cut".toList) = true := by kernel_rfl
  simp only [Bool.or_eq_true]; right
  kernel_rfl
theorem lifts_of (P : Program) (T : List (List Char)) (h : behindMainWord (wordsSigns P.initOrder.toList) = ordC :: T) : P.liftsFinal = false := by
  unfold Program.liftsFinal Program.headLifts; rw [h]; kernel_rfl
theorem make_of (P : Program) (T : List (List Char)) (h : behindMainWord (wordsSigns P.initOrder.toList) = ordC :: T) : P.make = some .cut := by
  unfold Program.make; rw [h]; kernel_rfl
theorem ord_may : Try.checked.prog.mayEnter = true := may_of _ _ ord_words (by kernel_rfl) (by kernel_rfl) (by kernel_rfl)
theorem ord_lifts : Try.checked.prog.liftsFinal = false := lifts_of _ _ ord_words
theorem ord_make : Try.checked.prog.make = some .cut := make_of _ _ ord_words
end Go.Proofs.Ytpgbbnmflnhlbaa
