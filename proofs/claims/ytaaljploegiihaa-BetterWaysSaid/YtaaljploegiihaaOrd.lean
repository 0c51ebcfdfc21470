/- The head word of the dump, and what a row's facts say of it. -/
import Derived.Test.YtaaljploegiihaaRows
import Derived.JoinedOf
import Derived.KernelRfl
namespace Go.Proofs.Ytaaljploegiihaa
set_option maxRecDepth 1000000

def ordH : List Char := List.map Char.ofNat [104, 97, 114, 110, 101, 115, 115]
def ordS : List Char := List.map Char.ofNat [56, 55, 55, 102, 56, 101, 53, 102, 50, 56, 50, 53, 99, 55, 98, 57, 49, 48, 98, 51, 53, 48, 57, 49, 55, 99, 48, 99, 51, 52, 99, 53, 57, 57, 48, 99, 51, 52, 50, 101, 48, 52, 50, 102, 49, 57, 102, 55, 48, 99, 50, 54, 55, 51, 49, 101, 102, 48, 53, 54, 48, 53, 102, 50]
def ordC : List Char := List.map Char.ofNat [99, 117, 116]
def ordR : List Char := List.map Char.ofNat [97, 116, 32, 104, 97, 117, 108, 105, 101, 114, 47, 104, 97, 117, 108, 105, 101, 114, 108, 97, 119, 49, 50, 46, 66, 111, 117, 110, 100, 84, 101, 108, 108, 115, 32, 104, 97, 117, 108, 105, 101, 114, 47, 104, 97, 117, 108, 105, 101, 114, 108, 97, 119, 49, 50, 46, 66, 111, 117, 110, 100, 83, 116, 101, 112, 115, 32, 104, 97, 117, 108, 105, 101, 114, 47, 104, 97, 117, 108, 105, 101, 114, 108, 97, 119, 49, 50, 46, 66, 111, 117, 110, 100, 87, 97, 121, 115, 32, 104, 97, 117, 108, 105, 101, 114, 47, 104, 97, 117, 108, 105, 101, 114, 108, 97, 119, 49, 50, 46, 66, 111, 117, 110, 100, 67, 111, 118, 101, 114, 115, 32, 104, 97, 117, 108, 105, 101, 114, 47, 104, 97, 117, 108, 105, 101, 114, 108, 97, 119, 49, 50, 46, 66, 111, 117, 110, 100, 76, 101, 115, 115, 32, 104, 97, 117, 108, 105, 101, 114, 47, 104, 97, 117, 108, 105, 101, 114, 108, 97, 119, 49, 51, 46, 66, 101, 116, 116, 101, 114, 87, 97, 121, 115, 32, 104, 97, 117, 108, 105, 101, 114, 47, 104, 97, 117, 108, 105, 101, 114, 108, 97, 119, 49, 53, 46, 69, 120, 97, 99, 116, 69, 118, 101, 114, 121, 32, 104, 97, 117, 108, 105, 101, 114, 47, 104, 97, 117, 108, 105, 101, 114, 108, 97, 119, 49, 53, 46, 69, 120, 97, 99, 116, 66, 111, 117, 110, 100, 32, 104, 97, 117, 108, 105, 101, 114, 47, 104, 97, 117, 108, 105, 101, 114, 108, 97, 119, 49, 53, 46, 69, 120, 97, 99, 116, 83, 116, 101, 112, 115, 32, 104, 97, 117, 108, 105, 101, 114, 47, 104, 97, 117, 108, 105, 101, 114, 108, 97, 119, 49, 53, 46, 69, 120, 97, 99, 116, 87, 105, 100, 101, 114]
theorem ord_is : Try.checked.prog.initOrder = String.ofList (ordH ++ Char.ofNat 32 :: (ordS ++ Char.ofNat 32 :: (ordC ++ Char.ofNat 32 :: ordR))) := by kernel_rfl
theorem word_step : ∀ (l R : List Char), (l.all fun c => c != Char.ofNat 32) = true → wordsSigns (l ++ Char.ofNat 32 :: R) = l :: wordsSigns R
  | [], R, _ => by simp [wordsSigns]
  | c :: l, R, h => by
    simp only [List.all_cons, Bool.and_eq_true, bne_iff_ne, ne_eq] at h
    have ih := word_step l R h.2
    rw [List.cons_append, wordsSigns, ih]
    exact h.1
theorem ord_words : behindMainWord (wordsSigns Try.checked.prog.initOrder.toList) = ordC :: wordsSigns ordR := by
  rw [ord_is, String.toList_ofList, word_step _ _ (by kernel_rfl), word_step _ _ (by kernel_rfl), word_step _ _ (by kernel_rfl)]
  generalize wordsSigns ordR = T
  kernel_rfl
theorem strip_cut (T : List (List Char)) : stripLifts liftWords (ordC :: T) = ([], ordC :: T) := by kernel_rfl
theorem may_of (P : Program) (T : List (List Char)) (h : behindMainWord (wordsSigns P.initOrder.toList) = ordC :: T)
    (hl : P.laysLater = false) (hb : P.bearsReflect = false) (hd : P.doorFits [] = true) : P.mayEnter = true := by
  unfold Program.mayEnter; rw [h]
  show (_ || (((stripLifts liftWords (ordC :: T)).2.head? == some "cut".toList && ((stripLifts liftWords (ordC :: T)).1.contains "finals" || !P.laysLater) && ((stripLifts liftWords (ordC :: T)).1.contains "reflectrows" || !P.bearsReflect) && ((stripLifts liftWords (ordC :: T)).1.contains "reflectrows" || !(stripLifts liftWords (ordC :: T)).1.contains "leanrows") && P.doorFits (stripLifts liftWords (ordC :: T)).1))) = true
  rw [strip_cut, hl, hb, hd]
  have e : (ordC == "cut".toList) = true := by kernel_rfl
  simp only [Bool.or_eq_true]; right
  kernel_rfl
theorem lifts_of (P : Program) (T : List (List Char)) (h : behindMainWord (wordsSigns P.initOrder.toList) = ordC :: T) : P.liftsFinal = false := by
  unfold Program.liftsFinal Program.headLifts; rw [h]; kernel_rfl
theorem make_of (P : Program) (T : List (List Char)) (h : behindMainWord (wordsSigns P.initOrder.toList) = ordC :: T) : P.make = some .cut := by
  unfold Program.make; rw [h]; kernel_rfl
theorem ord_may : Try.checked.prog.mayEnter = true := may_of _ _ ord_words (by kernel_rfl) (by kernel_rfl) (by kernel_rfl)
theorem ord_lifts : Try.checked.prog.liftsFinal = false := lifts_of _ _ ord_words
theorem ord_make : Try.checked.prog.make = some .cut := make_of _ _ ord_words
end Go.Proofs.Ytaaljploegiihaa
