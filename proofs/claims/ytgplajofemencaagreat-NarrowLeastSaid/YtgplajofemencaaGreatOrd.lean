/- The head word of the dump, and what a row's facts say of it. -/
import Derived.Test.YtgplajofemencaaGreatRows
import Derived.JoinedOf
import Derived.KernelRfl
namespace Go.Proofs.YtgplajofemencaaGreat
set_option maxRecDepth 1000000

def ordH : List Char := List.map Char.ofNat [104, 97, 114, 110, 101, 115, 115]
def ordS : List Char := List.map Char.ofNat [57, 52, 48, 101, 97, 56, 50, 51, 53, 53, 51, 55, 48, 51, 51, 53, 98, 50, 55, 48, 48, 56, 97, 101, 98, 55, 52, 48, 99, 56, 54, 102, 98, 49, 101, 49, 57, 54, 49, 56, 50, 98, 50, 52, 55, 54, 57, 100, 57, 56, 51, 50, 50, 52, 55, 100, 99, 101, 98, 51, 49, 97, 53, 100]
def ordC : List Char := List.map Char.ofNat [99, 117, 116]
def ordR : List Char := List.map Char.ofNat [97, 116, 32, 104, 97, 117, 108, 105, 101, 114, 47, 104, 97, 117, 108, 105, 101, 114, 108, 97, 119, 49, 54, 46, 78, 97, 114, 114, 111, 119, 66, 101, 115, 116, 32, 104, 97, 117, 108, 105, 101, 114, 47, 104, 97, 117, 108, 105, 101, 114, 108, 97, 119, 49, 54, 46, 78, 97, 114, 114, 111, 119, 80, 108, 97, 110, 115, 32, 104, 97, 117, 108, 105, 101, 114, 47, 104, 97, 117, 108, 105, 101, 114, 108, 97, 119, 49, 54, 46, 78, 97, 114, 114, 111, 119, 76, 101, 97, 115, 116, 32, 104, 97, 117, 108, 105, 101, 114, 47, 104, 97, 117, 108, 105, 101, 114, 108, 97, 119, 49, 54, 46, 78, 97, 114, 114, 111, 119, 66, 111, 117, 110, 100, 32, 104, 97, 117, 108, 105, 101, 114, 47, 104, 97, 117, 108, 105, 101, 114, 108, 97, 119, 49, 54, 46, 78, 97, 114, 114, 111, 119, 76, 111, 119]
theorem ord_is : Tryz.checked.prog.initOrder = String.ofList (ordH ++ Char.ofNat 32 :: (ordS ++ Char.ofNat 32 :: (ordC ++ Char.ofNat 32 :: ordR))) := by kernel_rfl
theorem word_step : ∀ (l R : List Char), (l.all fun c => c != Char.ofNat 32) = true → wordsSigns (l ++ Char.ofNat 32 :: R) = l :: wordsSigns R
  | [], R, _ => by simp [wordsSigns]
  | c :: l, R, h => by
    simp only [List.all_cons, Bool.and_eq_true, bne_iff_ne, ne_eq] at h
    have ih := word_step l R h.2
    rw [List.cons_append, wordsSigns, ih]
    exact h.1
theorem ord_words : behindMainWord (wordsSigns Tryz.checked.prog.initOrder.toList) = ordC :: wordsSigns ordR := by
  rw [ord_is, String.toList_ofList, word_step _ _ (by kernel_rfl), word_step _ _ (by kernel_rfl), word_step _ _ (by kernel_rfl)]
  generalize wordsSigns ordR = T
  kernel_rfl
theorem strip_cut (T : List (List Char)) : stripLifts liftWords (ordC :: T) = ([], ordC :: T) := by kernel_rfl
theorem may_of (P : Program) (T : List (List Char)) (h : behindMainWord (wordsSigns P.initOrder.toList) = ordC :: T)
    (hl : P.laysLater = false) (hb : P.bearsReflect = false) (hd : P.doorFits [] = true) : P.mayEnter = true := by
  unfold Program.mayEnter; rw [h]
  show (_ || (((stripLifts liftWords (ordC :: T)).2.head? == some "cut".toList && ((stripLifts liftWords (ordC :: T)).1.contains "finals" || !P.laysLater) && ((stripLifts liftWords (ordC :: T)).1.contains "reflectrows" || !P.bearsReflect) && ((stripLifts liftWords (ordC :: T)).1.contains "reflectrows" || !(stripLifts liftWords (ordC :: T)).1.contains "leanrows") && P.doorFits (stripLifts liftWords (ordC :: T)).1))) = true
  rw [strip_cut, hl, hb, hd]
  have e : (ordC == "cut".toList) = true := by kernel_rfl
  simp only [Bool.or_eq_true]; right
  kernel_rfl
theorem lifts_of (P : Program) (T : List (List Char)) (h : behindMainWord (wordsSigns P.initOrder.toList) = ordC :: T) : P.liftsFinal = false := by
  unfold Program.liftsFinal Program.headLifts; rw [h]; kernel_rfl
theorem make_of (P : Program) (T : List (List Char)) (h : behindMainWord (wordsSigns P.initOrder.toList) = ordC :: T) : P.make = some .cut := by
  unfold Program.make; rw [h]; kernel_rfl
theorem ord_may : Tryz.checked.prog.mayEnter = true := may_of _ _ ord_words (by kernel_rfl) (by kernel_rfl) (by kernel_rfl)
theorem ord_lifts : Tryz.checked.prog.liftsFinal = false := lifts_of _ _ ord_words
theorem ord_make : Tryz.checked.prog.make = some .cut := make_of _ _ ord_words
end Go.Proofs.YtgplajofemencaaGreat
