/- The head word of the dump, and what a row's facts say of it. -/
import Derived.Test.YtpgbbnmflnhlbaaRows
import Derived.JoinedOf
import Derived.KernelRfl
namespace Go.Proofs.Ytpgbbnmflnhlbaa
set_option maxRecDepth 1000000

def ordH : List Char := ['h', 'a', 'r', 'n', 'e', 's', 's']
def ordS : List Char := ['8', '8', '5', 'a', '2', '5', 'b', '0', 'e', '8', '2', '1', '2', '7', '8', 'a', '7', '2', 'a', 'c', '1', '4', '4', '8', '1', 'a', 'a', 'c', '2', '0', '0', 'c', '4', 'f', 'a', 'd', 'f', '4', 'a', '0', 'd', 'a', '3', '9', '5', '9', 'd', 'a', '0', '2', 'd', '4', 'f', 'f', '9', '9', 'c', 'c', '7', '4', 'b', '1', '9', 'd']
def ordC : List Char := ['c', 'u', 't']
def ordR : List Char := ['a', 't', ' ', 'h', 'a', 'u', 'l', 'i', 'e', 'r', '/', 'h', 'a', 'u', 'l', 'i', 'e', 'r', 'l', 'a', 'w', '0', '6', '.', 'P', 'l', 'a', 'n', 'e', 'T', 'e', 'l', 'l', 's', ' ', 'h', 'a', 'u', 'l', 'i', 'e', 'r', '/', 'h', 'a', 'u', 'l', 'i', 'e', 'r', 'l', 'a', 'w', '0', '6', '.', 'P', 'l', 'a', 'n', 'e', 'W', 'a', 'y', 's', ' ', 'h', 'a', 'u', 'l', 'i', 'e', 'r', '/', 'h', 'a', 'u', 'l', 'i', 'e', 'r', 'l', 'a', 'w', '0', '6', '.', 'P', 'l', 'a', 'n', 'e', 'M', 'o', 'v', 'e', 's', ' ', 'h', 'a', 'u', 'l', 'i', 'e', 'r', '/', 'h', 'a', 'u', 'l', 'i', 'e', 'r', 'l', 'a', 'w', '0', '6', '.', 'P', 'l', 'a', 'n', 'e', 'N', 'e', 'a', 'r', ' ', 'h', 'a', 'u', 'l', 'i', 'e', 'r', '/', 'h', 'a', 'u', 'l', 'i', 'e', 'r', 'l', 'a', 'w', '0', '6', '.', 'P', 'l', 'a', 'n', 'e', 'S', 'a', 'm', 'e', ' ', 'h', 'a', 'u', 'l', 'i', 'e', 'r', '/', 'h', 'a', 'u', 'l', 'i', 'e', 'r', 'l', 'a', 'w', '0', '7', '.', 'S', 'c', 'h', 'e', 'd', 'T', 'i', 'm', 'e', 's', ' ', 'h', 'a', 'u', 'l', 'i', 'e', 'r', '/', 'h', 'a', 'u', 'l', 'i', 'e', 'r', 'l', 'a', 'w', '0', '7', '.', 'S', 'c', 'h', 'e', 'd', 'K', 'e', 'e', 'p', 's', ' ', 'h', 'a', 'u', 'l', 'i', 'e', 'r', '/', 'h', 'a', 'u', 'l', 'i', 'e', 'r', 'l', 'a', 'w', '0', '7', '.', 'S', 'c', 'h', 'e', 'd', 'L', 'e', 's', 's', ' ', 'h', 'a', 'u', 'l', 'i', 'e', 'r', '/', 'h', 'a', 'u', 'l', 'i', 'e', 'r', 'l', 'a', 'w', '0', '7', '.', 'S', 'c', 'h', 'e', 'd', 'H', 'e', 'a', 'd', ' ', 'h', 'a', 'u', 'l', 'i', 'e', 'r', '/', 'h', 'a', 'u', 'l', 'i', 'e', 'r', 'l', 'a', 'w', '0', '7', '.', 'S', 'c', 'h', 'e', 'd', 'B', 'a', 'c', 'k', ' ', 'h', 'a', 'u', 'l', 'i', 'e', 'r', '/', 'h', 'a', 'u', 'l', 'i', 'e', 'r', 'l', 'a', 'w', '0', '7', '.', 'S', 'c', 'h', 'e', 'd', 'O', 'n', 'e', ' ', 'h', 'a', 'u', 'l', 'i', 'e', 'r', '/', 'h', 'a', 'u', 'l', 'i', 'e', 'r', 'l', 'a', 'w', '0', '7', '.', 'S', 'c', 'h', 'e', 'd', 'W', 'i', 'd', 'e', 'r', ' ', 'h', 'a', 'u', 'l', 'i', 'e', 'r', '/', 'h', 'a', 'u', 'l', 'i', 'e', 'r', 'l', 'a', 'w', '1', '0', '.', 'S', 't', 'a', 't', 'e', 'M', 'o', 'v', 'e', 's', ' ', 'h', 'a', 'u', 'l', 'i', 'e', 'r', '/', 'h', 'a', 'u', 'l', 'i', 'e', 'r', 'l', 'a', 'w', '1', '0', '.', 'S', 't', 'a', 't', 'e', 'F', 'o', 'l', 'l', 'o', 'w', 's', ' ', 'h', 'a', 'u', 'l', 'i', 'e', 'r', '/', 'h', 'a', 'u', 'l', 'i', 'e', 'r', 'l', 'a', 'w', '1', '0', '.', 'S', 't', 'a', 't', 'e', 'P', 'l', 'a', 'n', 's', ' ', 'h', 'a', 'u', 'l', 'i', 'e', 'r', '/', 'h', 'a', 'u', 'l', 'i', 'e', 'r', 'l', 'a', 'w', '1', '0', '.', 'S', 't', 'a', 't', 'e', 'T', 'o', 'u', 'r', 's', ' ', 'h', 'a', 'u', 'l', 'i', 'e', 'r', '/', 'h', 'a', 'u', 'l', 'i', 'e', 'r', 'l', 'a', 'w', '1', '0', '.', 'S', 't', 'a', 't', 'e', 'S', 'e', 'e', 'n', ' ', 'h', 'a', 'u', 'l', 'i', 'e', 'r', '/', 'h', 'a', 'u', 'l', 'i', 'e', 'r', 'l', 'a', 'w', '1', '0', '.', 'S', 't', 'a', 't', 'e', 'S', 't', 'e', 'p', 's', ' ', 'h', 'a', 'u', 'l', 'i', 'e', 'r', '/', 'h', 'a', 'u', 'l', 'i', 'e', 'r', 'l', 'a', 'w', '1', '0', '.', 'S', 't', 'a', 't', 'e', 'L', 'a', 't', 'e', ' ', 'h', 'a', 'u', 'l', 'i', 'e', 'r', '/', 'h', 'a', 'u', 'l', 'i', 'e', 'r', 'l', 'a', 'w', '1', '0', '.', 'S', 't', 'a', 't', 'e', 'E', 'n', 'd', 's', ' ', 'h', 'a', 'u', 'l', 'i', 'e', 'r', '/', 'h', 'a', 'u', 'l', 'i', 'e', 'r', 'l', 'a', 'w', '1', '1', '.', 'R', 'e', 'l', 'a', 'x', 'M', 'o', 'v', 'e', 's', ' ', 'h', 'a', 'u', 'l', 'i', 'e', 'r', '/', 'h', 'a', 'u', 'l', 'i', 'e', 'r', 'l', 'a', 'w', '1', '1', '.', 'R', 'e', 'l', 'a', 'x', 'W', 'a', 'y', 's', ' ', 'h', 'a', 'u', 'l', 'i', 'e', 'r', '/', 'h', 'a', 'u', 'l', 'i', 'e', 'r', 'l', 'a', 'w', '1', '2', '.', 'B', 'o', 'u', 'n', 'd', 'T', 'e', 'l', 'l', 's', ' ', 'h', 'a', 'u', 'l', 'i', 'e', 'r', '/', 'h', 'a', 'u', 'l', 'i', 'e', 'r', 'l', 'a', 'w', '1', '2', '.', 'B', 'o', 'u', 'n', 'd', 'S', 't', 'e', 'p', 's', ' ', 'h', 'a', 'u', 'l', 'i', 'e', 'r', '/', 'h', 'a', 'u', 'l', 'i', 'e', 'r', 'l', 'a', 'w', '1', '2', '.', 'B', 'o', 'u', 'n', 'd', 'W', 'a', 'y', 's', ' ', 'h', 'a', 'u', 'l', 'i', 'e', 'r', '/', 'h', 'a', 'u', 'l', 'i', 'e', 'r', 'l', 'a', 'w', '1', '2', '.', 'B', 'o', 'u', 'n', 'd', 'C', 'o', 'v', 'e', 'r', 's', ' ', 'h', 'a', 'u', 'l', 'i', 'e', 'r', '/', 'h', 'a', 'u', 'l', 'i', 'e', 'r', 'l', 'a', 'w', '1', '2', '.', 'B', 'o', 'u', 'n', 'd', 'L', 'e', 's', 's', ' ', 'h', 'a', 'u', 'l', 'i', 'e', 'r', '/', 'h', 'a', 'u', 'l', 'i', 'e', 'r', 'l', 'a', 'w', '1', '3', '.', 'B', 'e', 't', 't', 'e', 'r', 'W', 'a', 'y', 's']
theorem ord_is : Try.checked.prog.initOrder = String.ofList (ordH ++ ' ' :: (ordS ++ ' ' :: (ordC ++ ' ' :: ordR))) := by kernel_rfl
theorem word_step : ∀ (l R : List Char), (l.all fun c => c != ' ') = true → wordsSigns (l ++ ' ' :: R) = l :: wordsSigns R
  | [], R, _ => by simp [wordsSigns]
  | c :: l, R, h => by
    simp only [List.all_cons, Bool.and_eq_true, bne_iff_ne, ne_eq] at h
    have ih := word_step l R h.2
    rw [List.cons_append, wordsSigns, ih]
    exact h.1
theorem ord_words : behindMainWord (wordsSigns Try.checked.prog.initOrder.toList) = ordC :: wordsSigns ordR := by
  rw [ord_is, String.toList_ofList, word_step _ _ (by kernel_rfl), word_step _ _ (by kernel_rfl), word_step _ _ (by kernel_rfl)]
  generalize wordsSigns ordR = T
  kernel_rfl
theorem strip_cut (T : List (List Char)) : stripLifts liftWords (ordC :: T) = ([], ordC :: T) := by kernel_rfl
theorem may_of (P : Program) (T : List (List Char)) (h : behindMainWord (wordsSigns P.initOrder.toList) = ordC :: T)
    (hl : P.laysLater = false) (hb : P.bearsReflect = false) (hd : P.doorFits [] = true) : P.mayEnter = true := by
  unfold Program.mayEnter; rw [h]
  show (_ || (((stripLifts liftWords (ordC :: T)).2.head? == some "cut".toList && ((stripLifts liftWords (ordC :: T)).1.contains "finals" || !P.laysLater) && ((stripLifts liftWords (ordC :: T)).1.contains "reflectrows" || !P.bearsReflect) && ((stripLifts liftWords (ordC :: T)).1.contains "reflectrows" || !(stripLifts liftWords (ordC :: T)).1.contains "leanrows") && P.doorFits (stripLifts liftWords (ordC :: T)).1))) = true
  rw [strip_cut, hl, hb, hd]
  have e : (ordC == "cut".toList) = true := by kernel_rfl
  simp only [Bool.or_eq_true]; right
  kernel_rfl
theorem lifts_of (P : Program) (T : List (List Char)) (h : behindMainWord (wordsSigns P.initOrder.toList) = ordC :: T) : P.liftsFinal = false := by
  unfold Program.liftsFinal Program.headLifts; rw [h]; kernel_rfl
theorem make_of (P : Program) (T : List (List Char)) (h : behindMainWord (wordsSigns P.initOrder.toList) = ordC :: T) : P.make = some .cut := by
  unfold Program.make; rw [h]; kernel_rfl
theorem ord_may : Try.checked.prog.mayEnter = true := may_of _ _ ord_words (by kernel_rfl) (by kernel_rfl) (by kernel_rfl)
theorem ord_lifts : Try.checked.prog.liftsFinal = false := lifts_of _ _ ord_words
theorem ord_make : Try.checked.prog.make = some .cut := make_of _ _ ord_words
end Go.Proofs.Ytpgbbnmflnhlbaa
