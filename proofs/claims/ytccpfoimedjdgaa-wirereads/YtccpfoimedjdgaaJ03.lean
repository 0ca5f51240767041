/-
  The register of CRC-32C: a bit on, a bit back, bytes; what a burst does to it.
  Contracts of package crc's functions forth, More, Sum: what each answers; memory stays as it is.
  Contracts of the reference's Copy, Same, More and Sum; bytes that came in.
  Contracts of package frame's functions four, front, number, whole and fits; arrays of four bytes.
  Contract of laid: a frame's bytes behind a row of our own.
  Contract of Encode; the head of each law.
  Contract of Decode, whatever bytes.
-/
import Derived.Test.YtccpfoimedjdgaaRows
import Derived.WalkKit
import Derived.ProofKit
import Derived.OpenShut
import Derived.Laws.BitsAllLaws
import Derived.Laws.CopyOwn
import Derived.Laws.OwnMore
import Derived.Deep.OwnRows
import Derived.Deep.AppendLies
import Derived.Deep.QuietTactic
import Derived.BigQuiet
import Derived.OwnWalk
import Derived.Lib.Hide
import Derived.LoopTactic
import Derived.Handy
import Derived.Laws.BytesArg
import Derived.Laws.IdiomStrings
import Derived.ChangeKeysEq
import Derived.Deep.RegionHeld3
import Derived.Laws.IdiomArrays
import Derived.Laws.AppendOwnNone
import Derived.Laws.MakeOwn

namespace Go.Proofs.CrcMath
def P : Nat := 2197175160

/-- the register one bit on -/
def fwd (x : Nat) : Nat := x / 2 ^^^ (if x % 2 = 1 then P else 0)

def it : Nat → Nat → Nat
  | 0, x => x
  | k + 1, x => it k (fwd x)

/-- one bit back -/
def bk (x : Nat) : Nat := if x / 2147483648 = 1 then (x ^^^ P) * 2 + 1 else x * 2

def ib : Nat → Nat → Nat
  | 0, x => x
  | k + 1, x => ib k (bk x)

def no (x : Nat) : Nat := x ^^^ 4294967295

/-- the register behind n bytes -/
def reg (r : Nat) (f : Nat → Nat) : Nat → Nat
  | 0 => r
  | n + 1 => it 8 (reg r f n ^^^ f n)

def more (s : Nat) (f : Nat → Nat) (n : Nat) : Nat := no (reg (no s) f n)

/-- n bytes as one number, the first one lowest -/
def num (f : Nat → Nat) : Nat → Nat
  | 0 => 0
  | n + 1 => num f n ^^^ f n * 2 ^ (8 * n)

set_option maxRecDepth 100000 in
theorem xor_lt32 {a b : Nat} (ha : a < 4294967296) (hb : b < 4294967296) : a ^^^ b < 4294967296 := Nat.xor_lt_two_pow (n := 32) ha hb

set_option maxRecDepth 100000 in
theorem xx (a b : Nat) : a ^^^ b ^^^ b = a := by rw [Nat.xor_assoc, Nat.xor_self, Nat.xor_zero]

set_option maxRecDepth 100000 in
theorem no_lt {x : Nat} (h : x < 4294967296) : no x < 4294967296 := xor_lt32 h (by decide)

set_option maxRecDepth 100000 in
theorem no_no (x : Nat) : no (no x) = x := xx x _

set_option maxRecDepth 100000 in
theorem no_inj {x y : Nat} (h : no x = no y) : x = y := by rw [← no_no x, h, no_no]

set_option maxRecDepth 100000 in
theorem xlc (a b c : Nat) : a ^^^ (b ^^^ c) = b ^^^ (a ^^^ c) := by rw [← Nat.xor_assoc, Nat.xor_comm a, Nat.xor_assoc]

set_option maxRecDepth 100000 in
theorem xor_half (x y : Nat) : (x ^^^ y) / 2 = x / 2 ^^^ y / 2 := Nat.xor_div_two_pow (n := 1)

set_option maxRecDepth 100000 in
theorem xor_odd (x y : Nat) : (x ^^^ y) % 2 = (x % 2 + y % 2) % 2 := by
  have h := Nat.xor_mod_two_eq_one (a := x) (b := y)
  have h1 := Nat.mod_two_eq_zero_or_one x
  have h2 := Nat.mod_two_eq_zero_or_one y
  have h3 := Nat.mod_two_eq_zero_or_one (x ^^^ y)
  generalize (x ^^^ y) % 2 = z at *
  generalize x % 2 = a at *
  generalize y % 2 = b at *
  rcases h1 with rfl | rfl <;> rcases h2 with rfl | rfl <;> rcases h3 with rfl | rfl <;> simp_all

set_option maxRecDepth 100000 in
theorem fwd_xor (x y : Nat) : fwd (x ^^^ y) = fwd x ^^^ fwd y := by
  unfold fwd
  rw [xor_half, xor_odd]
  rcases Nat.mod_two_eq_zero_or_one x with h | h <;> rcases Nat.mod_two_eq_zero_or_one y with h' | h' <;> simp only [h, h'] <;> simp
  · ac_rfl
  · ac_rfl
  · rw [Nat.xor_assoc, xlc P, Nat.xor_self, Nat.xor_zero]

set_option maxRecDepth 100000 in
theorem it_xor (k : Nat) : ∀ x y : Nat, it k (x ^^^ y) = it k x ^^^ it k y := by
  induction k with
  | zero => intro x y; rfl
  | succ k ih => intro x y; show it k (fwd (x ^^^ y)) = _; rw [fwd_xor, ih]; rfl

set_option maxRecDepth 100000 in
theorem it_add (a b : Nat) : ∀ x : Nat, it (a + b) x = it b (it a x) := by
  induction a with
  | zero => intro x; rw [Nat.zero_add]; rfl
  | succ a ih => intro x; rw [Nat.succ_add]; exact ih (fwd x)

set_option maxRecDepth 100000 in
theorem fwd_two (y : Nat) : fwd (y * 2) = y := by unfold fwd; simp

set_option maxRecDepth 100000 in
theorem it_pow (k y : Nat) : it k (y * 2 ^ k) = y := by
  induction k with
  | zero => simp [it]
  | succ k ih => show it k (fwd (y * 2 ^ (k + 1))) = y; rw [Nat.pow_succ, ← Nat.mul_assoc, fwd_two, ih]

set_option maxRecDepth 100000 in
theorem fwd_lt {x : Nat} (h : x < 4294967296) : fwd x < 4294967296 := by
  unfold fwd
  refine xor_lt32 (by omega) ?_
  split <;> decide

set_option maxRecDepth 100000 in
theorem it_lt (k : Nat) : ∀ {x : Nat}, x < 4294967296 → it k x < 4294967296 := by
  induction k with
  | zero => intro x h; exact h
  | succ k ih => intro x h; exact ih (fwd_lt h)

set_option maxRecDepth 100000 in
theorem top_xor (x : Nat) (h : x < 2147483648) : (x ^^^ P) / 2147483648 = 1 := by
  have e : (x ^^^ P) / 2 ^ 31 = x / 2 ^ 31 ^^^ P / 2 ^ 31 := Nat.xor_div_two_pow
  have e1 : x / 2 ^ 31 = 0 := Nat.div_eq_of_lt h
  rw [e1] at e
  exact e.trans (by decide)

set_option maxRecDepth 100000 in
theorem bk_fwd (x : Nat) (h : x < 4294967296) : bk (fwd x) = x := by
  unfold fwd
  rcases Nat.mod_two_eq_zero_or_one x with h' | h'
  · simp only [h']
    unfold bk
    have : x / 2 ^^^ (if (0:Nat) = 1 then P else 0) = x / 2 := by simp
    rw [this, if_neg (by omega)]; omega
  · simp only [h', if_true]
    unfold bk
    rw [if_pos (top_xor _ (by omega)), xx]; omega

set_option maxRecDepth 100000 in
theorem it_succ' (k x : Nat) : it (k + 1) x = fwd (it k x) := it_add k 1 x

set_option maxRecDepth 100000 in
theorem ib_succ' (k : Nat) : ∀ x : Nat, ib (k + 1) x = bk (ib k x) := by
  induction k with
  | zero => intro x; rfl
  | succ k ih => intro x; exact ih (bk x)

set_option maxRecDepth 100000 in
theorem ib_it (k : Nat) : ∀ x : Nat, x < 4294967296 → ib k (it k x) = x := by
  induction k with
  | zero => intro x _; rfl
  | succ k ih => intro x h; rw [ib_succ']; show bk (ib k (it k (fwd x))) = x; rw [ih _ (fwd_lt h), bk_fwd x h]

set_option maxRecDepth 100000 in
theorem it_zero (k : Nat) : it k 0 = 0 := by
  induction k with
  | zero => rfl
  | succ k ih => exact ih

set_option maxRecDepth 100000 in
theorem it_null (k x : Nat) (h : x < 4294967296) (e : it k x = 0) : x = 0 := by
  have := ib_it k x h
  rw [e] at this
  have h2 := ib_it k 0 (by decide)
  rw [it_zero] at h2
  rw [← this, h2]

set_option maxRecDepth 100000 in
theorem reg_num (r : Nat) (f : Nat → Nat) (n : Nat) : reg r f n = it (8 * n) (r ^^^ num f n) := by
  induction n with
  | zero => simp [reg, num, it]
  | succ n ih =>
    show it 8 (reg r f n ^^^ f n) = it (8 * n + 8) (r ^^^ (num f n ^^^ f n * 2 ^ (8 * n)))
    rw [it_add, ← Nat.xor_assoc, it_xor (8 * n), it_pow, ih]

set_option maxRecDepth 100000 in
theorem reg_lt (r : Nat) (f : Nat → Nat) (n : Nat) (hr : r < 4294967296) (hf : ∀ j, j < n → f j < 256) : reg r f n < 4294967296 := by
  induction n with
  | zero => exact hr
  | succ n ih => exact it_lt 8 (xor_lt32 (ih fun j hj => hf j (by omega)) (by have := hf n (by omega); omega))

set_option maxRecDepth 100000 in
theorem more_lt (s : Nat) (f : Nat → Nat) (n : Nat) (hr : s < 4294967296) (hf : ∀ j, j < n → f j < 256) : more s f n < 4294967296 :=
  no_lt (reg_lt _ f n (no_lt hr) hf)

set_option maxRecDepth 100000 in
theorem reg_congr (r : Nat) (f g : Nat → Nat) (n : Nat) (h : ∀ j, j < n → f j = g j) : reg r f n = reg r g n := by
  induction n with
  | zero => rfl
  | succ n ih => show it 8 _ = it 8 _; rw [ih fun j hj => h j (by omega), h n (by omega)]

set_option maxRecDepth 100000 in
theorem more_congr (s : Nat) (f g : Nat → Nat) (n : Nat) (h : ∀ j, j < n → f j = g j) : more s f n = more s g n := by
  unfold more; rw [reg_congr _ f g n h]

set_option maxRecDepth 100000 in
theorem reg_add (r : Nat) (f : Nat → Nat) (m k : Nat) : reg r f (m + k) = reg (reg r f m) (fun j => f (m + j)) k := by
  induction k with
  | zero => rfl
  | succ k ih => show it 8 (reg r f (m + k) ^^^ f (m + k)) = it 8 _; rw [ih]

set_option maxRecDepth 100000 in
theorem more_add (s : Nat) (f : Nat → Nat) (m k : Nat) : more s f (m + k) = more (more s f m) (fun j => f (m + j)) k := by
  unfold more; rw [no_no, reg_add]

set_option maxRecDepth 100000 in
theorem num_xor (f g : Nat → Nat) (n : Nat) : num (fun j => f j ^^^ g j) n = num f n ^^^ num g n := by
  induction n with
  | zero => show 0 = 0 ^^^ 0; rw [Nat.xor_self]
  | succ n ih =>
    show num (fun j => f j ^^^ g j) n ^^^ (f n ^^^ g n) * 2 ^ (8 * n) = (num f n ^^^ f n * 2 ^ (8 * n)) ^^^ (num g n ^^^ g n * 2 ^ (8 * n))
    have e : (f n ^^^ g n) * 2 ^ (8 * n) = f n * 2 ^ (8 * n) ^^^ g n * 2 ^ (8 * n) := by
      rw [← Nat.shiftLeft_eq, ← Nat.shiftLeft_eq, ← Nat.shiftLeft_eq, Nat.shiftLeft_xor_distrib]
    rw [ih, e, Nat.xor_assoc, Nat.xor_assoc]
    congr 1
    rw [← Nat.xor_assoc, ← Nat.xor_assoc, Nat.xor_comm (num g n)]

set_option maxRecDepth 100000 in
theorem num_lt (f : Nat → Nat) (n : Nat) (hf : ∀ j, j < n → f j < 256) : num f n < 2 ^ (8 * n) := by
  induction n with
  | zero => exact Nat.one_pos
  | succ n ih =>
    have h1 := ih fun j hj => hf j (by omega)
    have h2 := hf n (by omega)
    have e : 2 ^ (8 * (n + 1)) = 256 * 2 ^ (8 * n) := by rw [Nat.mul_add, Nat.pow_add, Nat.mul_comm]
    refine Nat.xor_lt_two_pow (Nat.lt_of_lt_of_le h1 (Nat.pow_le_pow_right (by decide) (by omega))) ?_
    rw [e]; exact Nat.mul_lt_mul_of_pos_right h2 (Nat.two_pow_pos _)

set_option maxRecDepth 100000 in
theorem num_null (f : Nat → Nat) (n : Nat) (hf : ∀ j, j < n → f j < 256) (h : num f n = 0) : ∀ j, j < n → f j = 0 := by
  induction n with
  | zero => intro j hj; omega
  | succ n ih =>
    have hl := num_lt f n fun j hj => hf j (by omega)
    have e : num f n = f n * 2 ^ (8 * n) := by
      have h' : num f n ^^^ f n * 2 ^ (8 * n) = 0 := h
      have := xx (num f n) (f n * 2 ^ (8 * n))
      rw [h', Nat.zero_xor] at this
      exact this.symm
    have h0 : f n = 0 := by
      rcases Nat.eq_zero_or_pos (f n) with h' | h'
      · exact h'
      · have : 2 ^ (8 * n) ≤ f n * 2 ^ (8 * n) := Nat.le_mul_of_pos_left _ h'
        omega
    intro j hj
    rcases Nat.lt_or_ge j n with h' | h'
    · exact ih (fun j hj => hf j (by omega)) (by rw [e, h0, Nat.zero_mul]) j h'
    · rw [show j = n by omega]; exact h0

set_option maxRecDepth 100000 in
theorem xor_null {a b : Nat} (h : a ^^^ b = 0) : a = b := by
  have := xx a b; rw [h, Nat.zero_xor] at this; exact this.symm

set_option maxRecDepth 100000 in
theorem num_inj (f g : Nat → Nat) (n : Nat) (hf : ∀ j, j < n → f j < 256) (hg : ∀ j, j < n → g j < 256) (h : num f n = num g n) : ∀ j, j < n → f j = g j := by
  intro j hj
  refine xor_null (num_null (fun j => f j ^^^ g j) n (fun j hj => Nat.xor_lt_two_pow (n := 8) (hf j hj) (hg j hj)) ?_ j hj)
  rw [num_xor, h, Nat.xor_self]

set_option maxRecDepth 100000 in
/-- a change within 32 bits changes the register -/
theorem burst (r : Nat) (f g : Nat → Nat) (n at_ W : Nat) (hat : at_ ≤ 8 * n) (hW : W < 4294967296) (hnum : num g n = num f n ^^^ W * 2 ^ at_) (h : reg r f n = reg r g n) : W = 0 := by
  rw [reg_num, reg_num, hnum, ← Nat.xor_assoc, it_xor (8 * n) (r ^^^ num f n)] at h
  have h0 : it (8 * n) (W * 2 ^ at_) = 0 := by
    have := xx (it (8 * n) (W * 2 ^ at_)) (it (8 * n) (r ^^^ num f n))
    rw [Nat.xor_comm (it (8 * n) (W * 2 ^ at_)), ← h, Nat.xor_self] at this
    exact this.symm
  rw [show 8 * n = at_ + (8 * n - at_) by omega, it_add, it_pow] at h0
  exact it_null _ W hW h0

/-- the four bytes of a number, lowest first -/
def four (x : Nat) (j : Nat) : Nat := x / 256 ^ j % 256

end Go.Proofs.CrcMath

namespace Go.Proofs.Ytccpfoimedjdgaa.Fr
open Go.ChangeShapes Go.WideShapes Go.ChangeAt Go.RowKit

set_option maxRecDepth 100000 in
theorem ret_int {k : IntKind} {a b : Int} (h : a = b) : Ending.returned (.int k a) = .returned (.int k b) := by rw [h]

set_option maxRecDepth 100000 in
theorem val_int {k : IntKind} {a b : Int} (h : a = b) : Value.int k a = .int k b := by rw [h]

set_option maxRecDepth 100000 in
theorem nx (a b : Nat) (ha : a < 4294967296) (hb : b < 4294967296) : bits .xor .u32 (a : Int) (b : Int) = ((a ^^^ b : Nat) : Int) := u32_xor_nat a b ha hb

set_option maxRecDepth 100000 in
theorem forth_eq (n : Nat) (hn : n < 4294967296) :
    bits BinOp.xor IntKind.u32 (↑n / 2) (bits BinOp.and IntKind.u32 2197175160 (-bits BinOp.and IntKind.u32 (↑n) 1 % 4294967296)) = ((CrcMath.fwd n : Nat) : Int) := by
  have h1 : bits BinOp.and IntKind.u32 (n : Int) 1 = ((n % 2 : Nat) : Int) := (u32_and_nat n 1 hn (by decide)).trans (by rw [Nat.and_one_is_mod])
  have h2 : (n : Int) / 2 = ((n / 2 : Nat) : Int) := by omega
  rw [h1, h2]
  unfold CrcMath.fwd
  rcases Nat.mod_two_eq_zero_or_one n with h | h
  · rw [h]
    have e : bits BinOp.and IntKind.u32 2197175160 (-((0 : Nat) : Int) % 4294967296) = ((0 : Nat) : Int) := by decide
    rw [e, nx _ _ (by omega) (by decide)]; rfl
  · rw [h]
    have e : bits BinOp.and IntKind.u32 2197175160 (-((1 : Nat) : Int) % 4294967296) = ((CrcMath.P : Nat) : Int) := by decide
    rw [e, nx _ _ (by omega) (by decide)]; rfl

set_option maxRecDepth 100000 in
theorem forth_any (n : Nat) (w : World) (hn : n < 4294967296) :
    Calls Try.prog 59 #[.int .u32 (n : Int)] w fun e w' => e = .returned (.int .u32 ((CrcMath.fwd n : Nat) : Int)) ∧ w = w' := by
  have H := Lib.hid hn
  clear hn
  go_enter Try.func59, Try.ntmps59
  go_wp2
  go_ret
  exact ⟨ret_int (forth_eq n H.out), rfl⟩

/-- where a slice of bytes lies: nothing is said of an empty one -/
def Src (w : World) (sp : Option Addr) (n : Nat) (f : Nat → Nat) : Prop :=
  0 < n → ∃ ad, sp = some ad ∧ ad.block < w.heap.size ∧ ∀ j, j < n → w.cell? (ad.add j) = some (.int .u8 ((f j : Nat) : Int))

set_option maxRecDepth 100000 in
theorem block_add (a : Addr) (n : Nat) : (a.add n).block = a.block := by unfold Addr.add; split <;> rfl

set_option maxRecDepth 100000 in
theorem Src.below {w w' : World} {sp : Option Addr} {n : Nat} {f : Nat → Nat} (h : Src w sp n f) (hb : Below w.heap.size w w') : Src w' sp n f := by
  intro hn
  obtain ⟨ad, e, hlt, hc⟩ := h hn
  exact ⟨ad, e, Nat.lt_of_lt_of_le hlt hb.size, fun j hj => (hb.cell (by rw [block_add]; exact hlt)).trans (hc j hj)⟩

set_option maxRecDepth 100000 in
theorem no_eq (n : Nat) (hn : n < 4294967296) : bits .xor .u32 4294967295 (n : Int) = ((CrcMath.no n : Nat) : Int) := (nx 4294967295 n (by decide) hn).trans (by rw [Nat.xor_comm]; rfl)

set_option maxRecDepth 100000 in
set_option maxHeartbeats 1000000 in
theorem more_any (s : Nat) (sp : Option Addr) (n cap : Nat) (f : Nat → Nat) (w : World) (hs : s < 4294967296) (hn : n ≤ 1000000) (hf : ∀ j, j < n → f j < 256) (hsr : Src w sp n f) :
    Calls Try.prog 52 #[.int .u32 (s : Int), .slice sp n cap] w fun e w' => e = .returned (.int .u32 ((CrcMath.more s f n : Nat) : Int)) ∧ w = w' := by
  have HS := Lib.hid hsr
  have HF := Lib.hid hf
  have HN := Lib.hid (no_eq s hs)
  have HL := Lib.hid (CrcMath.no_lt hs)
  have HM : Hid (CrcMath.more s f n = CrcMath.no (CrcMath.reg (CrcMath.no s) f n)) := Lib.hid rfl
  generalize CrcMath.no s = r at *
  clear hsr hf hs
  go_enter Try.func52, Try.ntmps52
  go_wp2
  go_loopw [5, 7, 12, 20] (fun x _ i _ wr => ∃ t : Nat, t ≤ n ∧ i = .int .i64 (t : Int) ∧ x = .int .u32 ((CrcMath.reg r f t : Nat) : Int) ∧ w = wr) (fun _ _ i _ _ => n - (intOf i).toNat)
  case atStart => exact ⟨0, Nat.zero_le _, rfl, val_int HN.out, rfl⟩
  case round =>
    obtain ⟨t, ht, rfl, rfl, rfl⟩ := hrel
    have HT := Lib.hid (CrcMath.reg_lt r f t HL.out fun j hj => HF.out j (by omega))
    by_cases hlt : t < n
    · obtain ⟨ad, rfl, hadlt, hadc⟩ := HS.out (by omega)
      obtain ⟨b, off, spot⟩ := ad
      have h0 := hadc 0 (by omega)
      have hspot : spot = none := by simpa [Addr.add] using World.cell?_spot h0
      subst hspot
      have c1 := hadc t hlt
      rw [Go.WideShapes.add_plain] at c1
      have hy := HF.out t hlt
      have HE : Hid (CrcMath.reg r f (t + 1) = CrcMath.it 8 (CrcMath.reg r f t ^^^ f t)) := Lib.hid rfl
      generalize CrcMath.reg r f t = x at *
      generalize f t = c at *
      have HX := Lib.hid (nx x c HT.out (by omega))
      have HXL := Lib.hid (CrcMath.xor_lt32 HT.out (by omega : c < 4294967296))
      generalize x ^^^ c = y at *
      clear h0 hadc
      go_wp2
      go_loopw [5, 20] (fun x i wr => ∃ k : Nat, k ≤ 8 ∧ i = .int .i64 (k : Int) ∧ x = .int .u32 ((CrcMath.it k y : Nat) : Int) ∧ w = wr) (fun _ i _ => 8 - (intOf i).toNat)
      case atStart => exact ⟨0, Nat.zero_le _, rfl, val_int HX.out, rfl⟩
      case round =>
        obtain ⟨k, hk, rfl, rfl, rfl⟩ := hrel
        have HK := Lib.hid (CrcMath.it_lt k HXL.out)
        have HKE := Lib.hid (CrcMath.it_succ' k y)
        by_cases hlt8 : k < 8
        · generalize CrcMath.it k y = z at *
          go_wp2_with fail
          refine (forth_any z _ HK.out).mono ?_
          rintro e w' ⟨rfl, rfl⟩
          go_wp2
          go_roundw
          case rel => exact ⟨k + 1, by omega, by go_num, val_int (by rw [HKE.out]), by first | rfl | trivial⟩
          case measure => simp [intOf]; omega
        · obtain rfl : k = 8 := by omega
          generalize CrcMath.it 8 y = z at *
          go_wp2
          go_roundw
          case rel => exact ⟨t + 1, by omega, by go_num, val_int (by rw [HE.out]), by first | rfl | trivial⟩
          case measure => simp [intOf]; omega
    · obtain rfl : t = n := by omega
      have HNO := Lib.hid (no_eq _ HT.out)
      generalize CrcMath.reg r f t = x at *
      go_wp2
      go_ret
      exact ⟨ret_int (by rw [HM.out]; exact HNO.out), rfl⟩

set_option maxRecDepth 100000 in
theorem sum_any (sp : Option Addr) (n cap : Nat) (f : Nat → Nat) (w : World) (hn : n ≤ 1000000) (hf : ∀ j, j < n → f j < 256) (hsr : Src w sp n f) :
    Calls Try.prog 39 #[.slice sp n cap] w fun e w' => e = .returned (.int .u32 ((CrcMath.more 0 f n : Nat) : Int)) ∧ w = w' := by
  have HS := Lib.hid hsr
  have HF := Lib.hid hf
  clear hsr hf
  go_enter Try.func39, Try.ntmps39
  go_wp2_with fail
  refine (more_any 0 sp n cap f w (by decide) hn HF.out HS.out).mono ?_
  rintro e w' ⟨rfl, rfl⟩
  go_wp2
  go_ret
  exact ⟨rfl, rfl⟩

end Go.Proofs.Ytccpfoimedjdgaa.Fr

namespace Go.Proofs.Ytccpfoimedjdgaa.Fr
open Go.ChangeShapes Go.WideShapes Go.ChangeAt Go.RowKit

set_option maxRecDepth 100000 in
theorem info5 : (Try.prog.info? 5).map (fun i => (i.zero, i.size, i.bytes)) = some (some (.int .u8 0), 1, 1) := by kernel_rfl

set_option maxRecDepth 100000 in
theorem size5 : (Try.prog.info? 5).map (·.size) = some 1 := by kernel_rfl

/-- bytes, as cells -/
def rowB (f : Nat → Nat) (n : Nat) : List Value := (List.range n).map fun j => .int .u8 ((f j : Nat) : Int)

set_option maxRecDepth 100000 in
theorem rowB_length (f : Nat → Nat) (n : Nat) : (rowB f n).length = n := by simp [rowB]

set_option maxRecDepth 100000 in
theorem rowB_get (f : Nat → Nat) (n j : Nat) (h : j < n) : (rowB f n)[j]? = some (.int .u8 ((f j : Nat) : Int)) := by simp [rowB, h]

set_option maxRecDepth 100000 in
theorem rowB_one (f : Nat → Nat) (n : Nat) : ∀ u ∈ rowB f n, u.oneCell' = true := by
  intro u hu; simp [rowB] at hu; obtain ⟨j, _, rfl⟩ := hu; rfl

set_option maxRecDepth 100000 in
theorem rowB_congr (f h : Nat → Nat) (n : Nat) (e : ∀ j, j < n → f j = h j) : rowB f n = rowB h n := by
  unfold rowB; apply List.map_congr_left; intro j hj; rw [e j (by simpa using hj)]

set_option maxRecDepth 100000 in
theorem rowB_app (f h : Nat → Nat) (n m : Nat) (r : Nat → Nat) (h1 : ∀ j, j < n → r j = f j) (h2 : ∀ j, j < m → r (n + j) = h j) : rowB f n ++ rowB h m = rowB r (n + m) := by
  apply List.ext_getElem?
  intro j
  by_cases hj : j < n
  · rw [List.getElem?_append_left (by rw [rowB_length]; exact hj), rowB_get _ _ _ hj, rowB_get _ _ _ (by omega), h1 j hj]
  · rw [List.getElem?_append_right (by rw [rowB_length]; omega), rowB_length]
    by_cases hj2 : j < n + m
    · rw [rowB_get _ _ _ (by omega), rowB_get _ _ _ hj2]
      have := h2 (j - n) (by omega)
      rw [show n + (j - n) = j from by omega] at this
      rw [this]
    · rw [List.getElem?_eq_none (by rw [rowB_length]; omega), List.getElem?_eq_none (by rw [rowB_length]; omega)]

set_option maxRecDepth 100000 in
theorem own_below {w w' : World} {base e size n : Nat} {v : Value} {xs : List Value} (h : w.ownsRow base e size v n xs) (hb : Below w.heap.size w w') : w'.ownsRow base e size v n xs := by
  refine ⟨h.1, ?_⟩
  rcases h.2 with h0 | ⟨g, cap, cur, hv, hg, hh, hrest⟩
  · exact .inl h0
  · have hlt : g < w.heap.size := by
      rcases Nat.lt_or_ge g w.heap.size with h' | h'
      · exact h'
      · rw [Array.getElem?_eq_none h'] at hh; cases hh
    exact .inr ⟨g, cap, cur, hv, hg, (hb.block g hlt).trans hh, hrest⟩

set_option maxRecDepth 100000 in
theorem own_src {w : World} {base n cap : Nat} {sp : Option Addr} {F : Nat → Nat} (h : w.ownsRow base 5 1 (.slice sp n cap) n (rowB F n)) : Src w sp n F := by
  intro hn
  obtain ⟨g, cap', e, _, hlt⟩ := h.form hn
  injection e with e1 e2 e3
  subst e1
  refine ⟨_, rfl, hlt, fun j hj => ?_⟩
  have := h.cells (g := g) rfl j _ (rowB_get F n j hj)
  exact this

set_option maxRecDepth 100000 in
theorem own_slice {w : World} {base n : Nat} {v : Value} {xs : List Value} (h : w.ownsRow base 5 1 v n xs) : ∃ sp cap, v = .slice sp n cap ∧ (sp = none → n = 0 ∧ cap = 0) ∧ n ≤ cap := by
  rcases h.2 with ⟨e, rfl⟩ | ⟨g, cp, cur, e, _, _, hc, _⟩
  · exact ⟨_, _, e, fun _ => ⟨rfl, rfl⟩, Nat.le_refl _⟩
  · exact ⟨_, _, e, fun h => (by cases h), hc⟩

set_option maxRecDepth 100000 in
theorem cell_lt {w : World} {a : Addr} {v : Value} (h : w.cell? a = some v) : a.block < w.heap.size := by
  rcases Nat.lt_or_ge a.block w.heap.size with h' | h'
  · exact h'
  · simp [World.cell?, Array.getElem?_eq_none h'] at h

set_option maxRecDepth 100000 in
theorem u8_bounds {n : Int} (h : (Lit.int .u8 n).wf = true) : 0 ≤ n ∧ n ≤ 255 := by
  simpa [Lit.wf, IntKind.min, IntKind.max, IntKind.signed, IntKind.bits] using h

set_option maxRecDepth 100000 in
/-- bytes that came in, as a function of their places -/
theorem src_of {w : World} {a : Option Addr} {len cap : Nat} {zs : List Int}
    (h : (a = none ∧ len = 0 ∧ cap = 0 ∧ zs = []) ∨ ∃ x, a = some x ∧ len ≤ cap ∧ cap ≤ maxLen ∧ zs.length = cap ∧ (∀ i, i < zs.length → w.cell? (x.add i) = some (.int .u8 (zs.getD i 0))) ∧ ∀ n ∈ zs, (Lit.int .u8 n).wf = true) :
    (len ≤ 9223372036854775807 ∧ len ≤ cap ∧ cap ≤ 9223372036854775807 ∧ (a = none → len = 0 ∧ cap = 0)) ∧ ∃ f : Nat → Nat, (∀ j, f j < 256) ∧ Src w a len f := by
  rcases h with ⟨rfl, rfl, rfl, rfl⟩ | ⟨x, rfl, hl, hm, hz, hc, hwf⟩
  · exact ⟨⟨by omega, by omega, by omega, fun _ => ⟨rfl, rfl⟩⟩, fun _ => 0, fun _ => Nat.zero_lt_succ 255, fun h => by omega⟩
  · refine ⟨⟨by unfold maxLen at hm; omega, hl, by unfold maxLen at hm; omega, fun h => by cases h⟩, fun j => (zs.getD j 0).toNat, fun j => ?_, fun hn => ?_⟩
    · show (zs.getD j 0).toNat < 256
      by_cases hj : j < zs.length
      · have hmem : zs.getD j 0 ∈ zs := by rw [List.getD_eq_getElem?_getD, List.getElem?_eq_getElem hj]; exact List.getElem_mem _
        have := u8_bounds (hwf _ hmem); omega
      · rw [List.getD_eq_getElem?_getD, List.getElem?_eq_none (by omega)]; decide
    · refine ⟨x, rfl, ?_, fun j hj => ?_⟩
      · have := cell_lt (hc 0 (by omega)); rwa [block_add] at this
      · have hmem : zs.getD j 0 ∈ zs := by rw [List.getD_eq_getElem?_getD, List.getElem?_eq_getElem (by omega)]; exact List.getElem_mem _
        have hb := u8_bounds (hwf _ hmem)
        rw [hc j (by omega)]
        show some (Value.int .u8 (zs.getD j 0)) = some (Value.int .u8 (((zs.getD j 0).toNat : Nat) : Int))
        rw [Int.toNat_of_nonneg hb.1]

set_option maxRecDepth 100000 in
theorem Src.front {w : World} {sp : Option Addr} {n : Nat} {f : Nat → Nat} (h : Src w sp n f) (m : Nat) (hm : m ≤ n) : Src w sp m f := by
  intro h0
  obtain ⟨ad, e, hl, hc⟩ := h (by omega)
  exact ⟨ad, e, hl, fun j hj => hc j (by omega)⟩

set_option maxRecDepth 100000 in
theorem Src.part {w : World} {b off n : Nat} {f : Nat → Nat} (h : Src w (some ⟨b, off, none⟩) n f) (m k : Nat) (hm : m + k ≤ n) : Src w (some ⟨b, off + m, none⟩) k (fun j => f (m + j)) := by
  intro h0
  obtain ⟨ad, e, hl, hc⟩ := h (by omega)
  injection e with e
  subst e
  refine ⟨_, rfl, hl, fun j hj => ?_⟩
  have := hc (m + j) (by omega)
  rw [Go.WideShapes.add_plain] at this ⊢
  rw [Nat.add_assoc]; exact this

set_option maxRecDepth 100000 in
theorem Src.behind {w : World} {ad : Addr} {n : Nat} {f : Nat → Nat} (h : Src w (some ad) n f) (m k : Nat) (hm : m + k ≤ n) : Src w (some (ad.add m)) k (fun j => f (m + j)) := by
  intro h0
  obtain ⟨ad', e, hl, hc⟩ := h (by omega)
  injection e with e
  subst e
  obtain ⟨b, off, spot⟩ := ad
  have hz := hc 0 (by omega)
  have hspot : spot = none := by simpa [Addr.add] using World.cell?_spot hz
  subst hspot
  refine ⟨_, rfl, by rw [block_add]; exact hl, fun j hj => ?_⟩
  have := hc (m + j) (by omega)
  rw [Go.WideShapes.add_plain] at this ⊢
  rw [Go.WideShapes.add_plain, Nat.add_assoc]; exact this

end Go.Proofs.Ytccpfoimedjdgaa.Fr

namespace Go.Proofs.Ytccpfoimedjdgaa.Fr
open Go.ChangeShapes Go.WideShapes Go.ChangeAt Go.RowKit

def zero4 : Array Value := #[.int .u8 0, .int .u8 0, .int .u8 0, .int .u8 0]

/-- an array of four bytes, as cells -/
def cells4 (o : Nat → Nat) : Array Value := #[.int .u8 ((o 0 : Nat) : Int), .int .u8 ((o 1 : Nat) : Int), .int .u8 ((o 2 : Nat) : Int), .int .u8 ((o 3 : Nat) : Int)]

set_option maxRecDepth 100000 in
theorem cells5 : Try.prog.cellsOf 5 = 1 := by kernel_rfl

set_option maxRecDepth 100000 in
theorem eq4 (o p : Nat → Nat) (b : Bool) (hb : b = true ↔ ∀ j, j < 4 → o j = p j) (w : World) : (Op.equalIn 10000 75 (.agg (cells4 o)) (.agg (cells4 p))).run Try.prog w = .ok b w := by
  obtain ⟨i0, hi, _, _, _⟩ := info_parts info5
  have hh := run_equalIn_array (P := Try.prog) w 9999 (cells4 o) (cells4 p) Try.underlying75 hi
  refine hh.trans ?_
  rw [cells5]
  have hr : List.range 4 = [0, 1, 2, 3] := rfl
  rw [hr]
  have q : ∀ (f : Nat → Nat) (j : Nat), j < 4 → ∀ w : World, (part 5 (cells4 f) j).run Try.prog w = .ok (.int .u8 ((f j : Nat) : Int)) w := by
    intro f j hj w
    have hj' : j = 0 ∨ j = 1 ∨ j = 2 ∨ j = 3 := by omega
    rcases hj' with rfl | rfl | rfl | rfl <;> simp [part, cells4, go_sem]
  have e : ∀ (a b : Int) (w : World), (Op.equalIn 9999 5 (.int .u8 a) (.int .u8 b)).run Try.prog w = .ok (a == b) w := fun a b w => run_equalIn_int w 9998 5 .u8 .u8 _ _ Try.underlying5
  have hd : b = (decide (o 0 = p 0) && decide (o 1 = p 1) && decide (o 2 = p 2) && decide (o 3 = p 3)) := by
    rw [Bool.eq_iff_iff, hb]
    simp
    constructor
    · intro h; exact ⟨⟨⟨h 0 (by decide), h 1 (by decide)⟩, h 2 (by decide)⟩, h 3 (by decide)⟩
    · rintro ⟨⟨⟨h0, h1⟩, h2⟩, h3⟩ j hj
      have hj' : j = 0 ∨ j = 1 ∨ j = 2 ∨ j = 3 := by omega
      rcases hj' with rfl | rfl | rfl | rfl <;> assumption
  rw [hd]
  by_cases h0 : o 0 = p 0 <;> by_cases h1 : o 1 = p 1 <;> by_cases h2 : o 2 = p 2 <;> by_cases h3 : o 3 = p 3 <;> simp [Op.eqItems, q o 0 (by decide), q o 1 (by decide), q o 2 (by decide), q o 3 (by decide), q p 0 (by decide), q p 1 (by decide), q p 2 (by decide), q p 3 (by decide), e, h0, h1, h2, h3] <;> omega

set_option maxRecDepth 100000 in
theorem rowB_four (o : Nat → Nat) : rowB o 4 = (cells4 o).toList := rfl

set_option maxRecDepth 100000 in
theorem Src.heap {w W : World} {sp : Option Addr} {n : Nat} {f : Nat → Nat} (h : Src w sp n f) (e : W.heap = w.heap) : Src W sp n f := by
  intro hn
  obtain ⟨ad, e', hl, hc⟩ := h hn
  exact ⟨ad, e', by rw [e]; exact hl, fun j hj => (World.cell?_of_block (by rw [e])).trans (hc j hj)⟩

/-- an array of four bytes that lies in a block of its own -/
def A4 (w : World) (b : Nat) (o : Nat → Nat) : Prop := w.heap[b]? = some (.cells (cells4 o) 75 (0, 0))

set_option maxRecDepth 100000 in
theorem A4.lt {w : World} {b : Nat} {o : Nat → Nat} (h : A4 w b o) : b < w.heap.size := by
  rcases Nat.lt_or_ge b w.heap.size with h' | h'
  · exact h'
  · unfold A4 at h; rw [Array.getElem?_eq_none h'] at h; cases h

set_option maxRecDepth 100000 in
theorem A4.below {w w' : World} {b B : Nat} {o : Nat → Nat} (h : A4 w b o) (hb : Below B w w') (hB : b < B) : A4 w' b o := (hb.block b hB).trans h

set_option maxRecDepth 100000 in
theorem A4.cell {w : World} {b : Nat} {o : Nat → Nat} (h : A4 w b o) (j : Nat) {v : Value} (hv : (cells4 o)[j]? = some v) : w.cell? ⟨b, j, none⟩ = some v := by
  rw [cell_of_row w b _ _ 75 (0, 0) h]; exact hv

set_option maxRecDepth 100000 in
theorem A4.all {w : World} {b : Nat} {o : Nat → Nat} (h : A4 w b o) : (w.cell? ⟨b, 0, none⟩ = some (.int .u8 ((o 0 : Nat) : Int)) ∧ w.cell? ⟨b, 1, none⟩ = some (.int .u8 ((o 1 : Nat) : Int)) ∧ w.cell? ⟨b, 2, none⟩ = some (.int .u8 ((o 2 : Nat) : Int)) ∧ w.cell? ⟨b, 3, none⟩ = some (.int .u8 ((o 3 : Nat) : Int))) ∧ ∀ j, w.frozen? ⟨b, j, none⟩ = false :=
  ⟨⟨h.cell 0 rfl, h.cell 1 rfl, h.cell 2 rfl, h.cell 3 rfl⟩, fun j => frozen_of_row w _ j _ 75 h⟩

set_option maxRecDepth 100000 in
theorem A4.news {w : World} {b : Nat} {o : Nat → Nat} (h : A4 w b o) : ∀ j u, (rowB o 4)[j]? = some u → w.cell? ((⟨b, 0, none⟩ : Addr).add j) = some u := by
  intro j u hj
  rw [Go.WideShapes.add_plain, cell_of_row w b _ _ 75 (0, 0) h]
  rw [rowB_four] at hj
  simpa using hj

set_option maxRecDepth 100000 in
theorem A4.src {w : World} {b : Nat} {o : Nat → Nat} (h : A4 w b o) : Src w (some ⟨b, 0, none⟩) 4 o := by
  intro _
  refine ⟨_, rfl, h.lt, fun j hj => h.news j _ (rowB_get o 4 j hj)⟩

/-- a number's bytes, the highest first -/
def big (x j : Nat) : Nat := x / 256 ^ (3 - j) % 256

set_option maxRecDepth 100000 in
theorem big_lt (x j : Nat) : big x j < 256 := Nat.mod_lt _ (by decide)

set_option maxRecDepth 100000 in
theorem big_int (x : Nat) : ((big x 0 : Nat) : Int) = (x : Int) / 16777216 % 256 ∧ ((big x 1 : Nat) : Int) = (x : Int) / 65536 % 256 ∧ ((big x 2 : Nat) : Int) = (x : Int) / 256 % 256 ∧ ((big x 3 : Nat) : Int) = (x : Int) % 256 := by
  refine ⟨?_, ?_, ?_, ?_⟩ <;> unfold big <;> simp

set_option maxRecDepth 100000 in
set_option maxHeartbeats 1000000 in
theorem four_any (x : Nat) (w : World) (hx : x < 4294967296) :
    Calls Try.prog 38 #[.int .u32 (x : Int)] w fun e w' => e = .returned (.agg (cells4 (big x))) ∧ Below w.heap.size w w' := by
  have HX := Lib.hid hx
  clear hx
  obtain ⟨b0, b1, b2, b3⟩ := big_int x
  have H0 := Lib.hid b0
  have H1 := Lib.hid b1
  have H2 := Lib.hid b2
  have H3 := Lib.hid b3
  clear b0 b1 b2 b3
  go_enter Try.func38, Try.ntmps38
  go_wp2
  go_loopw [4, 5] (fun _ i wr => ∃ k : Nat, k ≤ 4 ∧ i = .int .i64 (k : Int) ∧ wr = (w.alloc (.cells #[.int .u8 0, .int .u8 0, .int .u8 0, .int .u8 0] 75)).alloc (.cells (cells4 fun j => if j < k then big x j else 0) 75)) (fun _ i _ => 4 - (intOf i).toNat)
  case atStart => exact ⟨0, Nat.zero_le _, rfl, rfl⟩
  case round =>
    obtain ⟨k, hk, rfl, rfl⟩ := hrel
    have hx := HX.out
    have hk' : k = 0 ∨ k = 1 ∨ k = 2 ∨ k = 3 ∨ k = 4 := by omega
    rcases hk' with rfl | rfl | rfl | rfl | rfl
    · unfold cells4
      go_wp2
      go_roundw
      case rel => exact ⟨1, by omega, by go_num, by rw [show (x : Int) / 16777216 = (x : Int) / 16777216 % 256 by omega, ← H0.out]; rfl⟩
      case measure => simp [intOf]
    · unfold cells4
      go_wp2
      go_roundw
      case rel => exact ⟨2, by omega, by go_num, by rw [← H1.out]; rfl⟩
      case measure => simp [intOf]
    · unfold cells4
      go_wp2
      go_roundw
      case rel => exact ⟨3, by omega, by go_num, by rw [← H2.out]; rfl⟩
      case measure => simp [intOf]
    · unfold cells4
      go_wp2
      go_roundw
      case rel => exact ⟨4, by omega, by go_num, by rw [← H3.out]; rfl⟩
      case measure => simp [intOf]
    · unfold cells4
      go_wp2
      exact bodyPost_ret (v := .agg (cells4 (big x))) (by simp [results, Try.results38, go_sem, cells4]) rfl ⟨rfl, ((Below.refl _ _).alloc (Nat.le_refl _) _).alloc (by simp) _⟩

set_option maxRecDepth 100000 in
set_option maxHeartbeats 1000000 in
theorem front_any (sp : Option Addr) (n cap : Nat) (f : Nat → Nat) (w : World) (hn : 4 ≤ n) (hs : Src w sp n f) :
    Calls Try.prog 41 #[.slice sp n cap] w fun e w' => e = .returned (.agg (cells4 f)) ∧ Below w.heap.size w w' := by
  have HS := Lib.hid hs
  clear hs
  have HW : Hid (Below (w.heap.size + 1) (w.alloc (.cells zero4 75)) ((w.alloc (.cells zero4 75)).alloc (.cells zero4 75))) := Lib.hid ((Below.refl _ _).alloc (by simp) _)
  have HWW : Hid (Below w.heap.size w (w.alloc (.cells zero4 75))) := Lib.hid ((Below.refl _ _).alloc (Nat.le_refl _) _)
  have HG : Hid (((w.alloc (.cells zero4 75)).alloc (.cells zero4 75)).heap[w.heap.size + 1]? = some (.cells [Value.int .u8 0, .int .u8 0, .int .u8 0, .int .u8 0].toArray 75 (0, 0))) := Lib.hid (by have := heap_alloc_new (w.alloc (.cells zero4 75)) (.cells zero4 75); rwa [show (w.alloc (.cells zero4 75)).heap.size = w.heap.size + 1 by simp] at this)
  have HS2 := Lib.hid (HS.out.below (HWW.out.trans (HW.out.mono (by omega))))
  have HZ : Hid (A4 (w.alloc (.cells zero4 75)) w.heap.size (fun _ => 0)) := Lib.hid (heap_alloc_new w _)
  go_enter Try.func41, Try.ntmps41
  go_wp2_with (with_reducible refine wpList_copy_splice rfl (.tmp 4) (.tmp 5) 23 23 rfl 5 Try.underlying23 size5 _ _ _ _ _ _ rfl rfl (w.heap.size + 1) 0 [Value.int .u8 0, .int .u8 0, .int .u8 0, .int .u8 0] 75 ?c1 (rowB f 4) ?c2 ?c3 ?c4 ?c5 (w.heap.size + 1) (w.alloc (.cells zero4 75)) ?c6 ?c7 ?_)
  case c1 => exact HG.out
  case c2 => rw [rowB_length]; show 4 = Nat.min n 4; exact (Nat.min_eq_right hn).symm
  case c3 =>
    intro _
    obtain ⟨ad, e, hlt, hc⟩ := HS2.out (by omega)
    refine ⟨ad, e, fun j v hj => ?_⟩
    have hj4 : j < 4 := by
      rcases Nat.lt_or_ge j 4 with h' | h'
      · exact h'
      · rw [List.getElem?_eq_none (by rw [rowB_length]; exact h')] at hj; cases hj
    rw [rowB_get f 4 j hj4] at hj
    injection hj with hj
    rw [← hj]
    exact hc j (by omega)
  case c4 => rw [rowB_length]; decide
  case c5 => exact rowB_one f 4
  case c6 => exact HW.out
  case c7 => exact Nat.le_refl _
  intro w' HN hB
  have HA : Hid (A4 w' (w.heap.size + 1) f) := HN
  have HR : Hid (A4 w' w.heap.size (fun _ => 0)) := Lib.hid (HZ.out.below hB (by omega))
  have HB := Lib.hid (HWW.out.trans (hB.mono (by omega)))
  obtain ⟨⟨c0, c1, c2, c3⟩, fc⟩ := HA.out.all
  obtain ⟨⟨r0, r1, r2, r3⟩, fr⟩ := HR.out.all
  clear hB HN
  go_wp2
  exact bodyPost_ret (v := .agg (cells4 f)) (by simp [results, Try.results41, go_sem, cells4, r0, r1, r2, r3]) rfl ⟨rfl, (((HB.out.setCell (Nat.le_refl _) _).setCell (Nat.le_refl _) _).setCell (Nat.le_refl _) _).setCell (Nat.le_refl _) _⟩

set_option maxRecDepth 100000 in
set_option maxHeartbeats 1000000 in
theorem whole_any (sp1 : Option Addr) (cap1 : Nat) (f : Nat → Nat) (sp2 : Option Addr) (n cap2 : Nat) (d : Nat → Nat) (w : World) (hn : n ≤ 1000000) (hf : ∀ j, f j < 256) (hd : ∀ j, d j < 256) (h1 : Src w sp1 8 f) (h2 : Src w sp2 n d) :
    Calls Try.prog 40 #[.slice sp1 8 cap1, .slice sp2 n cap2] w fun e w' => e = .returned (.agg (cells4 (big (CrcMath.more (CrcMath.more 0 f 8) d n)))) ∧ Below w.heap.size w w' := by
  have H1 := Lib.hid h1
  have H2 := Lib.hid h2
  have HF := Lib.hid hf
  have HD := Lib.hid hd
  clear h1 h2 hf hd
  go_enter Try.func40, Try.ntmps40
  go_wp2_with fail
  have HB1 : Hid (Below w.heap.size w (w.alloc (.cells #[.int .u8 0, .int .u8 0, .int .u8 0, .int .u8 0] 75))) := Lib.hid ((Below.refl _ _).alloc (Nat.le_refl _) _)
  refine (sum_any sp1 8 cap1 f _ (by omega) (fun j _ => HF.out j) (H1.out.below HB1.out)).mono ?_
  rintro e w' ⟨rfl, rfl⟩
  have HL := Lib.hid (CrcMath.more_lt 0 f 8 (by decide) fun j _ => HF.out j)
  obtain ⟨s, hs⟩ : ∃ s, s = CrcMath.more 0 f 8 := ⟨_, rfl⟩
  rw [← hs] at HL ⊢
  have HSS := Lib.hid hs
  clear hs
  go_wp2_with fail
  refine (more_any s sp2 n cap2 d _ HL.out hn (fun j _ => HD.out j) (H2.out.below HB1.out)).mono ?_
  rintro e w' ⟨rfl, rfl⟩
  have HL2 := Lib.hid (CrcMath.more_lt s d n HL.out fun j _ => HD.out j)
  obtain ⟨t, ht⟩ : ∃ t, t = CrcMath.more s d n := ⟨_, rfl⟩
  rw [← ht] at HL2 ⊢
  have HT := Lib.hid ht
  clear ht
  go_wp2_with fail
  refine (four_any t _ HL2.out).mono ?_
  rintro e w' ⟨rfl, hb⟩
  have HR : Hid (A4 w' w.heap.size (fun _ => 0)) := Lib.hid (A4.below (w := w.alloc (.cells zero4 75)) (heap_alloc_new w _) hb (by simp))
  have HB := Lib.hid (HB1.out.trans (hb.mono (by simp)))
  obtain ⟨⟨r0, r1, r2, r3⟩, fr⟩ := HR.out.all
  clear hb
  unfold cells4
  go_wp2
  exact bodyPost_ret (v := .agg (cells4 (big t))) (by simp [results, Try.results40, go_sem, cells4, r0, r1, r2, r3]) rfl ⟨by rw [HT.out, HSS.out], (((HB.out.setCell (Nat.le_refl _) _).setCell (Nat.le_refl _) _).setCell (Nat.le_refl _) _).setCell (Nat.le_refl _) _⟩

/-- the number that has these bytes, the highest first -/
def nval (f : Nat → Nat) : Nat → Nat
  | 0 => 0
  | k + 1 => nval f k * 256 + f k

set_option maxRecDepth 100000 in
theorem nval_lt (f : Nat → Nat) (hf : ∀ j, f j < 256) (k : Nat) : nval f k < 256 ^ k := by
  induction k with
  | zero => exact Nat.one_pos
  | succ k ih => have := hf k; rw [Nat.pow_succ]; show nval f k * 256 + f k < _; omega

set_option maxRecDepth 100000 in
theorem or_byte (x c : Nat) (hx : x < 16777216) (hc : c < 256) : bits .or .u32 ((x : Int) * 256) ((c : Int) % 4294967296) = ((x * 256 + c : Nat) : Int) := by
  rw [show (x : Int) * 256 = ((x * 256 : Nat) : Int) by omega, show (c : Int) % 4294967296 = (c : Int) by omega]
  refine (u32_or_nat _ c (by omega) (by omega)).trans ?_
  have := Nat.two_pow_add_eq_or_of_lt (i := 8) (b := c) hc x
  rw [show x * 256 = 2 ^ 8 * x by omega, ← this]

set_option maxRecDepth 100000 in
set_option maxHeartbeats 1000000 in
theorem number_any (f : Nat → Nat) (w : World) (hf : ∀ j, f j < 256) :
    Calls Try.prog 42 #[.agg (cells4 f)] w fun e w' => e = .returned (.int .u32 ((nval f 4 : Nat) : Int)) ∧ Below w.heap.size w w' := by
  have HF := Lib.hid hf
  clear hf
  unfold cells4
  have i0 : ∀ w : World, (Instr.index 75 (.agg #[.int .u8 ((f 0 : Nat) : Int), .int .u8 ((f 1 : Nat) : Int), .int .u8 ((f 2 : Nat) : Int), .int .u8 ((f 3 : Nat) : Int)]) (.int .i64 0)).run Try.prog w = .ok (.int .u8 ((f 0 : Nat) : Int)) w := fun _ => by kernel_rfl
  have i1 : ∀ w : World, (Instr.index 75 (.agg #[.int .u8 ((f 0 : Nat) : Int), .int .u8 ((f 1 : Nat) : Int), .int .u8 ((f 2 : Nat) : Int), .int .u8 ((f 3 : Nat) : Int)]) (.int .i64 1)).run Try.prog w = .ok (.int .u8 ((f 1 : Nat) : Int)) w := fun _ => by kernel_rfl
  have i2 : ∀ w : World, (Instr.index 75 (.agg #[.int .u8 ((f 0 : Nat) : Int), .int .u8 ((f 1 : Nat) : Int), .int .u8 ((f 2 : Nat) : Int), .int .u8 ((f 3 : Nat) : Int)]) (.int .i64 2)).run Try.prog w = .ok (.int .u8 ((f 2 : Nat) : Int)) w := fun _ => by kernel_rfl
  have i3 : ∀ w : World, (Instr.index 75 (.agg #[.int .u8 ((f 0 : Nat) : Int), .int .u8 ((f 1 : Nat) : Int), .int .u8 ((f 2 : Nat) : Int), .int .u8 ((f 3 : Nat) : Int)]) (.int .i64 3)).run Try.prog w = .ok (.int .u8 ((f 3 : Nat) : Int)) w := fun _ => by kernel_rfl
  go_enter Try.func42, Try.ntmps42
  go_wp2
  go_loopw [3, 5, 7] (fun x _ i wr => ∃ k : Nat, k ≤ 4 ∧ i = .int .i64 (k : Int) ∧ x = .int .u32 ((nval f k : Nat) : Int) ∧ wr = w.alloc (.cells #[.int .u8 ((f 0 : Nat) : Int), .int .u8 ((f 1 : Nat) : Int), .int .u8 ((f 2 : Nat) : Int), .int .u8 ((f 3 : Nat) : Int)] 75)) (fun _ _ i _ => 4 - (intOf i).toNat)
  case atStart => exact ⟨0, Nat.zero_le _, rfl, rfl, rfl⟩
  case round =>
    obtain ⟨k, hk, rfl, rfl, rfl⟩ := hrel
    have hk' : k = 4 ∨ k = 0 ∨ k = 1 ∨ k = 2 ∨ k = 3 := by omega
    rcases hk' with rfl | hk'
    · go_wp2
      go_ret
      exact ⟨rfl, (Below.refl _ _).alloc (Nat.le_refl _) _⟩
    · have hl : nval f k < 16777216 := Nat.lt_of_lt_of_le (nval_lt f HF.out k) (Nat.pow_le_pow_right (by decide) (by omega : k ≤ 3))
      have HE := Lib.hid (or_byte _ _ hl (HF.out k))
      have HN : Hid (nval f k * 256 + f k = nval f (k + 1)) := Lib.hid rfl
      generalize nval f k = x at *
      rcases hk' with rfl | rfl | rfl | rfl
      · go_wp2
        go_roundw
        case rel => exact ⟨1, by omega, by go_num, val_int (by rw [← HN.out]; exact HE.out), by first | rfl | trivial⟩
        case measure => simp [intOf]
      · go_wp2
        go_roundw
        case rel => exact ⟨2, by omega, by go_num, val_int (by rw [← HN.out]; exact HE.out), by first | rfl | trivial⟩
        case measure => simp [intOf]
      · go_wp2
        go_roundw
        case rel => exact ⟨3, by omega, by go_num, val_int (by rw [← HN.out]; exact HE.out), by first | rfl | trivial⟩
        case measure => simp [intOf]
      · go_wp2
        go_roundw
        case rel => exact ⟨4, by omega, by go_num, val_int (by rw [← HN.out]; exact HE.out), by first | rfl | trivial⟩
        case measure => simp [intOf]

/-- why a frame has no bytes -/
def fitsOf (k : Int) (n : Nat) : Int := if k < 0 ∨ 255 < k then 14 else if 65536 < n then 3 else 0

set_option maxRecDepth 100000 in
theorem fits_any (k : Int) (v : Option Addr) (n cap : Nat) (w : World) (hn : n ≤ 9223372036854775807) :
    Calls Try.prog 23 #[.agg #[.int .i64 k, .slice v n cap]] w fun e w' => e = .returned (.int .i64 (fitsOf k n)) ∧ Below w.heap.size w w' := by
  by_cases h1 : k < 0
  · have HE : Hid (fitsOf k n = 14) := Lib.hid (by unfold fitsOf; rw [if_pos (.inl h1)])
    go_enter Try.func23, Try.ntmps23
    go_wp2
    go_ret
    exact ⟨ret_int HE.out.symm, (Below.refl _ _).alloc (Nat.le_refl _) _⟩
  · by_cases h2 : 255 < k
    · have HE : Hid (fitsOf k n = 14) := Lib.hid (by unfold fitsOf; rw [if_pos (.inr h2)])
      go_enter Try.func23, Try.ntmps23
      go_wp2
      go_ret
      exact ⟨ret_int HE.out.symm, (Below.refl _ _).alloc (Nat.le_refl _) _⟩
    · by_cases h3 : 65536 < n
      · have HE : Hid (fitsOf k n = 3) := Lib.hid (by unfold fitsOf; rw [if_neg (by omega), if_pos h3])
        have h3' : (65536 : Int) < (n : Int) := by omega
        go_enter Try.func23, Try.ntmps23
        go_wp2
        go_ret
        exact ⟨ret_int HE.out.symm, (Below.refl _ _).alloc (Nat.le_refl _) _⟩
      · have HE : Hid (fitsOf k n = 0) := Lib.hid (by unfold fitsOf; rw [if_neg (by omega), if_neg h3])
        have h3' : ¬ (65536 : Int) < (n : Int) := by omega
        go_enter Try.func23, Try.ntmps23
        go_wp2
        go_ret
        exact ⟨ret_int HE.out.symm, (Below.refl _ _).alloc (Nat.le_refl _) _⟩

end Go.Proofs.Ytccpfoimedjdgaa.Fr

namespace Go.Proofs.Ytccpfoimedjdgaa.Fr
open Go.ChangeShapes Go.WideShapes Go.ChangeAt Go.RowKit

/-- some bytes behind others -/
def cat (f o : Nat → Nat) (n : Nat) (j : Nat) : Nat := if j < n then f j else o (j - n)

set_option maxRecDepth 100000 in
theorem rowB_cat (f o : Nat → Nat) (n m : Nat) : rowB f n ++ rowB o m = rowB (cat f o n) (n + m) :=
  rowB_app f o n m _ (fun j hj => by unfold cat; rw [if_pos hj]) (fun j _ => by unfold cat; rw [if_neg (by omega), Nat.add_sub_cancel_left])

set_option maxRecDepth 100000 in
theorem cat_lt {f o : Nat → Nat} (hf : ∀ j, f j < 256) (ho : ∀ j, o j < 256) (n j : Nat) : cat f o n j < 256 := by
  unfold cat; split
  · exact hf j
  · exact ho _

set_option maxRecDepth 100000 in
theorem cat_lo {f o : Nat → Nat} {n j : Nat} (h : j < n) : cat f o n j = f j := by unfold cat; rw [if_pos h]

set_option maxRecDepth 100000 in
theorem cat_hi {f o : Nat → Nat} (n j : Nat) : cat f o n (n + j) = o j := by unfold cat; rw [if_neg (by omega), Nat.add_sub_cancel_left]

/-- the first four bytes, the first eight, and all of a frame -/
def h4 (k n : Nat) : Nat → Nat := big (k * 16777216 + n)

def h8 (k n : Nat) : Nat → Nat := cat (h4 k n) (big (CrcMath.more 0 (h4 k n) 4)) 4

def s3 (k n : Nat) (d : Nat → Nat) : Nat := CrcMath.more (CrcMath.more 0 (h8 k n) 8) d n

def h12 (k n : Nat) (d : Nat → Nat) : Nat → Nat := cat (h8 k n) (big (s3 k n d)) 8

def frm (k n : Nat) (d : Nat → Nat) : Nat → Nat := cat (h12 k n d) d 12

set_option maxRecDepth 100000 in
theorem h4_lt (k n j : Nat) : h4 k n j < 256 := big_lt _ _

set_option maxRecDepth 100000 in
theorem h8_lt (k n j : Nat) : h8 k n j < 256 := cat_lt (h4_lt k n) (big_lt _) 4 j

set_option maxRecDepth 100000 in
theorem h12_lt (k n : Nat) (d : Nat → Nat) (j : Nat) : h12 k n d j < 256 := cat_lt (h8_lt k n) (big_lt _) 8 j

set_option maxRecDepth 100000 in
theorem frm_lt (k n : Nat) (d : Nat → Nat) (hd : ∀ j, d j < 256) (j : Nat) : frm k n d j < 256 := cat_lt (h12_lt k n d) hd 12 j

set_option maxRecDepth 100000 in
theorem front_int (k n : Nat) (hk : k < 256) (hn : n ≤ 65536) : bits .or .u32 ((k : Int) * 16777216) (n : Int) = ((k * 16777216 + n : Nat) : Int) := by
  rw [show (k : Int) * 16777216 = ((k * 16777216 : Nat) : Int) by omega]
  refine (u32_or_nat _ n (by omega) (by omega)).trans ?_
  have := Nat.two_pow_add_eq_or_of_lt (i := 24) (b := n) (by omega) k
  rw [show k * 16777216 = 2 ^ 24 * k by omega, ← this]

set_option maxRecDepth 100000 in
theorem frame_row (F d : Nat → Nat) (m k n x s2 s3v : Nat) (hx : x = k * 16777216 + n) (h2 : s2 = CrcMath.more 0 (big x) 4) (h3 : s3v = CrcMath.more (CrcMath.more 0 (cat (big x) (big s2) 4) 8) d n) :
    rowB (cat F (cat (big x) (big s2) 4) m) (m + 8) ++ rowB (big s3v) 4 ++ rowB d n = rowB (cat F (frm k n d) m) (m + (12 + n)) := by
  subst hx
  subst h2
  subst h3
  have e1 : rowB (cat F (frm k n d) m) (m + (12 + n)) = rowB F m ++ (rowB (h12 k n d) 12 ++ rowB d n) := by rw [← rowB_cat F (frm k n d) m (12 + n)]; congr 1; exact (rowB_cat (h12 k n d) d 12 n).symm
  have e2 : rowB (h12 k n d) 12 = rowB (h8 k n) 8 ++ rowB (big (s3 k n d)) 4 := (rowB_cat _ _ 8 4).symm
  rw [e1, e2, ← rowB_cat F _ m 8, List.append_assoc, List.append_assoc, List.append_assoc]
  rfl

set_option maxRecDepth 100000 in
theorem A4.set4 {W : World} {P : Nat} {o q : Nat → Nat} (h : A4 W P o) : A4 ((((W.setCell ⟨P, 0, none⟩ (.int .u8 ((q 0 : Nat) : Int))).setCell ⟨P, 1, none⟩ (.int .u8 ((q 1 : Nat) : Int))).setCell ⟨P, 2, none⟩ (.int .u8 ((q 2 : Nat) : Int))).setCell ⟨P, 3, none⟩ (.int .u8 ((q 3 : Nat) : Int))) P q :=
  heap_setCell_same _ P 3 _ 75 _ (heap_setCell_same _ P 2 _ 75 _ (heap_setCell_same _ P 1 _ 75 _ (heap_setCell_same _ P 0 _ 75 _ h)))

set_option maxRecDepth 100000 in
/-- a block of another type stays, whatever is appended to a row of bytes -/
theorem blk_grown {W W' : World} {base g n c b t : Nat} {xs : List Value} {C : Array Value} (hgr : W.grownBy W' (some g)) (hown : W.ownsRow base 5 1 (.slice (some ⟨g, 0, none⟩) n c) n xs) (hb : W.heap[b]? = some (.cells C t (0, 0))) (ht : t ≠ 5) : W'.heap[b]? = some (.cells C t (0, 0)) := by
  have hlt : b < W.heap.size := by
    rcases Nat.lt_or_ge b W.heap.size with h' | h'
    · exact h'
    · rw [Array.getElem?_eq_none h'] at hb; cases hb
  refine (hgr.block b hlt ?_).trans hb
  intro e
  injection e with e
  rcases hown.2 with ⟨h', _⟩ | ⟨g', c', cur, h', _, hh, _⟩
  · cases h'
  · injection h' with h1 h2 h3
    injection h1 with h1
    injection h1 with h1
    rw [← h1, ← e, hb] at hh
    injection hh with hh
    injection hh with _ hh _
    exact ht hh

set_option maxRecDepth 100000 in
theorem Src.kept {w w' : World} {sp : Option Addr} {n B : Nat} {f : Nat → Nat} (h : Src w sp n f) (hB : 0 < n → ∀ ad, sp = some ad → ad.block < B) (hb : Below B w w') : Src w' sp n f := by
  intro hn
  obtain ⟨ad, e, hlt, hc⟩ := h hn
  exact ⟨ad, e, Nat.lt_of_lt_of_le hlt hb.size, fun j hj => (hb.cell (by rw [block_add]; exact hB hn ad e)).trans (hc j hj)⟩

set_option maxRecDepth 100000 in
theorem own_cap {w : World} {base g n c : Nat} {xs : List Value} (h : w.ownsRow base 5 1 (.slice (some ⟨g, 0, none⟩) n c) n xs) : n ≤ c ∧ c ≤ maxLen ∧ base ≤ g ∧ g < w.heap.size := by
  have hl := h.lt g rfl
  rcases h.2 with ⟨h', _⟩ | ⟨g', c', cur, h', _, _, h1, h2, _⟩
  · cases h'
  · injection h' with _ _ h3
    rw [h3]
    exact ⟨h1, h2, hl⟩

set_option maxRecDepth 100000 in
set_option maxHeartbeats 2000000 in
theorem laid_any (base g m cp : Nat) (F : Nat → Nat) (k : Nat) (sp : Option Addr) (n cap : Nat) (d : Nat → Nat) (w : World) (hk : k < 256) (hn : n ≤ 65536) (hm : m ≤ 1000000) (hd : ∀ j, d j < 256) (hs : Src w sp n d) (hsp : sp = none → n = 0 ∧ cap = 0)
    (hown : w.ownsRow base 5 1 (.slice (some ⟨g, 0, none⟩) m cp) m (rowB F m)) (hb : base ≤ w.heap.size) (hsd : 0 < n → ∀ ad, sp = some ad → ad.block < base) :
    Calls Try.prog 24 #[.slice (some ⟨g, 0, none⟩) m cp, .agg #[.int .i64 (k : Int), .slice sp n cap]] w fun e w' =>
      ∃ g' cp', e = .returned (.slice (some ⟨g', 0, none⟩) (m + (12 + n)) cp') ∧ w'.ownsRow base 5 1 (.slice (some ⟨g', 0, none⟩) (m + (12 + n)) cp') (m + (12 + n)) (rowB (cat F (frm k n d) m) (m + (12 + n))) ∧ Below base w w' := by
  obtain ⟨i0, hi, hz0, hz1, hz2⟩ := info_parts info5
  have HD := Lib.hid hd
  have HS := Lib.hid hs
  have HP := Lib.hid hsp
  have HSD := Lib.hid hsd
  have HO := Lib.hid hown
  clear hd hs hsp hsd hown
  have hk1 : IntKind.u32.wrap (k : Int) = (k : Int) := by rw [IntKind.wrap_u32']; omega
  have hn1 : IntKind.u32.wrap (n : Int) = (n : Int) := by rw [IntKind.wrap_u32']; omega
  have hx := front_int k n hk hn
  have HX : Hid (k * 16777216 + n < 4294967296) := Lib.hid (by omega)
  obtain ⟨x, ex⟩ : ∃ x, x = k * 16777216 + n := ⟨_, rfl⟩
  rw [← ex] at hx HX
  have HEX := Lib.hid ex
  clear ex
  go_enter Try.func24, Try.ntmps24
  go_wp2_with fail
  refine (four_any x _ HX.out).mono ?_
  rintro e w1 ⟨rfl, hb1⟩
  have HBX1 : Hid (w1.heap[w.heap.size]? = some (.cells #[.int .i64 (k : Int), .slice sp n cap] 39 (0, 0))) := Lib.hid ((hb1.block _ (by simp)).trans (heap_alloc_new w _))
  have HB1 : Hid (Below w.heap.size w w1) := Lib.hid (((Below.refl _ _).alloc (Nat.le_refl _) _).trans (hb1.mono (by simp)))
  clear hb1
  have HA1 : Hid (A4 (w1.alloc (.cells (cells4 (big x)) 75)) w1.heap.size (big x)) := Lib.hid (heap_alloc_new w1 _)
  have HB2 : Hid (Below w1.heap.size w1 (w1.alloc (.cells (cells4 (big x)) 75))) := Lib.hid ((Below.refl _ _).alloc (Nat.le_refl _) _)
  have hp1 : w1.heap.size < (w1.alloc (.cells (cells4 (big x)) 75)).heap.size := by simp
  have hl1 : w.heap.size < w1.heap.size := by
    rcases Nat.lt_or_ge w.heap.size w1.heap.size with h' | h'
    · exact h'
    · have := HBX1.out; rw [Array.getElem?_eq_none h'] at this; cases this
  unfold cells4 at HA1 HB2 hp1 ⊢
  go_wp2_with fail
  generalize (w1.alloc (.cells #[.int .u8 ((big x 0 : Nat) : Int), .int .u8 ((big x 1 : Nat) : Int), .int .u8 ((big x 2 : Nat) : Int), .int .u8 ((big x 3 : Nat) : Int)] 75)) = w2 at *
  have HBX2 : Hid (w2.heap[w.heap.size]? = some (.cells #[.int .i64 (k : Int), .slice sp n cap] 39 (0, 0))) := Lib.hid ((HB2.out.block _ hl1).trans HBX1.out)
  have HBB2 : Hid (Below w.heap.size w w2) := Lib.hid (HB1.out.trans (HB2.out.mono HB1.out.size))
  generalize w1.heap.size = P1 at *
  clear HB1 HBX1 HB2
  refine (sum_any (some ⟨P1, 0, none⟩) 4 4 (big x) w2 (by omega) (fun j _ => big_lt x j) HA1.out.src).mono ?_
  rintro e w' ⟨rfl, rfl⟩
  have HL2 := Lib.hid (CrcMath.more_lt 0 (big x) 4 (by decide) fun j _ => big_lt x j)
  obtain ⟨s2, es2⟩ : ∃ s2, s2 = CrcMath.more 0 (big x) 4 := ⟨_, rfl⟩
  rw [← es2] at HL2 ⊢
  have HS2 := Lib.hid es2
  clear es2
  go_wp2_with fail
  refine (four_any s2 _ HL2.out).mono ?_
  rintro e w3 ⟨rfl, hb3⟩
  have HBX3 : Hid (w3.heap[w.heap.size]? = some (.cells #[.int .i64 (k : Int), .slice sp n cap] 39 (0, 0))) := Lib.hid ((hb3.block _ (by omega)).trans HBX2.out)
  have HA13 := Lib.hid (HA1.out.below hb3 HA1.out.lt)
  have HB3 : Hid (Below w.heap.size w w3) := Lib.hid (HBB2.out.trans (hb3.mono HBB2.out.size))
  have hl3 : w2.heap.size ≤ w3.heap.size := hb3.size
  clear hb3 HBB2 HA1 HBX2
  have HA2 : Hid (A4 (w3.alloc (.cells (cells4 (big s2)) 75)) w3.heap.size (big s2)) := Lib.hid (heap_alloc_new w3 _)
  have HB4' : Hid (Below w3.heap.size w3 (w3.alloc (.cells (cells4 (big s2)) 75))) := Lib.hid ((Below.refl _ _).alloc (Nat.le_refl _) _)
  have hp2 : w3.heap.size < (w3.alloc (.cells (cells4 (big s2)) 75)).heap.size := by simp
  unfold cells4 at HA2 HB4' hp2 ⊢
  have HBX4 : Hid ((w3.alloc (.cells #[.int .u8 ((big s2 0 : Nat) : Int), .int .u8 ((big s2 1 : Nat) : Int), .int .u8 ((big s2 2 : Nat) : Int), .int .u8 ((big s2 3 : Nat) : Int)] 75)).heap[w.heap.size]? = some (.cells #[.int .i64 (k : Int), .slice sp n cap] 39 (0, 0))) := Lib.hid ((HB4'.out.block _ (by omega)).trans HBX3.out)
  have HA14 : Hid (A4 (w3.alloc (.cells #[.int .u8 ((big s2 0 : Nat) : Int), .int .u8 ((big s2 1 : Nat) : Int), .int .u8 ((big s2 2 : Nat) : Int), .int .u8 ((big s2 3 : Nat) : Int)] 75)) P1 (big x)) := Lib.hid (HA13.out.below HB4'.out HA13.out.lt)
  have HB4 : Hid (Below w.heap.size w (w3.alloc (.cells #[.int .u8 ((big s2 0 : Nat) : Int), .int .u8 ((big s2 1 : Nat) : Int), .int .u8 ((big s2 2 : Nat) : Int), .int .u8 ((big s2 3 : Nat) : Int)] 75))) := Lib.hid (HB3.out.trans (HB4'.out.mono HB3.out.size))
  have HO4 := Lib.hid (own_below HO.out HB4.out)
  clear HBX3 HA13 HB3 HB4'
  go_wp2_with (at_builtin; refine wpList_append_own _ rfl _ _ 23 rfl base 5 i0 (.int .u8 0) 1 1 Try.underlying23 hi hz0 hz1 hz2 rfl (by decide) _ m (rowB F m) rfl ?a0 ⟨P1, 0, none⟩ 4 4 (rowB (big x) 4) rfl ?a1 ?a2 ?a3 ?a4 ?a5 ?a6 ?_)
  case a0 => exact HO4.out
  case a1 => rfl
  case a2 => exact HA14.out.news
  case a3 => exact rowB_one _ _
  case a4 => unfold maxLen; omega
  case a5 => omega
  case a6 => exact Nat.le_trans hb HB4.out.size
  intro v5 w5 hown5 hgrow5 _
  rw [rowB_cat] at hown5
  have HBX5 := Lib.hid (blk_grown hgrow5 HO4.out HBX4.out (by decide))
  have HA25 : Hid (A4 w5 w3.heap.size (big s2)) := Lib.hid (blk_grown hgrow5 HO4.out HA2.out (by decide))
  have HB5 : Hid (Below base w w5) := Lib.hid ((HB4.out.mono hb).grown hgrow5 (Nat.le_trans hb HB4.out.size) (fun q hq => (HO4.out.lt q hq).1))
  obtain ⟨g5, cp5, rfl, hg5, hg5'⟩ := hown5.form (by omega)
  have HO5 := Lib.hid hown5
  have hs5 : base ≤ w5.heap.size := by omega
  clear hown5 hgrow5 HBX4 HA14 HB4 HO4 HA2
  generalize w3.heap.size = P2 at *
  go_wp2_with (at_builtin; refine wpList_append_own _ rfl _ _ 23 rfl base 5 i0 (.int .u8 0) 1 1 Try.underlying23 hi hz0 hz1 hz2 rfl (by decide) _ (m + 4) (rowB (cat F (big x) m) (m + 4)) rfl ?a0 ⟨P2, 0, none⟩ 4 4 (rowB (big s2) 4) rfl ?a1 ?a2 ?a3 ?a4 ?a5 ?a6 ?_)
  case a0 => exact HO5.out
  case a1 => rfl
  case a2 => exact HA25.out.news
  case a3 => exact rowB_one _ _
  case a4 => unfold maxLen; omega
  case a5 => omega
  case a6 => exact hs5
  intro v6 w6 hown6 hgrow6 _
  have HBX6 := Lib.hid (blk_grown hgrow6 HO5.out HBX5.out (by decide))
  have HB6 : Hid (Below base w w6) := Lib.hid (HB5.out.grown hgrow6 hs5 (fun q hq => (HO5.out.lt q hq).1))
  rw [← rowB_cat F (big x) m 4, List.append_assoc, rowB_cat, rowB_cat, show m + 4 + 4 = m + 8 by omega] at hown6
  obtain ⟨g6, cp6, rfl, hg6, hg6'⟩ := hown6.form (by omega)
  have HO6 := Lib.hid hown6
  have hs6 : base ≤ w6.heap.size := by omega
  clear hown6 hgrow6 HBX5 HA25 HB5 HO5
  have hc6 := (own_cap HO6.out).1
  have hc6' := (own_cap HO6.out).2.1
  unfold maxLen at hc6'
  have hsz : w.heap.size + 1 ≤ w6.heap.size := by
    rcases Nat.lt_or_ge w.heap.size w6.heap.size with h' | h'
    · exact h'
    · have := HBX6.out; rw [Array.getElem?_eq_none h'] at this; cases this
  have HK : Hid (∀ W, Below (w.heap.size + 1) w6 W → W.cell? ⟨w.heap.size, 1, none⟩ = some (.slice sp n cap)) := Lib.hid fun W hbw => by
    rw [cell_of_row W w.heap.size 1 _ 39 (0, 0) ((hbw.block _ (by omega)).trans HBX6.out)]; rfl
  have HS6 := Lib.hid (HS.out.kept HSD.out HB6.out)
  have HSR : Hid (Src w6 (some ⟨g6, m, none⟩) 8 (cat (big x) (big s2) 4)) := Lib.hid (by
    have h := (own_src HO6.out).part m 8 (by omega)
    rw [Nat.zero_add] at h
    intro h0
    obtain ⟨ad, e, hl, hc⟩ := h h0
    refine ⟨ad, e, hl, fun j hj => ?_⟩
    rw [hc j hj]
    show some (Value.int .u8 ((cat F (cat (big x) (big s2) 4) m (m + j) : Nat) : Int)) = _
    rw [cat_hi])
  have HL8 : Hid (∀ j, cat (big x) (big s2) 4 j < 256) := Lib.hid (cat_lt (big_lt x) (big_lt s2) 4)
  have HWH : Hid (∀ (W : World) c1, Below w6.heap.size w6 W → Calls Try.prog 40 #[.slice (some ⟨g6, m, none⟩) 8 c1, .slice sp n cap] W fun e w' => e = .returned (.agg (cells4 (big (CrcMath.more (CrcMath.more 0 (cat (big x) (big s2) 4) 8) d n)))) ∧ Below W.heap.size W w') :=
    Lib.hid fun W c1 hbw => whole_any _ c1 _ sp n cap d W (by omega) HL8.out HD.out (HSR.out.below hbw) (HS6.out.below hbw)
  obtain ⟨s3v, es3⟩ : ∃ s3v, s3v = CrcMath.more (CrcMath.more 0 (cat (big x) (big s2) 4) 8) d n := ⟨_, rfl⟩
  rw [← es3] at HWH
  have HS3 := Lib.hid es3
  clear es3
  unfold cells4 at HWH
  have hsl1 : (0 : Int) ≤ (m : Int) := by omega
  have hsl2 : (m : Int) ≤ (m : Int) + 8 := by omega
  have hsl3 : (m : Int) + 8 ≤ (cp6 : Int) := by omega
  have hsl4 : ¬ m = cp6 := by omega
  have hsl5 : ¬ cp6 = m := by omega
  have hsz1 : w.heap.size + 1 ≤ (w6.drew.alloc (.cells #[.int .u8 0, .int .u8 0, .int .u8 0, .int .u8 0] 75)).heap.size := Nat.le_trans hsz (by simp)
  have HZ7 : Hid (∀ W, Below (w6.drew.alloc (.cells #[.int .u8 0, .int .u8 0, .int .u8 0, .int .u8 0] 75)).heap.size (w6.drew.alloc (.cells #[.int .u8 0, .int .u8 0, .int .u8 0, .int .u8 0] 75)) W → A4 W w6.heap.size (fun _ => 0)) := Lib.hid fun W hbw => A4.below (w := w6.drew.alloc (.cells #[.int .u8 0, .int .u8 0, .int .u8 0, .int .u8 0] 75)) (heap_alloc_new w6.drew _) hbw (by simp)
  go_wp2
  go_region_held3 (fun W => W.cell? ⟨w.heap.size, 1, none⟩ = some (.slice sp n cap))
    (first
      | exact HK.out _ ((Below.refl _ _).drew)
      | exact HK.out _ (Below.refl _ _)
      | exact HK.out _ (((Below.refl _ _).drew).alloc hsz _)
      | exact HK.out _ (((Below.refl _ _).drew).trans (hb7.mono hsz))
      | exact HK.out _ ((((Below.refl _ _).drew).trans (hb7.mono hsz)).alloc (Nat.le_trans hsz hb7.size) _)
      | exact HK.out _ ((((Below.refl _ _).drew).alloc hsz _).trans (hb7.mono hsz1))
      | exact HK.out _ ((((((((Below.refl _ _).drew).alloc hsz _).trans (hb7.mono hsz1)).setCell hsz _).setCell hsz _).setCell hsz _).setCell hsz _))
    (first
      | (go_at_call 40; refine (HWH.out _ _ ((Below.refl _ _).drew)).mono ?_; rintro e w7 ⟨rfl, hb7⟩)
      | (go_at_call 40; refine (HWH.out _ _ (((Below.refl _ _).drew).alloc (Nat.le_refl _) _)).mono ?_; rintro e w7 ⟨rfl, hb7⟩; obtain ⟨⟨q0, q1, q2, q3⟩, fq⟩ := (HZ7.out _ hb7).all))
  · have HB86 : Hid (Below w6.heap.size w6 (w7.alloc (.cells #[.int .u8 ((big s3v 0 : Nat) : Int), .int .u8 ((big s3v 1 : Nat) : Int), .int .u8 ((big s3v 2 : Nat) : Int), .int .u8 ((big s3v 3 : Nat) : Int)] 75))) := Lib.hid ((((Below.refl _ _).drew).trans hb7).alloc hb7.size _)
    have HA3 : Hid (A4 (w7.alloc (.cells #[.int .u8 ((big s3v 0 : Nat) : Int), .int .u8 ((big s3v 1 : Nat) : Int), .int .u8 ((big s3v 2 : Nat) : Int), .int .u8 ((big s3v 3 : Nat) : Int)] 75)) w7.heap.size (big s3v)) := Lib.hid (heap_alloc_new w7 _)
    clear hb7
    generalize (w7.alloc (.cells #[.int .u8 ((big s3v 0 : Nat) : Int), .int .u8 ((big s3v 1 : Nat) : Int), .int .u8 ((big s3v 2 : Nat) : Int), .int .u8 ((big s3v 3 : Nat) : Int)] 75)) = w8 at *
    generalize w7.heap.size = P3 at *
    have HBX8 := Lib.hid ((HB86.out.block _ (by omega)).trans HBX6.out)
    have HO8 := Lib.hid (own_below HO6.out HB86.out)
    have HB8 : Hid (Below base w w8) := Lib.hid (HB6.out.trans (HB86.out.mono hs6))
    have hs8 : base ≤ w8.heap.size := Nat.le_trans hs6 HB86.out.size
    clear HK HZ7 HWH HSR HS6 HBX6 HO6 HB6 HB86 hsl1 hsl2 hsl3 hsl4 hsl5 hsz1
    go_wp2_with (at_builtin; refine wpList_append_own _ rfl _ _ 23 rfl base 5 i0 (.int .u8 0) 1 1 Try.underlying23 hi hz0 hz1 hz2 rfl (by decide) _ (m + 8) (rowB (cat F (cat (big x) (big s2) 4) m) (m + 8)) rfl ?a0 ⟨P3, 0, none⟩ 4 4 (rowB (big s3v) 4) rfl ?a1 ?a2 ?a3 ?a4 ?a5 ?a6 ?_)
    case a0 => exact HO8.out
    case a1 => rfl
    case a2 => exact HA3.out.news
    case a3 => exact rowB_one _ _
    case a4 => unfold maxLen; omega
    case a5 => omega
    case a6 => exact hs8
    intro v9 w9 hown9 hgrow9 _
    have hbx9 := blk_grown hgrow9 HO8.out HBX8.out (by decide)
    have c9 : w9.cell? ⟨w.heap.size, 1, none⟩ = some (.slice sp n cap) := by rw [cell_of_row w9 w.heap.size 1 _ 39 (0, 0) hbx9]; rfl
    have HB9 : Hid (Below base w w9) := Lib.hid (HB8.out.grown hgrow9 hs8 (fun q hq => (HO8.out.lt q hq).1))
    obtain ⟨g9, cp9, rfl, hg9, hg9'⟩ := hown9.form (by omega)
    have HO9 := Lib.hid hown9
    have hs9 : base ≤ w9.heap.size := by omega
    have HS9 := Lib.hid (HS.out.kept HSD.out HB9.out)
    have HROW := Lib.hid (frame_row F d m k n x s2 s3v HEX.out HS2.out HS3.out)
    clear hown9 hgrow9 HBX8 HO8 HB8 hbx9 HA3
    rcases sp with _ | ad
    · obtain ⟨rfl, rfl⟩ := HP.out rfl
      go_wp2_with (at_builtin; refine wpList_append_own_none rfl _ _ 23 rfl base 5 i0 1 Try.underlying23 hi _ (m + 8 + 4) (rowB (cat F (cat (big x) (big s2) 4) m) (m + 8) ++ rowB (big s3v) 4) rfl HO9.out rfl ?_)
      go_wp2
      go_ret
      refine ⟨g9, cp9, by first | rfl | (rw [show m + (12 + 0) = m + 8 + 4 by omega]), ?_, HB9.out⟩
      have h := HROW.out
      rw [show rowB d 0 = [] from rfl, List.append_nil] at h
      rw [← h, show m + (12 + 0) = m + 8 + 4 by omega]
      exact HO9.out
    · go_wp2_with (at_builtin; refine wpList_append_own _ rfl _ _ 23 rfl base 5 i0 (.int .u8 0) 1 1 Try.underlying23 hi hz0 hz1 hz2 rfl (by decide) _ (m + 8 + 4) (rowB (cat F (cat (big x) (big s2) 4) m) (m + 8) ++ rowB (big s3v) 4) rfl ?a0 ad n cap (rowB d n) rfl ?a1 ?a2 ?a3 ?a4 ?a5 ?a6 ?_)
      case a0 => exact HO9.out
      case a1 => rw [rowB_length]; omega
      case a2 =>
        intro j u hj
        have hjn : j < n := by
          rcases Nat.lt_or_ge j n with h' | h'
          · exact h'
          · rw [List.getElem?_eq_none (by rw [rowB_length]; exact h')] at hj; cases hj
        rw [rowB_get d n j hjn] at hj
        injection hj with hj
        obtain ⟨ad', e', hlt, hcc⟩ := HS9.out (by omega)
        injection e' with e'
        subst e'
        rw [← hj]
        exact hcc j hjn
      case a3 => exact rowB_one _ _
      case a4 => unfold maxLen; omega
      case a5 => omega
      case a6 => exact hs9
      intro v10 w10 hown10 hgrow10 _
      have HB10 : Hid (Below base w w10) := Lib.hid (HB9.out.grown hgrow10 hs9 (fun q hq => (HO9.out.lt q hq).1))
      rw [← List.append_assoc, HROW.out, show m + 8 + 4 + n = m + (12 + n) by omega] at hown10
      obtain ⟨g10, cp10, rfl, hg10, hg10'⟩ := hown10.form (by omega)
      have HO10 := Lib.hid hown10
      clear hown10 hgrow10
      go_wp2
      go_ret
      exact ⟨g10, cp10, rfl, HO10.out, HB10.out⟩
  · have HB86 : Hid (Below w6.heap.size w6 ((((w7.setCell ⟨w6.heap.size, 0, none⟩ (.int .u8 ((big s3v 0 : Nat) : Int))).setCell ⟨w6.heap.size, 1, none⟩ (.int .u8 ((big s3v 1 : Nat) : Int))).setCell ⟨w6.heap.size, 2, none⟩ (.int .u8 ((big s3v 2 : Nat) : Int))).setCell ⟨w6.heap.size, 3, none⟩ (.int .u8 ((big s3v 3 : Nat) : Int)))) := Lib.hid ((((((((Below.refl _ _).drew).alloc (Nat.le_refl _) _).trans (hb7.mono (by simp))).setCell (Nat.le_refl _) _).setCell (Nat.le_refl _) _).setCell (Nat.le_refl _) _).setCell (Nat.le_refl _) _)
    have HA3 : Hid (A4 ((((w7.setCell ⟨w6.heap.size, 0, none⟩ (.int .u8 ((big s3v 0 : Nat) : Int))).setCell ⟨w6.heap.size, 1, none⟩ (.int .u8 ((big s3v 1 : Nat) : Int))).setCell ⟨w6.heap.size, 2, none⟩ (.int .u8 ((big s3v 2 : Nat) : Int))).setCell ⟨w6.heap.size, 3, none⟩ (.int .u8 ((big s3v 3 : Nat) : Int))) w6.heap.size (big s3v)) := Lib.hid (HZ7.out _ hb7).set4
    clear hb7 q0 q1 q2 q3 fq
    generalize ((((w7.setCell ⟨w6.heap.size, 0, none⟩ (.int .u8 ((big s3v 0 : Nat) : Int))).setCell ⟨w6.heap.size, 1, none⟩ (.int .u8 ((big s3v 1 : Nat) : Int))).setCell ⟨w6.heap.size, 2, none⟩ (.int .u8 ((big s3v 2 : Nat) : Int))).setCell ⟨w6.heap.size, 3, none⟩ (.int .u8 ((big s3v 3 : Nat) : Int))) = w8 at *
    obtain ⟨P3, eP3⟩ : ∃ P3, P3 = w6.heap.size := ⟨_, rfl⟩
    rw [← eP3] at HA3 ⊢
    clear eP3
    have HBX8 := Lib.hid ((HB86.out.block _ (by omega)).trans HBX6.out)
    have HO8 := Lib.hid (own_below HO6.out HB86.out)
    have HB8 : Hid (Below base w w8) := Lib.hid (HB6.out.trans (HB86.out.mono hs6))
    have hs8 : base ≤ w8.heap.size := Nat.le_trans hs6 HB86.out.size
    clear HK HZ7 HWH HSR HS6 HBX6 HO6 HB6 HB86 hsl1 hsl2 hsl3 hsl4 hsl5 hsz1
    go_wp2_with (at_builtin; refine wpList_append_own _ rfl _ _ 23 rfl base 5 i0 (.int .u8 0) 1 1 Try.underlying23 hi hz0 hz1 hz2 rfl (by decide) _ (m + 8) (rowB (cat F (cat (big x) (big s2) 4) m) (m + 8)) rfl ?a0 ⟨P3, 0, none⟩ 4 4 (rowB (big s3v) 4) rfl ?a1 ?a2 ?a3 ?a4 ?a5 ?a6 ?_)
    case a0 => exact HO8.out
    case a1 => rfl
    case a2 => exact HA3.out.news
    case a3 => exact rowB_one _ _
    case a4 => unfold maxLen; omega
    case a5 => omega
    case a6 => exact hs8
    intro v9 w9 hown9 hgrow9 _
    have hbx9 := blk_grown hgrow9 HO8.out HBX8.out (by decide)
    have c9 : w9.cell? ⟨w.heap.size, 1, none⟩ = some (.slice sp n cap) := by rw [cell_of_row w9 w.heap.size 1 _ 39 (0, 0) hbx9]; rfl
    have HB9 : Hid (Below base w w9) := Lib.hid (HB8.out.grown hgrow9 hs8 (fun q hq => (HO8.out.lt q hq).1))
    obtain ⟨g9, cp9, rfl, hg9, hg9'⟩ := hown9.form (by omega)
    have HO9 := Lib.hid hown9
    have hs9 : base ≤ w9.heap.size := by omega
    have HS9 := Lib.hid (HS.out.kept HSD.out HB9.out)
    have HROW := Lib.hid (frame_row F d m k n x s2 s3v HEX.out HS2.out HS3.out)
    clear hown9 hgrow9 HBX8 HO8 HB8 hbx9 HA3
    rcases sp with _ | ad
    · obtain ⟨rfl, rfl⟩ := HP.out rfl
      go_wp2_with (at_builtin; refine wpList_append_own_none rfl _ _ 23 rfl base 5 i0 1 Try.underlying23 hi _ (m + 8 + 4) (rowB (cat F (cat (big x) (big s2) 4) m) (m + 8) ++ rowB (big s3v) 4) rfl HO9.out rfl ?_)
      go_wp2
      go_ret
      refine ⟨g9, cp9, by first | rfl | (rw [show m + (12 + 0) = m + 8 + 4 by omega]), ?_, HB9.out⟩
      have h := HROW.out
      rw [show rowB d 0 = [] from rfl, List.append_nil] at h
      rw [← h, show m + (12 + 0) = m + 8 + 4 by omega]
      exact HO9.out
    · go_wp2_with (at_builtin; refine wpList_append_own _ rfl _ _ 23 rfl base 5 i0 (.int .u8 0) 1 1 Try.underlying23 hi hz0 hz1 hz2 rfl (by decide) _ (m + 8 + 4) (rowB (cat F (cat (big x) (big s2) 4) m) (m + 8) ++ rowB (big s3v) 4) rfl ?a0 ad n cap (rowB d n) rfl ?a1 ?a2 ?a3 ?a4 ?a5 ?a6 ?_)
      case a0 => exact HO9.out
      case a1 => rw [rowB_length]; omega
      case a2 =>
        intro j u hj
        have hjn : j < n := by
          rcases Nat.lt_or_ge j n with h' | h'
          · exact h'
          · rw [List.getElem?_eq_none (by rw [rowB_length]; exact h')] at hj; cases hj
        rw [rowB_get d n j hjn] at hj
        injection hj with hj
        obtain ⟨ad', e', hlt, hcc⟩ := HS9.out (by omega)
        injection e' with e'
        subst e'
        rw [← hj]
        exact hcc j hjn
      case a3 => exact rowB_one _ _
      case a4 => unfold maxLen; omega
      case a5 => omega
      case a6 => exact hs9
      intro v10 w10 hown10 hgrow10 _
      have HB10 : Hid (Below base w w10) := Lib.hid (HB9.out.grown hgrow10 hs9 (fun q hq => (HO9.out.lt q hq).1))
      rw [← List.append_assoc, HROW.out, show m + 8 + 4 + n = m + (12 + n) by omega] at hown10
      obtain ⟨g10, cp10, rfl, hg10, hg10'⟩ := hown10.form (by omega)
      have HO10 := Lib.hid hown10
      clear hown10 hgrow10
      go_wp2
      go_ret
      exact ⟨g10, cp10, rfl, HO10.out, HB10.out⟩

end Go.Proofs.Ytccpfoimedjdgaa.Fr

namespace Go.Proofs.Ytccpfoimedjdgaa.Fr
open Go.ChangeShapes Go.WideShapes Go.ChangeAt Go.RowKit

set_option maxRecDepth 100000 in
/-- make([]byte, 0, c) -/
theorem make0 (c : Nat) (hc : c ≤ 10000000) : ∃ cur : Array Value, cur.size = c ∧ ∀ w : World, (Instr.makeSlice 23 (.int .i64 0) (.int .i64 (c : Int))).run Try.prog w = .ok (.slice (some ⟨w.heap.size, 0, none⟩) 0 c) (w.alloc (.cells cur 5)) := by
  obtain ⟨i0, hi, hz0, hz1, hz2⟩ := info_parts info5
  refine ⟨madeCells (Value.int .u8 0).cells (c * i0.size), by rw [size_madeCells, hz1, Nat.mul_one], fun w => ?_⟩
  have h := run_make (P := Try.prog) w 23 5 i0 (.int .u8 0) Try.underlying23 hi hz0 .i64 .i64 0 (c : Int) (Int.le_refl _) (by omega) (by rw [hz2]; omega) (by omega)
  simpa using h

set_option maxRecDepth 100000 in
theorem own_mono {w : World} {b b' n : Nat} {v : Value} {xs : List Value} (h : w.ownsRow b 5 1 v n xs) (hb : b' ≤ b) : w.ownsRow b' 5 1 v n xs := by
  refine ⟨h.1, ?_⟩
  rcases h.2 with h0 | ⟨g, cap, cur, hv, hg, hrest⟩
  · exact .inl h0
  · exact .inr ⟨g, cap, cur, hv, Nat.le_trans hb hg, hrest⟩

set_option maxRecDepth 100000 in
theorem src_blk {w : World} {sp : Option Addr} {n : Nat} {f : Nat → Nat} (h : Src w sp n f) : 0 < n → ∀ ad, sp = some ad → ad.block < w.heap.size := by
  intro hn ad e
  obtain ⟨ad', e', hl, _⟩ := h hn
  rw [e] at e'; injection e' with e'; rw [e']; exact hl

set_option maxRecDepth 100000 in
theorem encode_no (k : Int) (sp : Option Addr) (n cap : Nat) (w : World) (hn : n ≤ 9223372036854775807) (h : ¬ fitsOf k n = 0) :
    Calls Try.prog 12 #[.agg #[.int .i64 k, .slice sp n cap]] w fun e w' => e = .returned (.tuple #[.slice none 0 0, .int .i64 (fitsOf k n)]) ∧ Below w.heap.size w w' := by
  go_enter Try.func12, Try.ntmps12
  go_wp2_with fail
  refine (fits_any k sp n cap _ hn).mono ?_
  rintro e w1 ⟨rfl, hb⟩
  have HB := Lib.hid (((Below.refl w.heap.size w).alloc (Nat.le_refl _) _).trans (hb.mono (by simp)))
  clear hb
  obtain ⟨q, eq⟩ : ∃ q, q = fitsOf k n := ⟨_, rfl⟩
  rw [← eq] at h ⊢
  have HQ := Lib.hid eq
  clear eq
  have hq : (q == 0) = false := by rw [beq_eq_false_iff_ne]; exact h
  go_wp2
  go_ret2
  exact ⟨by rw [← HQ.out]; rfl, HB.out⟩

set_option maxRecDepth 100000 in
set_option maxHeartbeats 1000000 in
theorem encode_ok (k : Nat) (sp : Option Addr) (n cap : Nat) (d : Nat → Nat) (w : World) (hk : k < 256) (hn : n ≤ 65536) (hd : ∀ j, d j < 256) (hs : Src w sp n d) (hsp : sp = none → n = 0 ∧ cap = 0) :
    Calls Try.prog 12 #[.agg #[.int .i64 (k : Int), .slice sp n cap]] w fun e w' => ∃ g cp, e = .returned (.tuple #[.slice (some ⟨g, 0, none⟩) (12 + n) cp, .int .i64 0]) ∧ w'.ownsRow w.heap.size 5 1 (.slice (some ⟨g, 0, none⟩) (12 + n) cp) (12 + n) (rowB (frm k n d) (12 + n)) ∧ Below w.heap.size w w' := by
  have HD := Lib.hid hd
  have HS := Lib.hid hs
  have HP := Lib.hid hsp
  clear hd hs hsp
  obtain ⟨cur, hcur, hmk⟩ := make0 (12 + n) (by omega)
  have HCU := Lib.hid hcur
  clear hcur
  rw [show (((12 + n : Nat)) : Int) = 12 + (n : Int) by omega] at hmk
  have hf0 : fitsOf (k : Int) n = 0 := by unfold fitsOf; rw [if_neg (by omega), if_neg (by omega)]
  have hw : IntKind.i64.wrap (12 + (n : Int)) = 12 + (n : Int) := by rw [IntKind.wrap_i64]; omega
  go_enter Try.func12, Try.ntmps12
  go_wp2_with fail
  refine (fits_any (k : Int) sp n cap _ (by omega)).mono ?_
  rintro e w1 ⟨rfl, hb⟩
  rw [hf0]
  have HBX : Hid (w1.heap[w.heap.size]? = some (.cells #[.int .i64 (k : Int), .slice sp n cap] 39 (0, 0))) := Lib.hid ((hb.block _ (by simp)).trans (heap_alloc_new w _))
  have HB := Lib.hid (((Below.refl w.heap.size w).alloc (Nat.le_refl _) _).trans (hb.mono (by simp)))
  clear hb
  have hl1 : w.heap.size < w1.heap.size := by
    rcases Nat.lt_or_ge w.heap.size w1.heap.size with h' | h'
    · exact h'
    · have := HBX.out; rw [Array.getElem?_eq_none h'] at this; cases this
  have HK : Hid (∀ W, Below w1.heap.size w1 W → W.cell? ⟨w.heap.size, 0, none⟩ = some (.int .i64 (k : Int)) ∧ W.cell? ⟨w.heap.size, 1, none⟩ = some (.slice sp n cap)) := Lib.hid fun W hbw => by
    have hbx := (hbw.block _ hl1).trans HBX.out
    exact ⟨by rw [cell_of_row W w.heap.size 0 _ 39 (0, 0) hbx]; rfl, by rw [cell_of_row W w.heap.size 1 _ 39 (0, 0) hbx]; rfl⟩
  have HLAID : Hid (Calls Try.prog 24 #[.slice (some ⟨w1.heap.size, 0, none⟩) 0 (12 + n), .agg #[.int .i64 (k : Int), .slice sp n cap]] (w1.drew.alloc (.cells cur 5)) fun e w' =>
      ∃ g' cp', e = .returned (.slice (some ⟨g', 0, none⟩) (12 + n) cp') ∧ w'.ownsRow w1.heap.size 5 1 (.slice (some ⟨g', 0, none⟩) (12 + n) cp') (12 + n) (rowB (frm k n d) (12 + n)) ∧ Below w1.heap.size (w1.drew.alloc (.cells cur 5)) w') := Lib.hid (by
    have hbw : Below w1.heap.size w1 (w1.drew.alloc (.cells cur 5)) := ((Below.refl _ _).drew).alloc (Nat.le_refl _) _
    have hs1 := HS.out.below HB.out
    have h := laid_any w1.heap.size w1.heap.size 0 (12 + n) (fun _ => 0) k sp n cap d (w1.drew.alloc (.cells cur 5)) hk hn (by omega) HD.out (hs1.below hbw) HP.out
      (World.ownsRow_made w1.drew cur (12 + n) (Nat.le_refl _) (by unfold maxLen; omega) (by rw [HCU.out, Nat.mul_one])) (by simp) (src_blk hs1)
    refine h.mono ?_
    rintro e w' ⟨g', cp', rfl, ho, hb'⟩
    refine ⟨g', cp', by rw [Nat.zero_add], ?_, hb'⟩
    rw [Nat.zero_add] at ho
    rw [rowB_congr (frm k n d) (cat (fun _ => 0) (frm k n d) 0) (12 + n) (fun j _ => by have := cat_hi (f := fun _ => 0) (o := frm k n d) 0 j; rw [Nat.zero_add] at this; exact this.symm)]
    exact ho)
  go_wp2
  go_region_held3 (fun W => W.cell? ⟨w.heap.size, 0, none⟩ = some (.int .i64 (k : Int)) ∧ W.cell? ⟨w.heap.size, 1, none⟩ = some (.slice sp n cap))
    (first
      | exact HK.out _ ((Below.refl _ _).drew)
      | exact HK.out _ (Below.refl _ _)
      | exact HK.out _ (((Below.refl _ _).drew).alloc (Nat.le_refl _) _)
      | exact HK.out _ ((((Below.refl _ _).drew).alloc (Nat.le_refl _) _).trans hb7))
    (first
      | (go_at_call 24; refine HLAID.out.mono ?_; rintro e w7 ⟨g7, cp7, rfl, hown7, hb7⟩))
  have HO7 := Lib.hid (own_mono hown7 (Nat.le_of_lt hl1))
  have HB7 := Lib.hid (HB.out.trans (((((Below.refl _ _).drew).alloc (Nat.le_refl _) _).trans hb7).mono HB.out.size))
  clear hown7 hb7
  go_wp2
  go_ret2
  exact ⟨g7, cp7, rfl, HO7.out, HB7.out⟩

end Go.Proofs.Ytccpfoimedjdgaa.Fr

namespace Go.Proofs.Ytccpfoimedjdgaa.Fr
open Go.ChangeShapes Go.WideShapes Go.ChangeAt Go.RowKit

/-- the sums at their places -/
def good1 (f : Nat → Nat) : Prop := ∀ j, j < 4 → f (4 + j) = big (CrcMath.more 0 f 4) j

def sizeOf' (f : Nat → Nat) : Nat := nval f 4 % 16777216

def kindOf (f : Nat → Nat) : Nat := nval f 4 / 16777216

def good2 (f : Nat → Nat) : Prop := ∀ j, j < 4 → f (8 + j) = big (CrcMath.more (CrcMath.more 0 f 8) (fun j => f (12 + j)) (sizeOf' f)) j
instance (f : Nat → Nat) : Decidable (good1 f) := by unfold good1; infer_instance
instance (f : Nat → Nat) : Decidable (good2 f) := by unfold good2; infer_instance

/-- why there is no frame at the front -/
def derr (f : Nat → Nat) (n : Nat) : Nat :=
  if n < 8 then 10 else if ¬ good1 f then 13 else if 65536 < sizeOf' f then 3 else if n < 12 + sizeOf' f then 10 else if ¬ good2 f then 13 else 0

def zeroF : Value := .agg #[.int .i64 0, .slice none 0 0]

def DecPost (f : Nat → Nat) (n : Nat) (w : World) (e : Ending) (w' : World) : Prop :=
  Below w.heap.size w w' ∧
  ((¬ derr f n = 0 ∧ e = .returned (.tuple #[zeroF, .int .i64 0, .int .i64 ((derr f n : Nat) : Int)])) ∨
   (derr f n = 0 ∧ ∃ sp' cap', e = .returned (.tuple #[.agg #[.int .i64 ((kindOf f : Nat) : Int), .slice sp' (sizeOf' f) cap'], .int .i64 ((12 + sizeOf' f : Nat) : Int), .int .i64 0]) ∧ w'.ownsRow w.heap.size 5 1 (.slice sp' (sizeOf' f) cap') (sizeOf' f) (rowB (fun j => f (12 + j)) (sizeOf' f)) ∧ (sp' = none → sizeOf' f = 0 ∧ cap' = 0)))

set_option maxRecDepth 100000 in
/-- the cells of a frame's variable -/
theorem zcells {w : World} {b : Nat} {v0 v1 : Value} (h : w.heap[b]? = some (.cells #[v0, v1] 39 (0, 0))) : (w.cell? ⟨b, 0, none⟩ = some v0 ∧ w.cell? ⟨b, 1, none⟩ = some v1) ∧ ∀ j, w.frozen? ⟨b, j, none⟩ = false :=
  ⟨⟨by rw [cell_of_row w b 0 _ 39 (0, 0) h]; rfl, by rw [cell_of_row w b 1 _ 39 (0, 0) h]; rfl⟩, fun j => frozen_of_row w _ j _ 39 h⟩

set_option maxRecDepth 100000 in
theorem and24 (x : Nat) (hx : x < 4294967296) : bits .and .u32 (x : Int) 16777215 = ((x % 16777216 : Nat) : Int) := by
  refine (u32_and_nat x 16777215 hx (by decide)).trans ?_
  rw [show (16777215 : Nat) = 2 ^ 24 - 1 from rfl, Nat.and_two_pow_sub_one_eq_mod]

set_option maxRecDepth 100000 in
theorem nval4_lt (f : Nat → Nat) (hf : ∀ j, f j < 256) : nval f 4 < 4294967296 := nval_lt f hf 4

set_option maxRecDepth 100000 in
theorem dec_short (sp : Option Addr) (n cap : Nat) (f : Nat → Nat) (w : World) (hn : n < 8) : Calls Try.prog 25 #[.slice sp n cap] w (DecPost f n w) := by
  have HE : Hid (derr f n = 10) := Lib.hid (by unfold derr; rw [if_pos hn])
  have hn' : (n : Int) < 8 := by omega
  go_enter Try.func25, Try.ntmps25
  go_wp2
  exact bodyPost_ret (v := .tuple #[zeroF, .int .i64 0, .int .i64 10]) (by simp [results, Try.results25, go_sem, zeroF]) rfl ⟨(Below.refl _ _).alloc (Nat.le_refl _) _, .inl ⟨by rw [HE.out]; decide, by rw [HE.out]; rfl⟩⟩

set_option maxRecDepth 100000 in
set_option maxHeartbeats 2000000 in
theorem dec_bad1 (ad : Addr) (n cap : Nat) (f : Nat → Nat) (w : World) (hn : 8 ≤ n) (hc : n ≤ cap) (hf : ∀ j, f j < 256) (hs : Src w (some ad) n f) (hg : ¬ good1 f) : Calls Try.prog 25 #[.slice (some ad) n cap] w (DecPost f n w) := by
  have HE : Hid (derr f n = 13) := Lib.hid (by unfold derr; rw [if_neg (by omega), if_pos hg])
  have HF := Lib.hid hf
  have HS := Lib.hid hs
  have hn' : ¬ (n : Int) < 8 := by omega
  have hn4 : (4 : Int) ≤ (n : Int) := by omega
  have hc4 : (4 : Int) ≤ (cap : Int) := by omega
  have hcn : (n : Int) ≤ (cap : Int) := by omega
  have hc5 : ¬ cap = 4 := by omega
  have hc6 : ¬ 4 = cap := by omega
  have HZ : Hid (Below w.heap.size w (w.alloc (.cells #[.int .i64 0, .slice none 0 0] 39))) := Lib.hid ((Below.refl _ _).alloc (Nat.le_refl _) _)
  have heq : ∀ W : World, (Op.equalIn 10000 75 (.agg (cells4 fun j => f (4 + j))) (.agg (cells4 (big (CrcMath.more 0 f 4))))).run Try.prog W = .ok false W := eq4 _ _ false ⟨fun h => absurd h (by decide), fun h => absurd h hg⟩
  clear hf hs hg
  go_enter Try.func25, Try.ntmps25
  go_wp2_with fail
  refine (front_any (some ad) n cap f _ (by omega) (HS.out.below HZ.out)).mono ?_
  rintro e w1 ⟨rfl, hb1⟩
  have HZ1 : Hid (w1.heap[w.heap.size]? = some (.cells #[.int .i64 0, .slice none 0 0] 39 (0, 0))) := Lib.hid ((hb1.block _ (by simp)).trans (heap_alloc_new w _))
  have HB1 := Lib.hid (HZ.out.trans (hb1.mono (by simp)))
  have HA : Hid (A4 (w1.alloc (.cells (cells4 f) 75)) w1.heap.size f) := Lib.hid (heap_alloc_new w1 _)
  have HB2' : Hid (Below w1.heap.size w1 (w1.alloc (.cells (cells4 f) 75))) := Lib.hid ((Below.refl _ _).alloc (Nat.le_refl _) _)
  clear hb1
  have hl1 : w.heap.size < w1.heap.size := by
    rcases Nat.lt_or_ge w.heap.size w1.heap.size with h' | h'
    · exact h'
    · have := HZ1.out; rw [Array.getElem?_eq_none h'] at this; cases this
  unfold cells4 at HA HB2' heq ⊢
  go_wp2
  generalize (w1.alloc (.cells #[.int .u8 ((f 0 : Nat) : Int), .int .u8 ((f 1 : Nat) : Int), .int .u8 ((f 2 : Nat) : Int), .int .u8 ((f 3 : Nat) : Int)] 75)) = w2 at *
  have HZ2 := Lib.hid ((HB2'.out.block _ hl1).trans HZ1.out)
  have HB2 := Lib.hid (HB1.out.trans (HB2'.out.mono HB1.out.size))
  have HS2 := Lib.hid (HS.out.below HB2.out)
  have hl2 : w.heap.size < w2.heap.size := Nat.lt_of_lt_of_le hl1 HB2'.out.size
  generalize w1.heap.size = P at *
  have HFR : Hid (∀ W c, Below w2.heap.size w2 W → Calls Try.prog 41 #[.slice (some (ad.add 4)) (n - 4) c] W fun e w' => e = .returned (.agg (cells4 fun j => f (4 + j))) ∧ Below W.heap.size W w') :=
    Lib.hid fun W c hb => front_any _ (n - 4) c _ W (by omega) ((HS2.out.below hb).behind 4 (n - 4) (by omega))
  have HSU : Hid (∀ W, Below w2.heap.size w2 W → Calls Try.prog 39 #[.slice (some ⟨P, 0, none⟩) 4 4] W fun e w' => e = .returned (.int .u32 ((CrcMath.more 0 f 4 : Nat) : Int)) ∧ W = w') :=
    Lib.hid fun W hb => sum_any _ 4 4 f W (by omega) (fun j _ => HF.out j) (HA.out.below hb HA.out.lt).src
  have HFO : Hid (∀ W, Calls Try.prog 38 #[.int .u32 ((CrcMath.more 0 f 4 : Nat) : Int)] W fun e w' => e = .returned (.agg (cells4 (big (CrcMath.more 0 f 4)))) ∧ Below W.heap.size W w') :=
    Lib.hid fun W => four_any _ W (CrcMath.more_lt 0 f 4 (by decide) fun j _ => HF.out j)
  have hB : Below w2.heap.size w2 w2.drew := (Below.refl _ _).drew
  unfold cells4 at HFR HFO
  generalize CrcMath.more 0 f 4 = s at *
  go_region_held3 (fun _ => True) (trivial)
    (first
      | (go_at_call 41; refine (HFR.out _ _ hB).mono ?_; rintro e wN ⟨rfl, hN⟩; replace hB := hB.trans (hN.mono hB.size))
      | (go_at_call 39; refine (HSU.out _ hB).mono ?_; rintro e wN ⟨rfl, rfl⟩)
      | (go_at_call 38; refine (HFO.out _).mono ?_; rintro e wN ⟨rfl, hN⟩; replace hB := hB.trans (hN.mono hB.size)))
  have HBN := Lib.hid (HB2.out.trans (hB.mono HB2.out.size))
  obtain ⟨⟨z0, z1⟩, fz⟩ := zcells ((hB.block _ hl2).trans HZ2.out)
  clear hB HFR HSU HFO hN
  go_wp2
  exact bodyPost_ret (v := .tuple #[zeroF, .int .i64 0, .int .i64 13]) (by simp [results, Try.results25, go_sem, zeroF, z0, z1]) rfl ⟨(HBN.out.setCell (Nat.le_refl _) _).setCell (Nat.le_refl _) _, .inl ⟨by rw [HE.out]; decide, by rw [HE.out]; rfl⟩⟩

set_option maxRecDepth 100000 in
set_option maxHeartbeats 2000000 in
theorem dec_long (ad : Addr) (n cap : Nat) (f : Nat → Nat) (w : World) (hn : 8 ≤ n) (hc : n ≤ cap) (hf : ∀ j, f j < 256) (hs : Src w (some ad) n f) (hg : good1 f) (hz : 65536 < sizeOf' f) : Calls Try.prog 25 #[.slice (some ad) n cap] w (DecPost f n w) := by
  have HE : Hid (derr f n = 3) := Lib.hid (by unfold derr; rw [if_neg (by omega), if_neg (fun h => h hg), if_pos hz])
  have HF := Lib.hid hf
  have HS := Lib.hid hs
  have hn' : ¬ (n : Int) < 8 := by omega
  have hn4 : (4 : Int) ≤ (n : Int) := by omega
  have hc4 : (4 : Int) ≤ (cap : Int) := by omega
  have hcn : (n : Int) ≤ (cap : Int) := by omega
  have hc5 : ¬ cap = 4 := by omega
  have hc6 : ¬ 4 = cap := by omega
  have HZ : Hid (Below w.heap.size w (w.alloc (.cells #[.int .i64 0, .slice none 0 0] 39))) := Lib.hid ((Below.refl _ _).alloc (Nat.le_refl _) _)
  have heq : ∀ W : World, (Op.equalIn 10000 75 (.agg (cells4 fun j => f (4 + j))) (.agg (cells4 (big (CrcMath.more 0 f 4))))).run Try.prog W = .ok true W := eq4 _ _ true ⟨fun _ => hg, fun _ => rfl⟩
  clear hf hs hg
  go_enter Try.func25, Try.ntmps25
  go_wp2_with fail
  refine (front_any (some ad) n cap f _ (by omega) (HS.out.below HZ.out)).mono ?_
  rintro e w1 ⟨rfl, hb1⟩
  have HZ1 : Hid (w1.heap[w.heap.size]? = some (.cells #[.int .i64 0, .slice none 0 0] 39 (0, 0))) := Lib.hid ((hb1.block _ (by simp)).trans (heap_alloc_new w _))
  have HB1 := Lib.hid (HZ.out.trans (hb1.mono (by simp)))
  have HA : Hid (A4 (w1.alloc (.cells (cells4 f) 75)) w1.heap.size f) := Lib.hid (heap_alloc_new w1 _)
  have HB2' : Hid (Below w1.heap.size w1 (w1.alloc (.cells (cells4 f) 75))) := Lib.hid ((Below.refl _ _).alloc (Nat.le_refl _) _)
  clear hb1
  have hl1 : w.heap.size < w1.heap.size := by
    rcases Nat.lt_or_ge w.heap.size w1.heap.size with h' | h'
    · exact h'
    · have := HZ1.out; rw [Array.getElem?_eq_none h'] at this; cases this
  unfold cells4 at HA HB2' heq ⊢
  go_wp2
  generalize (w1.alloc (.cells #[.int .u8 ((f 0 : Nat) : Int), .int .u8 ((f 1 : Nat) : Int), .int .u8 ((f 2 : Nat) : Int), .int .u8 ((f 3 : Nat) : Int)] 75)) = w2 at *
  have HZ2 := Lib.hid ((HB2'.out.block _ hl1).trans HZ1.out)
  have HB2 := Lib.hid (HB1.out.trans (HB2'.out.mono HB1.out.size))
  have HS2 := Lib.hid (HS.out.below HB2.out)
  have hl2 : w.heap.size < w2.heap.size := Nat.lt_of_lt_of_le hl1 HB2'.out.size
  generalize w1.heap.size = P at *
  have HFR : Hid (∀ W c, Below w2.heap.size w2 W → Calls Try.prog 41 #[.slice (some (ad.add 4)) (n - 4) c] W fun e w' => e = .returned (.agg (cells4 fun j => f (4 + j))) ∧ Below W.heap.size W w') :=
    Lib.hid fun W c hb => front_any _ (n - 4) c _ W (by omega) ((HS2.out.below hb).behind 4 (n - 4) (by omega))
  have HSU : Hid (∀ W, Below w2.heap.size w2 W → Calls Try.prog 39 #[.slice (some ⟨P, 0, none⟩) 4 4] W fun e w' => e = .returned (.int .u32 ((CrcMath.more 0 f 4 : Nat) : Int)) ∧ W = w') :=
    Lib.hid fun W hb => sum_any _ 4 4 f W (by omega) (fun j _ => HF.out j) (HA.out.below hb HA.out.lt).src
  have HFO : Hid (∀ W, Calls Try.prog 38 #[.int .u32 ((CrcMath.more 0 f 4 : Nat) : Int)] W fun e w' => e = .returned (.agg (cells4 (big (CrcMath.more 0 f 4)))) ∧ Below W.heap.size W w') :=
    Lib.hid fun W => four_any _ W (CrcMath.more_lt 0 f 4 (by decide) fun j _ => HF.out j)
  have hB : Below w2.heap.size w2 w2.drew := (Below.refl _ _).drew
  unfold cells4 at HFR HFO
  generalize CrcMath.more 0 f 4 = s at *
  go_region_held3 (fun _ => True) (trivial)
    (first
      | (go_at_call 41; refine (HFR.out _ _ hB).mono ?_; rintro e wN ⟨rfl, hN⟩; replace hB := hB.trans (hN.mono hB.size))
      | (go_at_call 39; refine (HSU.out _ hB).mono ?_; rintro e wN ⟨rfl, rfl⟩)
      | (go_at_call 38; refine (HFO.out _).mono ?_; rintro e wN ⟨rfl, hN⟩; replace hB := hB.trans (hN.mono hB.size)))
  have HBN := Lib.hid (HB2.out.trans (hB.mono HB2.out.size))
  have HAN := Lib.hid (HA.out.below hB HA.out.lt)
  have HZN := Lib.hid ((hB.block _ hl2).trans HZ2.out)
  have hlN : w.heap.size < wN.heap.size := Nat.lt_of_lt_of_le hl2 hB.size
  have HSN := Lib.hid (HS2.out.below hB)
  obtain ⟨⟨a0, a1, a2, a3⟩, fa⟩ := HAN.out.all
  clear hB HFR HSU HFO hN heq
  go_wp2_with fail
  have hnum := number_any f wN HF.out
  unfold cells4 at hnum
  refine hnum.mono ?_
  rintro e w5 ⟨rfl, hb5⟩
  have HZ5 := Lib.hid ((hb5.block _ hlN).trans HZN.out)
  have HB5 := Lib.hid (HBN.out.trans (hb5.mono HBN.out.size))
  have HS5 := Lib.hid (HSN.out.below hb5)
  have hl5 : w.heap.size < w5.heap.size := Nat.lt_of_lt_of_le hlN hb5.size
  have hx24 := and24 _ (nval4_lt f HF.out)
  have hxl := nval4_lt f HF.out
  have hdiv : (((nval f 4 : Nat) : Int) / 16777216) = ((kindOf f : Nat) : Int) := by unfold kindOf; omega
  have hsz : ((nval f 4 % 16777216 : Nat) : Int) = ((sizeOf' f : Nat) : Int) := rfl
  have hkl : kindOf f < 256 := by unfold kindOf; omega
  have hsl : sizeOf' f < 16777216 := Nat.mod_lt _ (by decide)
  rw [hsz] at hx24
  clear hsz hnum hb5 a0 a1 a2 a3 fa
  generalize sizeOf' f = z at *
  generalize kindOf f = kd at *
  generalize nval f 4 = x at *
  have hz' : (65536 : Int) < (z : Int) := by omega
  obtain ⟨⟨z0, z1⟩, fz⟩ := zcells HZ5.out
  go_wp2
  exact bodyPost_ret (v := .tuple #[zeroF, .int .i64 0, .int .i64 3]) (by simp [results, Try.results25, go_sem, zeroF, z0, z1]) rfl ⟨(HB5.out.setCell (Nat.le_refl _) _).setCell (Nat.le_refl _) _, .inl ⟨by rw [HE.out]; decide, by rw [HE.out]; rfl⟩⟩

end Go.Proofs.Ytccpfoimedjdgaa.Fr

