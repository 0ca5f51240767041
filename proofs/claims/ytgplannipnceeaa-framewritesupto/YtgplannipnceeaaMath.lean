/-
  The register of CRC-32C: a bit on, a bit back, bytes; what a burst does to it.
-/
namespace Go.Proofs.CrcMath

def P : Nat := 2197175160
/-- the register one bit on -/
def fwd (x : Nat) : Nat := x / 2 ^^^ (if x % 2 = 1 then P else 0)
def it : Nat → Nat → Nat
  | 0, x => x
  | k + 1, x => it k (fwd x)
/-- one bit back -/
def bk (x : Nat) : Nat := if x / 2147483648 = 1 then (x ^^^ P) * 2 + 1 else x * 2
def ib : Nat → Nat → Nat
  | 0, x => x
  | k + 1, x => ib k (bk x)
def no (x : Nat) : Nat := x ^^^ 4294967295
/-- the register behind n bytes -/
def reg (r : Nat) (f : Nat → Nat) : Nat → Nat
  | 0 => r
  | n + 1 => it 8 (reg r f n ^^^ f n)
def more (s : Nat) (f : Nat → Nat) (n : Nat) : Nat := no (reg (no s) f n)
def less (s c : Nat) : Nat := no (ib 8 (no s) ^^^ c)
/-- n bytes as one number, the first one lowest -/
def num (f : Nat → Nat) : Nat → Nat
  | 0 => 0
  | n + 1 => num f n ^^^ f n * 2 ^ (8 * n)

theorem xor_lt32 {a b : Nat} (ha : a < 4294967296) (hb : b < 4294967296) : a ^^^ b < 4294967296 := Nat.xor_lt_two_pow (n := 32) ha hb
theorem xor_lt31 {a b : Nat} (ha : a < 2147483648) (hb : b < 2147483648) : a ^^^ b < 2147483648 := Nat.xor_lt_two_pow (n := 31) ha hb
theorem xx (a b : Nat) : a ^^^ b ^^^ b = a := by rw [Nat.xor_assoc, Nat.xor_self, Nat.xor_zero]
theorem no_lt {x : Nat} (h : x < 4294967296) : no x < 4294967296 := xor_lt32 h (by decide)
theorem no_no (x : Nat) : no (no x) = x := xx x _
theorem no_inj {x y : Nat} (h : no x = no y) : x = y := by rw [← no_no x, h, no_no]

theorem xlc (a b c : Nat) : a ^^^ (b ^^^ c) = b ^^^ (a ^^^ c) := by rw [← Nat.xor_assoc, Nat.xor_comm a, Nat.xor_assoc]

theorem xor_half (x y : Nat) : (x ^^^ y) / 2 = x / 2 ^^^ y / 2 := Nat.xor_div_two_pow (n := 1)
theorem xor_odd (x y : Nat) : (x ^^^ y) % 2 = (x % 2 + y % 2) % 2 := by
  have h := Nat.xor_mod_two_eq_one (a := x) (b := y)
  have h1 := Nat.mod_two_eq_zero_or_one x
  have h2 := Nat.mod_two_eq_zero_or_one y
  have h3 := Nat.mod_two_eq_zero_or_one (x ^^^ y)
  generalize (x ^^^ y) % 2 = z at *
  generalize x % 2 = a at *
  generalize y % 2 = b at *
  rcases h1 with rfl | rfl <;> rcases h2 with rfl | rfl <;> rcases h3 with rfl | rfl <;> simp_all

theorem fwd_xor (x y : Nat) : fwd (x ^^^ y) = fwd x ^^^ fwd y := by
  unfold fwd
  rw [xor_half, xor_odd]
  rcases Nat.mod_two_eq_zero_or_one x with h | h <;> rcases Nat.mod_two_eq_zero_or_one y with h' | h' <;> simp only [h, h'] <;> simp
  · ac_rfl
  · ac_rfl
  · rw [Nat.xor_assoc, xlc P, Nat.xor_self, Nat.xor_zero]

theorem it_xor (k : Nat) : ∀ x y : Nat, it k (x ^^^ y) = it k x ^^^ it k y := by
  induction k with
  | zero => intro x y; rfl
  | succ k ih => intro x y; show it k (fwd (x ^^^ y)) = _; rw [fwd_xor, ih]; rfl

theorem it_add (a b : Nat) : ∀ x : Nat, it (a + b) x = it b (it a x) := by
  induction a with
  | zero => intro x; rw [Nat.zero_add]; rfl
  | succ a ih => intro x; rw [Nat.succ_add]; exact ih (fwd x)

theorem fwd_two (y : Nat) : fwd (y * 2) = y := by unfold fwd; simp
theorem it_pow (k y : Nat) : it k (y * 2 ^ k) = y := by
  induction k with
  | zero => simp [it]
  | succ k ih => show it k (fwd (y * 2 ^ (k + 1))) = y; rw [Nat.pow_succ, ← Nat.mul_assoc, fwd_two, ih]

theorem fwd_lt {x : Nat} (h : x < 4294967296) : fwd x < 4294967296 := by
  unfold fwd
  refine xor_lt32 (by omega) ?_
  split <;> decide
theorem it_lt (k : Nat) : ∀ {x : Nat}, x < 4294967296 → it k x < 4294967296 := by
  induction k with
  | zero => intro x h; exact h
  | succ k ih => intro x h; exact ih (fwd_lt h)

theorem top_xor (x : Nat) (h : x < 2147483648) : (x ^^^ P) / 2147483648 = 1 := by
  have e : (x ^^^ P) / 2 ^ 31 = x / 2 ^ 31 ^^^ P / 2 ^ 31 := Nat.xor_div_two_pow
  have e1 : x / 2 ^ 31 = 0 := Nat.div_eq_of_lt h
  rw [e1] at e
  exact e.trans (by decide)
theorem low_xor (x : Nat) (h : x / 2147483648 = 1) : x ^^^ P < 2147483648 := by
  have e : (x ^^^ P) / 2 ^ 31 = x / 2 ^ 31 ^^^ P / 2 ^ 31 := Nat.xor_div_two_pow
  have e1 : x / 2 ^ 31 = 1 := h
  rw [e1] at e
  have e2 : (x ^^^ P) / 2 ^ 31 = 0 := e.trans (by decide)
  rcases Nat.lt_or_ge (x ^^^ P) 2147483648 with h' | h'
  · exact h'
  · have : 1 ≤ (x ^^^ P) / 2147483648 := by omega
    have e3 : (x ^^^ P) / 2147483648 = 0 := e2
    omega

theorem bk_fwd (x : Nat) (h : x < 4294967296) : bk (fwd x) = x := by
  unfold fwd
  rcases Nat.mod_two_eq_zero_or_one x with h' | h'
  · simp only [h']
    unfold bk
    have : x / 2 ^^^ (if (0:Nat) = 1 then P else 0) = x / 2 := by simp
    rw [this, if_neg (by omega)]; omega
  · simp only [h', if_true]
    unfold bk
    rw [if_pos (top_xor _ (by omega)), xx]; omega
theorem fwd_bk (x : Nat) : fwd (bk x) = x := by
  unfold bk
  split
  · rename_i h'
    have := low_xor x h'
    unfold fwd
    rw [show ((x ^^^ P) * 2 + 1) / 2 = x ^^^ P by omega, if_pos (by omega), xx]
  · exact fwd_two x
theorem bk_lt {x : Nat} (h : x < 4294967296) : bk x < 4294967296 := by
  unfold bk
  split
  · rename_i h'
    have := low_xor x h'
    omega
  · omega
theorem ib_lt (k : Nat) : ∀ {x : Nat}, x < 4294967296 → ib k x < 4294967296 := by
  induction k with
  | zero => intro x h; exact h
  | succ k ih => intro x h; exact ih (bk_lt h)
theorem it_succ' (k x : Nat) : it (k + 1) x = fwd (it k x) := it_add k 1 x
theorem ib_succ' (k : Nat) : ∀ x : Nat, ib (k + 1) x = bk (ib k x) := by
  induction k with
  | zero => intro x; rfl
  | succ k ih => intro x; exact ih (bk x)
theorem ib_add (a b : Nat) : ∀ x : Nat, ib (a + b) x = ib b (ib a x) := by
  induction a with
  | zero => intro x; rw [Nat.zero_add]; rfl
  | succ a ih => intro x; rw [Nat.succ_add]; exact ih (bk x)
theorem ib_it (k : Nat) : ∀ x : Nat, x < 4294967296 → ib k (it k x) = x := by
  induction k with
  | zero => intro x _; rfl
  | succ k ih => intro x h; rw [ib_succ']; show bk (ib k (it k (fwd x))) = x; rw [ih _ (fwd_lt h), bk_fwd x h]
theorem it_ib (k : Nat) : ∀ x : Nat, x < 4294967296 → it k (ib k x) = x := by
  induction k with
  | zero => intro x _; rfl
  | succ k ih => intro x h; rw [it_succ']; show fwd (it k (ib k (bk x))) = x; rw [ih _ (bk_lt h), fwd_bk x]

theorem it_zero (k : Nat) : it k 0 = 0 := by
  induction k with
  | zero => rfl
  | succ k ih => exact ih
theorem it_null (k x : Nat) (h : x < 4294967296) (e : it k x = 0) : x = 0 := by
  have := ib_it k x h
  rw [e] at this
  have h2 := ib_it k 0 (by decide)
  rw [it_zero] at h2
  rw [← this, h2]

theorem reg_num (r : Nat) (f : Nat → Nat) (n : Nat) : reg r f n = it (8 * n) (r ^^^ num f n) := by
  induction n with
  | zero => simp [reg, num, it]
  | succ n ih =>
    show it 8 (reg r f n ^^^ f n) = it (8 * n + 8) (r ^^^ (num f n ^^^ f n * 2 ^ (8 * n)))
    rw [it_add, ← Nat.xor_assoc, it_xor (8 * n), it_pow, ih]

theorem reg_lt (r : Nat) (f : Nat → Nat) (n : Nat) (hr : r < 4294967296) (hf : ∀ j, j < n → f j < 256) : reg r f n < 4294967296 := by
  induction n with
  | zero => exact hr
  | succ n ih => exact it_lt 8 (xor_lt32 (ih fun j hj => hf j (by omega)) (by have := hf n (by omega); omega))
theorem more_lt (s : Nat) (f : Nat → Nat) (n : Nat) (hr : s < 4294967296) (hf : ∀ j, j < n → f j < 256) : more s f n < 4294967296 :=
  no_lt (reg_lt _ f n (no_lt hr) hf)
theorem less_lt (s c : Nat) (hs : s < 4294967296) (hc : c < 256) : less s c < 4294967296 := no_lt (xor_lt32 (ib_lt 8 (no_lt hs)) (by omega))

theorem reg_congr (r : Nat) (f g : Nat → Nat) (n : Nat) (h : ∀ j, j < n → f j = g j) : reg r f n = reg r g n := by
  induction n with
  | zero => rfl
  | succ n ih => show it 8 _ = it 8 _; rw [ih fun j hj => h j (by omega), h n (by omega)]
theorem more_congr (s : Nat) (f g : Nat → Nat) (n : Nat) (h : ∀ j, j < n → f j = g j) : more s f n = more s g n := by
  unfold more; rw [reg_congr _ f g n h]

theorem reg_add (r : Nat) (f : Nat → Nat) (m k : Nat) : reg r f (m + k) = reg (reg r f m) (fun j => f (m + j)) k := by
  induction k with
  | zero => rfl
  | succ k ih => show it 8 (reg r f (m + k) ^^^ f (m + k)) = it 8 _; rw [ih]
theorem more_add (s : Nat) (f : Nat → Nat) (m k : Nat) : more s f (m + k) = more (more s f m) (fun j => f (m + j)) k := by
  unfold more; rw [no_no, reg_add]

/-- a byte more, then less -/
theorem less_more (s c : Nat) (hs : s < 4294967296) (hc : c < 256) : less (more s (fun _ => c) 1) c = s := by
  unfold less more
  rw [no_no]
  show no (ib 8 (it 8 (no s ^^^ c)) ^^^ c) = s
  rw [ib_it 8 _ (xor_lt32 (no_lt hs) (by omega)), xx, no_no]
theorem more_less (s c : Nat) (hs : s < 4294967296) : more (less s c) (fun _ => c) 1 = s := by
  unfold less more
  rw [no_no]
  show no (it 8 (ib 8 (no s) ^^^ c ^^^ c)) = s
  rw [xx, it_ib 8 _ (no_lt hs), no_no]
theorem less_last (s : Nat) (f : Nat → Nat) (n : Nat) (hs : s < 4294967296) (hf : ∀ j, j < n + 1 → f j < 256) : less (more s f (n + 1)) (f n) = more s f n := by
  unfold less more
  rw [no_no]
  show no (ib 8 (it 8 (reg (no s) f n ^^^ f n)) ^^^ f n) = _
  rw [ib_it 8 _ (xor_lt32 (reg_lt _ f n (no_lt hs) fun j hj => hf j (by omega)) (by have := hf n (by omega); omega)), xx]

theorem num_congr (f g : Nat → Nat) (n : Nat) (h : ∀ j, j < n → f j = g j) : num f n = num g n := by
  induction n with
  | zero => rfl
  | succ n ih => unfold num; rw [ih fun j hj => h j (by omega), h n (by omega)]
theorem num_xor (f g : Nat → Nat) (n : Nat) : num (fun j => f j ^^^ g j) n = num f n ^^^ num g n := by
  induction n with
  | zero => show 0 = 0 ^^^ 0; rw [Nat.xor_self]
  | succ n ih =>
    show num (fun j => f j ^^^ g j) n ^^^ (f n ^^^ g n) * 2 ^ (8 * n) = (num f n ^^^ f n * 2 ^ (8 * n)) ^^^ (num g n ^^^ g n * 2 ^ (8 * n))
    have e : (f n ^^^ g n) * 2 ^ (8 * n) = f n * 2 ^ (8 * n) ^^^ g n * 2 ^ (8 * n) := by
      rw [← Nat.shiftLeft_eq, ← Nat.shiftLeft_eq, ← Nat.shiftLeft_eq, Nat.shiftLeft_xor_distrib]
    rw [ih, e, Nat.xor_assoc, Nat.xor_assoc]
    congr 1
    rw [← Nat.xor_assoc, ← Nat.xor_assoc, Nat.xor_comm (num g n)]
theorem num_lt (f : Nat → Nat) (n : Nat) (hf : ∀ j, j < n → f j < 256) : num f n < 2 ^ (8 * n) := by
  induction n with
  | zero => exact Nat.one_pos
  | succ n ih =>
    have h1 := ih fun j hj => hf j (by omega)
    have h2 := hf n (by omega)
    have e : 2 ^ (8 * (n + 1)) = 256 * 2 ^ (8 * n) := by rw [Nat.mul_add, Nat.pow_add, Nat.mul_comm]
    refine Nat.xor_lt_two_pow (Nat.lt_of_lt_of_le h1 (Nat.pow_le_pow_right (by decide) (by omega))) ?_
    rw [e]; exact Nat.mul_lt_mul_of_pos_right h2 (Nat.two_pow_pos _)
theorem num_null (f : Nat → Nat) (n : Nat) (hf : ∀ j, j < n → f j < 256) (h : num f n = 0) : ∀ j, j < n → f j = 0 := by
  induction n with
  | zero => intro j hj; omega
  | succ n ih =>
    have hl := num_lt f n fun j hj => hf j (by omega)
    have e : num f n = f n * 2 ^ (8 * n) := by
      have h' : num f n ^^^ f n * 2 ^ (8 * n) = 0 := h
      have := xx (num f n) (f n * 2 ^ (8 * n))
      rw [h', Nat.zero_xor] at this
      exact this.symm
    have h0 : f n = 0 := by
      rcases Nat.eq_zero_or_pos (f n) with h' | h'
      · exact h'
      · have : 2 ^ (8 * n) ≤ f n * 2 ^ (8 * n) := Nat.le_mul_of_pos_left _ h'
        omega
    intro j hj
    rcases Nat.lt_or_ge j n with h' | h'
    · exact ih (fun j hj => hf j (by omega)) (by rw [e, h0, Nat.zero_mul]) j h'
    · rw [show j = n by omega]; exact h0
theorem xor_null {a b : Nat} (h : a ^^^ b = 0) : a = b := by
  have := xx a b; rw [h, Nat.zero_xor] at this; exact this.symm
theorem num_inj (f g : Nat → Nat) (n : Nat) (hf : ∀ j, j < n → f j < 256) (hg : ∀ j, j < n → g j < 256) (h : num f n = num g n) : ∀ j, j < n → f j = g j := by
  intro j hj
  refine xor_null (num_null (fun j => f j ^^^ g j) n (fun j hj => Nat.xor_lt_two_pow (n := 8) (hf j hj) (hg j hj)) ?_ j hj)
  rw [num_xor, h, Nat.xor_self]

/-- a change within 32 bits changes the register -/
theorem burst (r : Nat) (f g : Nat → Nat) (n at_ W : Nat) (hat : at_ ≤ 8 * n) (hW : W < 4294967296) (hnum : num g n = num f n ^^^ W * 2 ^ at_) (h : reg r f n = reg r g n) : W = 0 := by
  rw [reg_num, reg_num, hnum, ← Nat.xor_assoc, it_xor (8 * n) (r ^^^ num f n)] at h
  have h0 : it (8 * n) (W * 2 ^ at_) = 0 := by
    have := xx (it (8 * n) (W * 2 ^ at_)) (it (8 * n) (r ^^^ num f n))
    rw [Nat.xor_comm (it (8 * n) (W * 2 ^ at_)), ← h, Nat.xor_self] at this
    exact this.symm
  rw [show 8 * n = at_ + (8 * n - at_) by omega, it_add, it_pow] at h0
  exact it_null _ W hW h0

/-- three texts laid over each other -/
theorem reg_three (r : Nat) (f g h : Nat → Nat) (n : Nat) : reg r (fun j => f j ^^^ g j ^^^ h j) n = reg r f n ^^^ reg r g n ^^^ reg r h n := by
  induction n with
  | zero => show r = r ^^^ r ^^^ r; rw [xx]
  | succ n ih =>
    show it 8 (reg r (fun j => f j ^^^ g j ^^^ h j) n ^^^ (f n ^^^ g n ^^^ h n)) = it 8 (reg r f n ^^^ f n) ^^^ it 8 (reg r g n ^^^ g n) ^^^ it 8 (reg r h n ^^^ h n)
    rw [← it_xor, ← it_xor, ih]
    congr 1
    ac_rfl
theorem more_three (f g h : Nat → Nat) (n : Nat) : more 0 (fun j => f j ^^^ g j ^^^ h j) n = more 0 f n ^^^ more 0 g n ^^^ more 0 h n := by
  unfold more
  rw [reg_three]
  unfold no
  generalize reg (0 ^^^ 4294967295) f n = a
  generalize reg (0 ^^^ 4294967295) g n = b
  generalize reg (0 ^^^ 4294967295) h n = c
  generalize (4294967295 : Nat) = d
  have e : a ^^^ d ^^^ (b ^^^ d) ^^^ (c ^^^ d) = (a ^^^ b ^^^ c ^^^ d) ^^^ (d ^^^ d) := by ac_rfl
  rw [e, Nat.xor_self, Nat.xor_zero]

/-- one byte turned -/
theorem num_set (f : Nat → Nat) (n j d : Nat) (hj : j < n) : num (fun i => if i = j then f i ^^^ d else f i) n = num f n ^^^ d * 2 ^ (8 * j) := by
  have e : (fun i => if i = j then f i ^^^ d else f i) = fun i => f i ^^^ (if i = j then d else 0) := by
    funext i; split <;> simp
  rw [e, num_xor]
  congr 1
  have low : ∀ m, m ≤ j → num (fun i => if i = j then d else 0) m = 0 := by
    intro m
    induction m with
    | zero => intro _; rfl
    | succ m ih => intro hm; show num _ m ^^^ (if m = j then d else 0) * 2 ^ (8 * m) = 0; rw [ih (by omega), if_neg (by omega)]; simp
  induction n with
  | zero => omega
  | succ n ih =>
    show num _ n ^^^ (if n = j then d else 0) * 2 ^ (8 * n) = _
    by_cases h : n = j
    · rw [low n (by omega), if_pos h, h]; simp
    · rw [ih (by omega), if_neg h]; simp

/-- the four bytes of a number, lowest first -/
def four (x : Nat) (j : Nat) : Nat := x / 256 ^ j % 256
theorem xor_pow_add (a b k : Nat) (ha : a < 2 ^ k) : a ^^^ b * 2 ^ k = a + b * 2 ^ k := by
  have h1 : (a ^^^ b * 2 ^ k) / 2 ^ k = b := by
    rw [Nat.xor_div_two_pow, Nat.div_eq_of_lt ha, Nat.mul_div_cancel _ (Nat.two_pow_pos _), Nat.zero_xor]
  have h2 : (a ^^^ b * 2 ^ k) % 2 ^ k = a := by
    rw [Nat.xor_mod_two_pow, Nat.mod_eq_of_lt ha, Nat.mul_mod_left, Nat.xor_zero]
  have h3 := Nat.div_add_mod (a ^^^ b * 2 ^ k) (2 ^ k)
  rw [h1, h2, Nat.mul_comm, Nat.add_comm] at h3
  exact h3.symm
theorem num_four (x : Nat) (hx : x < 4294967296) : num (four x) 4 = x := by
  show (((0 ^^^ four x 0 * 2 ^ 0) ^^^ four x 1 * 2 ^ 8) ^^^ four x 2 * 2 ^ 16) ^^^ four x 3 * 2 ^ 24 = x
  unfold four
  rw [Nat.zero_xor, xor_pow_add _ _ 8 (by simp; omega), xor_pow_add _ _ 16 (by simp; omega), xor_pow_add _ _ 24 (by simp; omega)]
  simp
  omega

def patch (s want : Nat) : Nat := s ^^^ no (ib 32 (no want))
theorem patch_lt (s want : Nat) (hs : s < 4294967296) (hw : want < 4294967296) : patch s want < 4294967296 := xor_lt32 hs (no_lt (ib_lt 32 (no_lt hw)))
theorem no_xor (a b : Nat) : no a ^^^ (a ^^^ no b) = b := by
  unfold no
  generalize (4294967295 : Nat) = d
  have e : a ^^^ d ^^^ (a ^^^ (b ^^^ d)) = (a ^^^ a) ^^^ (d ^^^ d) ^^^ b := by ac_rfl
  rw [e, Nat.xor_self, Nat.xor_self, Nat.xor_zero, Nat.zero_xor]
theorem more_patch (s want : Nat) (hs : s < 4294967296) (hw : want < 4294967296) : more s (four (patch s want)) 4 = want := by
  unfold more
  rw [reg_num, num_four _ (patch_lt s want hs hw)]
  unfold patch
  rw [no_xor, it_ib 32 _ (no_lt hw), no_no]
theorem patch_only (s want : Nat) (hs : s < 4294967296) (hw : want < 4294967296) (o : Nat → Nat) (ho : ∀ j, j < 4 → o j < 256) (h : more s o 4 = want) : ∀ j, j < 4 → o j = four (patch s want) j := by
  have hp := more_patch s want hs hw
  refine num_inj o _ 4 ho (fun j hj => Nat.mod_lt _ (by decide)) ?_
  rw [← hp] at h
  unfold more at h
  have h2 := no_inj h
  rw [reg_num, reg_num] at h2
  have b1 : no s ^^^ num o 4 < 4294967296 := xor_lt32 (no_lt hs) (num_lt o 4 ho)
  have b2 : no s ^^^ num (four (patch s want)) 4 < 4294967296 := xor_lt32 (no_lt hs) (num_lt _ 4 fun j hj => Nat.mod_lt _ (by decide))
  have e := ib_it (8 * 4) _ b1
  rw [h2, ib_it (8 * 4) _ b2] at e
  have := xx (num o 4) (no s)
  rw [Nat.xor_comm (num o 4), ← e, Nat.xor_comm (no s), xx] at this
  exact this.symm
def digits (j : Nat) : Nat := 49 + j
theorem known : more 0 digits 9 = 3808858755 := by decide +kernel
end Go.Proofs.CrcMath
