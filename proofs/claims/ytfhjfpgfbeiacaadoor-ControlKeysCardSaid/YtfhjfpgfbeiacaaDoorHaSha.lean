/- SHA-256 as plain reckoning over natural numbers: what a block, a text, a code by a key come to. -/
import Derived.WalkKit
import Derived.Lib.Hide
namespace Go.Proofs.YtfhjfpgfbeiacaaDoor.Ha
/-- a word turned right by n. -/
def rotr (x n : Nat) : Nat := 2 ^ (32 - n) * (x % 2 ^ n) + x / 2 ^ n
def sig0 (x : Nat) : Nat := rotr x 7 ^^^ rotr x 18 ^^^ x / 8
def sig1 (x : Nat) : Nat := rotr x 17 ^^^ rotr x 19 ^^^ x / 1024
def Sig0 (x : Nat) : Nat := rotr x 2 ^^^ rotr x 13 ^^^ rotr x 22
def Sig1 (x : Nat) : Nat := rotr x 6 ^^^ rotr x 11 ^^^ rotr x 25
def chs (e f g : Nat) : Nat := (e &&& f) ^^^ ((4294967295 - e) &&& g)
def mjs (a b c : Nat) : Nat := (a &&& b) ^^^ (a &&& c) ^^^ (b &&& c)
def kk : List Nat := [
  1116352408, 1899447441, 3049323471, 3921009573, 961987163, 1508970993, 2453635748, 2870763221,
  3624381080, 310598401, 607225278, 1426881987, 1925078388, 2162078206, 2614888103, 3248222580,
  3835390401, 4022224774, 264347078, 604807628, 770255983, 1249150122, 1555081692, 1996064986,
  2554220882, 2821834349, 2952996808, 3210313671, 3336571891, 3584528711, 113926993, 338241895,
  666307205, 773529912, 1294757372, 1396182291, 1695183700, 1986661051, 2177026350, 2456956037,
  2730485921, 2820302411, 3259730800, 3345764771, 3516065817, 3600352804, 4094571909, 275423344,
  430227734, 506948616, 659060556, 883997877, 958139571, 1322822218, 1537002063, 1747873779,
  1955562222, 2024104815, 2227730452, 2361852424, 2428436474, 2756734187, 3204031479, 3329325298]
def h0 : List Nat := [1779033703, 3144134277, 1013904242, 2773480762, 1359893119, 2600822924, 528734635, 1541459225]
/-- four bytes, the greatest first. -/
def be4 (a b c d : Nat) : Nat := a * 16777216 + b * 65536 + c * 256 + d
/-- the first 16 words of a block. -/
def w16 (m : Nat → Nat) : List Nat := (List.range 16).map fun i => be4 (m (4 * i)) (m (4 * i + 1)) (m (4 * i + 2)) (m (4 * i + 3))
/-- the word behind those of l. -/
def nxw (l : List Nat) : Nat := (l.getD (l.length - 16) 0 + sig0 (l.getD (l.length - 15) 0) + l.getD (l.length - 7) 0 + sig1 (l.getD (l.length - 2) 0)) % 4294967296
def wN (m : Nat → Nat) : Nat → List Nat
  | 0 => w16 m
  | k + 1 => wN m k ++ [nxw (wN m k)]
/-- a round. -/
structure St where
  a : Nat
  b : Nat
  c : Nat
  d : Nat
  e : Nat
  f : Nat
  g : Nat
  h : Nat
def t1s (s : St) (k w : Nat) : Nat := (s.h + Sig1 s.e + chs s.e s.f s.g + k + w) % 4294967296
def t2s (s : St) : Nat := (Sig0 s.a + mjs s.a s.b s.c) % 4294967296
def rnd (s : St) (k w : Nat) : St := ⟨(t1s s k w + t2s s) % 4294967296, s.a, s.b, s.c, (s.d + t1s s k w) % 4294967296, s.e, s.f, s.g⟩
def St.of (H : List Nat) : St := ⟨H.getD 0 0, H.getD 1 0, H.getD 2 0, H.getD 3 0, H.getD 4 0, H.getD 5 0, H.getD 6 0, H.getD 7 0⟩
def St.list (s : St) : List Nat := [s.a, s.b, s.c, s.d, s.e, s.f, s.g, s.h]
def rnds (ws : List Nat) (s : St) : Nat → St
  | 0 => s
  | k + 1 => rnd (rnds ws s k) (kk.getD k 0) (ws.getD k 0)
def addS (H : List Nat) (s : St) : List Nat :=
  [(H.getD 0 0 + s.a) % 4294967296, (H.getD 1 0 + s.b) % 4294967296, (H.getD 2 0 + s.c) % 4294967296, (H.getD 3 0 + s.d) % 4294967296,
   (H.getD 4 0 + s.e) % 4294967296, (H.getD 5 0 + s.f) % 4294967296, (H.getD 6 0 + s.g) % 4294967296, (H.getD 7 0 + s.h) % 4294967296]
/-- the state behind a block. -/
def cmp (H : List Nat) (m : Nat → Nat) : List Nat := addS H (rnds (wN m 48) (St.of H) 64)
/-- a byte of a text. -/
def byte (t : List Int) (j : Nat) : Nat := (t.getD j 0).toNat
/-- the state behind the first n blocks of a text. -/
def stN (t : List Int) : Nat → List Nat
  | 0 => h0
  | n + 1 => cmp (stN t n) (fun j => byte t (64 * n + j))
/-- noughts behind a text and its bit. -/
def pad0 (n : Nat) : Nat := (64 + 55 - n % 64) % 64
/-- what closes a text of n bytes. -/
def padS (n : Nat) : List Int := (128 : Int) :: (List.replicate (pad0 n) 0 ++ (List.range 8).map fun i => (((n * 8) % 18446744073709551616 / 2 ^ (56 - 8 * i) % 256 : Nat) : Int))
/-- a state's bytes. -/
def outS (H : List Nat) : List Int := (List.range 32).map fun i => ((H.getD (i / 4) 0 / 2 ^ (24 - 8 * (i % 4)) % 256 : Nat) : Int)
def shaS (t : List Int) : List Int := outS (stN (t ++ padS t.length) ((t.length + pad0 t.length + 9) / 64))
def keyS (k : List Int) : List Int := if 64 < k.length then shaS k else k
def padK (k : List Int) (x : Nat) : List Int := (List.range 64).map fun i => ((byte (keyS k) i ^^^ x : Nat) : Int)
def macS (k t : List Int) : List Int := shaS (padK k 92 ++ shaS (padK k 54 ++ t))
/-- so many blocks that a key expands to, with the last of them. -/
def expN (k info : List Int) : Nat → List Int × List Int
  | 0 => ([], [])
  | n + 1 => let b := macS k ((expN k info n).2 ++ info ++ [(((n + 1) % 256 : Nat) : Int)]); ((expN k info n).1 ++ b, b)
theorem pad0_len (n : Nat) : (n + pad0 n + 9) % 64 = 0 := by unfold pad0; omega
theorem rotr_lt (x n : Nat) (h : x < 4294967296) (hn : n ≤ 32) : rotr x n < 4294967296 := by
  have e : (4294967296 : Nat) = 2 ^ (32 - n) * 2 ^ n := by rw [← Nat.pow_add, show 32 - n + n = 32 by omega]
  unfold rotr
  have h1 : x % 2 ^ n ≤ 2 ^ n - 1 := by have := Nat.mod_lt x (Nat.pow_pos (n := n) (show 0 < 2 by omega)); omega
  have h2 : x / 2 ^ n < 2 ^ (32 - n) := by rw [Nat.div_lt_iff_lt_mul (Nat.pow_pos (by omega)), ← e]; exact h
  have h3 : 2 ^ (32 - n) * (x % 2 ^ n) ≤ 2 ^ (32 - n) * (2 ^ n - 1) := Nat.mul_le_mul_left _ h1
  rw [Nat.mul_sub, Nat.mul_one, ← e] at h3
  have h4 : 2 ^ (32 - n) ≤ 4294967296 := by rw [e]; exact Nat.le_mul_of_pos_right _ (Nat.pow_pos (by omega))
  omega
theorem rotr_step (x n : Nat) (hn : n < 32) : rotr x (n + 1) = rotr x n / 2 + rotr x n % 2 * 2147483648 := by
  unfold rotr
  obtain ⟨q, hq⟩ : ∃ q, x / 2 ^ n = q := ⟨_, rfl⟩
  obtain ⟨r, hr⟩ : ∃ r, x % 2 ^ n = r := ⟨_, rfl⟩
  have e1 : x / 2 ^ (n + 1) = q / 2 := by rw [Nat.pow_succ, ← Nat.div_div_eq_div_mul, hq]
  have e2 : x % 2 ^ (n + 1) = r + 2 ^ n * (q % 2) := by rw [Nat.pow_succ, Nat.mod_mul, hq, hr]
  have e3 : 2 ^ (32 - n) = 2 ^ (32 - (n + 1)) * 2 := by rw [← Nat.pow_succ]; congr 1; omega
  have e4 : 2 ^ (32 - (n + 1)) * 2 ^ n = 2147483648 := by rw [← Nat.pow_add, show 32 - (n + 1) + n = 31 by omega]
  rw [e1, e2, hq, hr, e3, Nat.mul_add, ← Nat.mul_assoc, e4]
  obtain ⟨p, hp⟩ : ∃ p, 2 ^ (32 - (n + 1)) = p := ⟨_, rfl⟩
  rw [hp, Nat.mul_right_comm]
  have : p * r * 2 = 2 * (p * r) := by omega
  rw [this]
  omega
theorem rotr_or (x n : Nat) (h : x < 4294967296) (hn : n ≤ 32) : x * 2 ^ (32 - n) % 4294967296 ||| x / 2 ^ n = rotr x n := by
  have e : (4294967296 : Nat) = 2 ^ (32 - n) * 2 ^ n := by rw [← Nat.pow_add, show 32 - n + n = 32 by omega]
  have h2 : x / 2 ^ n < 2 ^ (32 - n) := by rw [Nat.div_lt_iff_lt_mul (Nat.pow_pos (by omega)), ← e]; exact h
  rw [e, Nat.mul_comm x, Nat.mul_mod_mul_left]
  unfold rotr
  rw [Nat.two_pow_add_eq_or_of_lt h2]
theorem xor_lt {a b : Nat} (ha : a < 4294967296) (hb : b < 4294967296) : a ^^^ b < 4294967296 := Nat.xor_lt_two_pow (n := 32) ha hb
theorem and_lt {a b : Nat} (ha : a < 4294967296) : a &&& b < 4294967296 := Nat.lt_of_le_of_lt Nat.and_le_left ha
theorem sig0_lt {x : Nat} (h : x < 4294967296) : sig0 x < 4294967296 := xor_lt (xor_lt (rotr_lt _ _ h (by omega)) (rotr_lt _ _ h (by omega))) (by omega)
theorem sig1_lt {x : Nat} (h : x < 4294967296) : sig1 x < 4294967296 := xor_lt (xor_lt (rotr_lt _ _ h (by omega)) (rotr_lt _ _ h (by omega))) (by omega)
theorem Sig0_lt {x : Nat} (h : x < 4294967296) : Sig0 x < 4294967296 := xor_lt (xor_lt (rotr_lt _ _ h (by omega)) (rotr_lt _ _ h (by omega))) (rotr_lt _ _ h (by omega))
theorem Sig1_lt {x : Nat} (h : x < 4294967296) : Sig1 x < 4294967296 := xor_lt (xor_lt (rotr_lt _ _ h (by omega)) (rotr_lt _ _ h (by omega))) (rotr_lt _ _ h (by omega))
theorem chs_lt {e f g : Nat} (h : e < 4294967296) : chs e f g < 4294967296 := xor_lt (and_lt h) (and_lt (by omega))
theorem mjs_lt {a b c : Nat} (h : a < 4294967296) (hb : b < 4294967296) : mjs a b c < 4294967296 := xor_lt (xor_lt (and_lt h) (and_lt h)) (and_lt hb)
def St.ok (s : St) : Prop := s.a < 4294967296 ∧ s.b < 4294967296 ∧ s.c < 4294967296 ∧ s.d < 4294967296 ∧ s.e < 4294967296 ∧ s.f < 4294967296 ∧ s.g < 4294967296 ∧ s.h < 4294967296
theorem rnd_ok {s : St} (h : s.ok) (k w : Nat) : (rnd s k w).ok := ⟨Nat.mod_lt _ (by omega), h.1, h.2.1, h.2.2.1, Nat.mod_lt _ (by omega), h.2.2.2.2.1, h.2.2.2.2.2.1, h.2.2.2.2.2.2.1⟩
theorem rnds_ok {ws : List Nat} {s : St} (h : s.ok) : ∀ n, (rnds ws s n).ok
  | 0 => h
  | n + 1 => rnd_ok (rnds_ok h n) _ _
def HOk (H : List Nat) : Prop := H.length = 8 ∧ ∀ x ∈ H, x < 4294967296
theorem getD_lt {l : List Nat} (h : ∀ x ∈ l, x < 4294967296) (j : Nat) : l.getD j 0 < 4294967296 := by
  rw [List.getD]
  rcases Nat.lt_or_ge j l.length with hj | hj
  · rw [List.getElem?_eq_getElem hj]; exact h _ (List.getElem_mem hj)
  · rw [List.getElem?_eq_none hj]; simp
theorem HOk.st {H : List Nat} (h : HOk H) : (St.of H).ok := ⟨getD_lt h.2 _, getD_lt h.2 _, getD_lt h.2 _, getD_lt h.2 _, getD_lt h.2 _, getD_lt h.2 _, getD_lt h.2 _, getD_lt h.2 _⟩
theorem h0_ok : HOk h0 := by unfold HOk h0; decide
theorem addS_ok (H : List Nat) (s : St) : HOk (addS H s) := by
  refine ⟨rfl, fun x hx => ?_⟩
  simp only [addS, List.mem_cons, List.not_mem_nil, or_false] at hx
  rcases hx with rfl | rfl | rfl | rfl | rfl | rfl | rfl | rfl <;> exact Nat.mod_lt _ (by omega)
theorem cmp_ok (H : List Nat) (m : Nat → Nat) : HOk (cmp H m) := addS_ok _ _
theorem stN_ok (t : List Int) : ∀ n, HOk (stN t n)
  | 0 => h0_ok
  | n + 1 => cmp_ok _ _
theorem wN_len (m : Nat → Nat) : ∀ k, (wN m k).length = 16 + k
  | 0 => by simp [wN, w16]
  | k + 1 => by simp [wN, wN_len m k]; omega
theorem be4_lt {a b c d : Nat} (ha : a < 256) (hb : b < 256) (hc : c < 256) (hd : d < 256) : be4 a b c d < 4294967296 := by unfold be4; omega
theorem wN_lt {m : Nat → Nat} (hm : ∀ j, m j < 256) : ∀ k, ∀ x ∈ wN m k, x < 4294967296
  | 0 => by
    intro x hx
    simp only [wN, w16, List.mem_map] at hx
    obtain ⟨i, _, rfl⟩ := hx
    exact be4_lt (hm _) (hm _) (hm _) (hm _)
  | k + 1 => by
    intro x hx
    simp only [wN, List.mem_append, List.mem_singleton] at hx
    rcases hx with hx | rfl
    · exact wN_lt hm k x hx
    · exact Nat.mod_lt _ (by omega)
theorem cmp_congr {H : List Nat} {m m' : Nat → Nat} (h : ∀ j, j < 64 → m j = m' j) : cmp H m = cmp H m' := by
  have e : w16 m = w16 m' := by
    unfold w16
    refine List.map_congr_left fun i hi => ?_
    rw [List.mem_range] at hi
    rw [h _ (by omega), h _ (by omega), h _ (by omega), h _ (by omega)]
  have e2 : ∀ k, wN m k = wN m' k := by
    intro k
    induction k with
    | zero => exact e
    | succ k ih => simp only [wN, ih]
  unfold cmp
  rw [e2]
/-- only what stands ahead of a block tells its state. -/
theorem stN_congr {t t' : List Int} : ∀ n, (∀ j, j < 64 * n → byte t j = byte t' j) → stN t n = stN t' n
  | 0, _ => rfl
  | n + 1, h => by
    simp only [stN]
    rw [stN_congr n (fun j hj => h j (by omega))]
    exact cmp_congr fun j hj => h _ (by omega)
theorem byte_append_left {t u : List Int} {j : Nat} (h : j < t.length) : byte (t ++ u) j = byte t j := by
  unfold byte
  rw [List.getD, List.getElem?_append_left h, List.getD]
theorem byte_append_right {t u : List Int} {j : Nat} (h : t.length ≤ j) : byte (t ++ u) j = byte u (j - t.length) := by
  unfold byte
  rw [List.getD, List.getElem?_append_right h, List.getD]
theorem stN_append (t u : List Int) (n : Nat) (h : 64 * n ≤ t.length) : stN (t ++ u) n = stN t n := stN_congr n fun j hj => byte_append_left (by omega)
theorem padS_len (n : Nat) : (padS n).length = pad0 n + 9 := by simp [padS]
theorem outS_len (H : List Nat) : (outS H).length = 32 := by simp [outS]
theorem outS_byte (H : List Nat) : ∀ x ∈ outS H, 0 ≤ x ∧ x ≤ 255 := by
  intro x hx
  simp only [outS, List.mem_map] at hx
  obtain ⟨i, _, rfl⟩ := hx
  omega
theorem shaS_len (t : List Int) : (shaS t).length = 32 := outS_len _
theorem shaS_byte (t : List Int) : ∀ x ∈ shaS t, 0 ≤ x ∧ x ≤ 255 := outS_byte _
set_option maxRecDepth 100000 in
theorem sha_abc : byte (shaS [97, 98, 99]) 0 = 186 ∧ byte (shaS [97, 98, 99]) 31 = 173 := by decide +kernel
end Go.Proofs.YtfhjfpgfbeiacaaDoor.Ha
