/-
  What is proved here: the statements' own Op (cohortlaw08) in memory, Great, SameKeys, head; over this program.
-/
import Derived.Test.YtnojbejjlahhkaaGreatDoorHE
import Derived.BigQuiet
namespace Go.Proofs.YtnojbejjlahhkaaGreatDoor
open Go.RowKit Go.Extern.Stop Go.Stop Go.Extern

theorem KeysIn.of_own {w : World} {B : Nat} {v : Value} {l : List (List UInt8)} (h : w.ownsRow B 9 1 v l.length (strCells l)) : KeysIn w (fun k => B ≤ k) v l := RowIn.of_own h (fun _ h => h)
theorem KeysIn.below {w w' : World} {A : Nat → Prop} {v : Value} {l : List (List UInt8)} (h : KeysIn w A v l) (hb : Below w.heap.size w w') : KeysIn w' (· < w'.heap.size) v l :=
  RowIn.mono (RowIn.kept (RowIn.mono (A' := (· < w.heap.size)) h (fun _ _ h => h)) (Kept.of_below hb (fun _ h _ => h))) (fun _ _ h => h)

/-- a call: what, who, keys -/
abbrev Op8 := Int × Int × List (List UInt8)
def Op8Ok (o : Op8) : Prop := fits o.1 ∧ fits o.2.1 ∧ o.2.2.length ≤ maxLen ∧ ∀ s ∈ o.2.2, s.length ≤ maxLen
/-- a slice of calls -/
def Ops8In (w : World) (A : Nat → Prop) (v : Value) (l : List Op8) : Prop :=
  ∃ a cap, v = .slice a l.length cap ∧ ∀ (k : Nat) o, l[k]? = some o → ∃ b off u, a = some ⟨b, off, none⟩ ∧ A b ∧ w.cell? ⟨b, off + k * 3, none⟩ = some (.int .i64 o.1) ∧ w.cell? ⟨b, off + k * 3 + 1, none⟩ = some (.int .i64 o.2.1) ∧ w.cell? ⟨b, off + k * 3 + 2, none⟩ = some u ∧ KeysIn w A u o.2.2
theorem Ops8In.form {w : World} {A : Nat → Prop} {v : Value} {l : List Op8} (h : Ops8In w A v l) : ∃ a cap, v = .slice a l.length cap := by
  obtain ⟨a, cap, h1, _⟩ := h
  exact ⟨a, cap, h1⟩
theorem Ops8In.kept {w w' : World} {A : Nat → Prop} {v : Value} {l : List Op8} (h : Ops8In w A v l) (hk : Kept A w w') : Ops8In w' A v l := by
  obtain ⟨a, cap, h1, h2⟩ := h
  refine ⟨a, cap, h1, fun k o ho => ?_⟩
  obtain ⟨b, off, u, e1, e2, c0, c1, c2, hu⟩ := h2 k o ho
  exact ⟨b, off, u, e1, e2, hk.cell (a := ⟨b, off + k * 3, none⟩) e2 c0, hk.cell (a := ⟨b, off + k * 3 + 1, none⟩) e2 c1, hk.cell (a := ⟨b, off + k * 3 + 2, none⟩) e2 c2, RowIn.kept hu hk⟩
theorem Ops8In.at {w : World} {A : Nat → Prop} {a : Option Addr} {n cap : Nat} {l : List Op8} (h : Ops8In w A (.slice a n cap) l) {k : Nat} {o : Op8} (ho : l[k]? = some o) :
    ∃ b off u, a = some ⟨b, off, none⟩ ∧ A b ∧ w.cell? ⟨b, off + k * 3, none⟩ = some (.int .i64 o.1) ∧ w.cell? ⟨b, off + k * 3 + 1, none⟩ = some (.int .i64 o.2.1) ∧ w.cell? ⟨b, off + k * 3 + 2, none⟩ = some u ∧ KeysIn w A u o.2.2 := by
  obtain ⟨a', cap', e1, h2⟩ := h
  simp only [Value.slice.injEq] at e1
  obtain ⟨rfl, _, rfl⟩ := e1
  exact h2 k o ho

def AnyBool (e : Ending) : Prop := ∃ g : Bool, e = .returned (.bool g)
set_option maxHeartbeats 4000000 in
theorem great08_any (A : Nat → Prop) (v : Value) (l : List Op8) (w : World) (hv : Ops8In w A v l) (hn : l.length ≤ maxLen) (hok : ∀ o ∈ l, Op8Ok o) : Calls Tryz.prog 6 #[v] w fun e w' => AnyBool e ∧ w' = w := by
  have HV := hideIt hv
  have HZ := hideIt hok
  obtain ⟨a, cap, rfl⟩ := hv.form
  unfold maxLen at hn
  clear hv hok
  go_enter Tryz.func6, Tryz.ntmps6
  go_wp2
  go_loop [3, 4] (fun n i => ∃ (k : Nat) (m : Int), k ≤ l.length ∧ i = .int .i64 k ∧ n = .int .i64 m ∧ 0 ≤ m ∧ m ≤ 7000) (fun _ i => l.length - (intOf i).toNat)
  case atStart => exact ⟨0, 0, Nat.zero_le _, rfl, rfl, by omega, by omega⟩
  case round =>
    obtain ⟨k, m, hk, rfl, rfl, hm0, hm7⟩ := hrel
    by_cases hlt : k < l.length
    · by_cases hm : m < 3000
      · obtain ⟨o, ho⟩ : ∃ o, l[k]? = some o := ⟨l[k], by simp [hlt]⟩
        obtain ⟨b, off, u, rfl, _, c0, c1, c2, hu⟩ := HV.out.at ho
        obtain ⟨au, cu, rfl⟩ := hu.form
        have hos := (HZ.out o (List.mem_of_getElem? ho)).2.2.1
        unfold maxLen at hos
        clear ho hu
        go_wp2
        exact ⟨⟨k + 1, _, by omega, by go_num, rfl, by go_num, by go_num⟩, by simp [intOf]; omega⟩
      · go_wp2
        go_ret
        exact ⟨⟨_, rfl⟩, rfl⟩
    · go_wp2
      go_ret
      exact ⟨⟨_, rfl⟩, rfl⟩

set_option maxRecDepth 100000 in
set_option maxHeartbeats 4000000 in
theorem SameKeys_any (A A2 : Nat → Prop) (va vb : Value) (a b : List (List UInt8)) (w : World) (ha : KeysIn w A va a) (hb : KeysIn w A2 vb b) (hl : a.length ≤ maxLen) :
    Calls Tryz.prog 19 #[va, vb] w fun e w' => e = .returned (.bool (decide (a = b))) ∧ Below w.heap.size w w' := by
  have HA := hideIt (RowIn.mono (A' := (· < w.heap.size)) ha (fun _ _ h => h))
  have HB := hideIt (RowIn.mono (A' := (· < w.heap.size)) hb (fun _ _ h => h))
  obtain ⟨aa, ca, rfl⟩ := ha.form
  obtain ⟨ab, cb, rfl⟩ := KeysIn.form hb
  unfold maxLen at hl
  clear ha hb
  by_cases hne : a.length = b.length
  · have HL := hideIt hne
    obtain ⟨n, hn⟩ : ∃ n, n = b.length := ⟨_, rfl⟩
    rw [← hn] at HB ⊢
    have HNB := hideIt hn
    have hna : n = a.length := by omega
    rw [hna] at HB ⊢
    clear hne hn hna
    go_enter Tryz.func19, Tryz.ntmps19
    go_wp2
    go_loopw [5] (fun i wr => ∃ k : Nat, k ≤ a.length ∧ i = .int .i64 k ∧ Hid (a.take k = b.take k) ∧ Hid (Below w.heap.size w wr)) (fun i _ => a.length - (intOf i).toNat)
    case atStart => exact ⟨0, Nat.zero_le _, rfl, rfl, Below.refl _ _⟩
    case round =>
      obtain ⟨k, hk, rfl, HT, HBW⟩ := hrel
      by_cases hlt : k < a.length
      · obtain ⟨x, hx⟩ : ∃ x, a[k]? = some x := ⟨a[k], by simp [hlt]⟩
        obtain ⟨y, hy⟩ : ∃ y, b[k]? = some y := ⟨b[k]'(by have := HL.out; omega), by simp⟩
        have HA2 : Hid (KeysIn wr (· < w.heap.size) (.slice aa a.length ca) a) := hideIt (RowIn.kept HA.out (Kept.of_below HBW.out (fun _ h _ => h)))
        have HB2 : Hid (KeysIn wr (· < w.heap.size) (.slice ab a.length cb) b) := hideIt (by unfold KeysIn; rw [← HL.out]; exact RowIn.kept HB.out (Kept.of_below HBW.out (fun _ h _ => h)))
        obtain ⟨b1, off1, rfl, _, c0⟩ := KeysIn.at HA2.out hx
        obtain ⟨b2, off2, rfl, _, d0⟩ := KeysIn.at HB2.out hy
        have HTT : Hid (∀ e, x = y → e = k + 1 → a.take e = b.take e) := hideIt (fun e h1 h2 => by
          subst h1 h2
          obtain ⟨hx1, hx2⟩ := List.getElem?_eq_some_iff.1 hx
          obtain ⟨hy1, hy2⟩ := List.getElem?_eq_some_iff.1 hy
          rw [List.take_succ_eq_append_getElem hx1, List.take_succ_eq_append_getElem hy1, HT.out, hx2, hy2])
        have HNN : Hid (x ≠ y → a ≠ b) := hideIt (fun h1 h2 => by subst h2; rw [hx] at hy; cases hy; exact h1 rfl)
        clear hx hy
        cases hq : x == y with
        | true =>
          have HXY := hideIt (show x = y by simpa using hq)
          go_wp2_with fail
          go_quiet (fail)
          have HB3 := hideIt (HBW.out.trans ((below_drewN wr nq).mono HBW.out.size))
          go_wp2
          exact ⟨⟨k + 1, by omega, by go_num, HTT.out (k + 1) HXY.out rfl, HB3.out⟩, by simp [intOf]; omega⟩
        | false =>
          have HXY : Hid (decide (a = b) = false) := hideIt (decide_eq_false (HNN.out (by simpa using hq)))
          go_wp2_with fail
          go_quiet (fail)
          have HB3 := hideIt (HBW.out.trans ((below_drewN wr nq).mono HBW.out.size))
          go_wp2
          go_ret
          exact ⟨by rw [HXY.out]; rfl, HB3.out⟩
      · have HXY : Hid (decide (a = b) = true) := hideIt (decide_eq_true (by
          have h1 := HT.out
          rw [show k = a.length by omega, List.take_length] at h1
          rw [HL.out, List.take_length] at h1
          exact h1))
        go_wp2
        go_ret
        exact ⟨by rw [HXY.out]; rfl, HBW.out⟩
  · have HXY : Hid (decide (a = b) = false) := hideIt (decide_eq_false (fun e => hne (by rw [e])))
    have hne2 : ((a.length : Int) != (b.length : Int)) = true := by simp; omega
    go_enter Tryz.func19, Tryz.ntmps19
    go_wp2
    go_ret
    exact ⟨by rw [HXY.out]; rfl, Below.refl _ _⟩

/-- a world behind w0, with Locks -/
structure Ls (w0 w : World) (p : Nat) (O : Nat → Prop) (L : Lk) : Prop where
  env : Env w0 w
  st : LkSt w p O L
  low : ∀ k, O k → w0.heap.size ≤ k
theorem Ls.next {w0 w w' : World} {p : Nat} {O : Nat → Prop} {L : Lk} (h : Ls w0 w p O L) (hb : Below w.heap.size w w') : Ls w0 w' p O L := ⟨h.env.next hb, h.st.next hb, h.low⟩
theorem Ls.move {w0 w w' : World} {p : Nat} {O O' : Nat → Prop} {L L' : Lk} (h : Ls w0 w p O L) (hs : LkSt w' p O' L') (hg : Move w O w' O') : Ls w0 w' p O' L' :=
  ⟨h.env.turned hg.turn h.low, hs, fun k hk => by
    rcases hg.own k hk with e | e
    · exact h.low k e
    · exact Nat.le_trans h.env.1.size e⟩
theorem Ls.turn {w0 w w' : World} {p : Nat} {O : Nat → Prop} {L L' : Lk} (h : Ls w0 w p O L) (hs : LkSt w' p O L') (hg : Turn O w w') : Ls w0 w' p O L' := ⟨h.env.turned hg h.low, hs, h.low⟩
theorem Ls.new {w0 w w' : World} {p : Nat} (h : Env w0 w) (hs : LkSt w' p (fun k => w.heap.size ≤ k ∧ k < w'.heap.size) []) (hb : Below w.heap.size w w') : Ls w0 w' p (fun k => w.heap.size ≤ k ∧ k < w'.heap.size) [] := ⟨h.next hb, hs, fun _ hk => Nat.le_trans h.1.size hk.1⟩
theorem KeysIn.env {w0 w : World} {v : Value} {l : List (List UInt8)} (h : KeysIn w0 (· < w0.heap.size) v l) (he : Env w0 w) : KeysIn w (· < w0.heap.size) v l := RowIn.kept h (Kept.of_below he.1 (fun _ h _ => h))
theorem KeysIn.low {w0 w : World} {v : Value} {l : List (List UInt8)} (h : KeysIn w0 (· < w0.heap.size) v l) (he : Env w0 w) : KeysIn w (· < w.heap.size) v l := RowIn.mono (h.env he) (fun _ _ h => h)
theorem Ops8In.env {w0 w : World} {v : Value} {l : List Op8} (h : Ops8In w0 (· < w0.heap.size) v l) (he : Env w0 w) : Ops8In w (· < w0.heap.size) v l := h.kept (Kept.of_below he.1 (fun _ h _ => h))

/-- Lock answers nil, or an error -/
theorem lock_nil {L L' : Lk} {who : Int} {keys : List (List UInt8)} {w' : World} {B : Nat} {er : Value} (h : LockIs L who keys w' B er L') :
    (∃ ty y, er = .iface ty y) ∧ L' = L ∨ er = .nilIface ∧ 0 ≤ who ∧ L' = puts L who keys ∧ (puts L who keys).length ≤ 128 ∧ ∀ (j : Nat) t, keys[j]? = some t → barE L who t = 0 := by
  rcases h with ⟨n, at_, ho, e, _⟩ | ⟨h1, h2, h3, h4, h5⟩
  · exact Or.inl ⟨ho.iface, e⟩
  · exact Or.inr ⟨h1, h2, h4, h5, h3⟩

theorem lit_keys (w : World) (s t : List UInt8) : KeysIn (w.alloc (.cells #[.string ⟨s.toArray⟩, .string ⟨t.toArray⟩] 9)) (fun k => k = w.heap.size) (.slice (some ⟨w.heap.size, 0, none⟩) 2 2) [s, t] := by
  refine ⟨_, _, rfl, (fun e => nomatch e), fun k x hx => ⟨w.heap.size, 0, rfl, rfl, ?_⟩⟩
  match k with
  | 0 => simp [strCells, encStr] at hx; subst hx; rw [World.cell?_alloc_at _ _ _ _ rfl]; rfl
  | 1 => simp [strCells, encStr] at hx; subst hx; rw [World.cell?_alloc_at _ _ _ _ rfl]; rfl
  | k + 2 => simp [strCells] at hx
end Go.Proofs.YtnojbejjlahhkaaGreatDoor
