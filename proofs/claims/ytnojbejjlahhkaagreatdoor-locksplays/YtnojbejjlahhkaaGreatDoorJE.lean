/-
  What is proved here: the program's Lock and the document's own answer alike; Great; the two side by side in memory; over this program.
-/
import Derived.Test.YtnojbejjlahhkaaGreatDoorJD
import Derived.Test.YtnojbejjlahhkaaGreatDoorHH
namespace Go.Proofs.YtnojbejjlahhkaaGreatDoor
open Go.RowKit Go.Extern.Stop Go.Stop Go.Extern

/-- Lock has one reason -/
theorem LkErr.one {L : Lk} {who : Int} {keys : List (List UInt8)} {n a n' a' : Int} (h : LkErr L who keys n a) (h' : LkErr L who keys n' a') : n = n' ∧ a = a' := by
  rcases h with ⟨h0, h1, h2⟩ | ⟨h0, i, s, h1, h2, h3, h4, h5⟩ | ⟨h0, h1, h2, h3, h4⟩ <;> rcases h' with ⟨g0, g1, g2⟩ | ⟨g0, i', s', g1, g2, g3, g4, g5⟩ | ⟨g0, g1, g2, g3, g4⟩
  · exact ⟨by omega, by omega⟩
  · omega
  · omega
  · omega
  · rcases Nat.lt_trichotomy i i' with e | e | e
    · have := g2 i s e h1; omega
    · subst e
      rw [h1] at g1
      cases g1
      exact ⟨by omega, by omega⟩
    · have := h2 i' s' e g1; omega
  · have := g1 i s h1; omega
  · omega
  · have := h1 i' s' g1; omega
  · exact ⟨by omega, by omega⟩
theorem LkErr.not {L : Lk} {who : Int} {keys : List (List UInt8)} {n a : Int} (h : LkErr L who keys n a) (h0 : 0 ≤ who) (hb : ∀ (j : Nat) t, keys[j]? = some t → barE L who t = 0) (hn : (puts L who keys).length ≤ 128) : False := by
  rcases h with ⟨g0, _, _⟩ | ⟨_, i, s, g1, _, g3, g4, _⟩ | ⟨_, _, g2, _, _⟩
  · omega
  · have := hb i s g1; omega
  · omega
theorem LkErr.num {L : Lk} {who : Int} {keys : List (List UInt8)} {n a : Int} (h : LkErr L who keys n a) : n = 1 ∨ n = 81 ∨ n = 71 := by
  rcases h with ⟨_, g, _⟩ | ⟨_, _, _, _, _, _, g, _⟩ | ⟨_, _, _, g, _⟩
  · exact Or.inl g
  · exact g.elim Or.inl (fun e => Or.inr (Or.inl e))
  · exact Or.inr (Or.inr g)
/-- the program's Lock and the document's own answer alike -/
theorem locks_alike {L L1 L2 : Lk} {who : Int} {keys : List (List UInt8)} {w' : World} {B : Nat} {er : Value} {n : Int} {s : ByteArray} {a : Int} (h : LockIs L who keys w' B er L1) (g : DLockIs L who keys n s a L2) :
    L2 = L1 ∧ ((er = .nilIface ∧ n = 0) ∨ (One w' (B ≤ ·) er n ⟨#[108, 111, 99, 107]⟩ a ∧ s = ⟨#[108, 111, 99, 107]⟩ ∧ (n = 1 ∨ n = 81 ∨ n = 71))) := by
  rcases h with ⟨n1, a1, h1, h2, h3⟩ | ⟨h1, h2, h3, h4, h5⟩ <;> rcases g with ⟨g1, g2, g3⟩ | ⟨g1, g2, g3, g4, g5, g6, g7⟩
  · obtain ⟨e1, e2⟩ := h3.one g1
    subst e1 e2
    exact ⟨by rw [g3, h2], Or.inr ⟨h1, g2, g1.num⟩⟩
  · exact (h3.not g4 g5 g7).elim
  · exact (g1.not h2 h3 h5).elim
  · exact ⟨by rw [g6, h4], Or.inl ⟨h1, g1⟩⟩

def FewBool (l : List Op8) (e : Ending) : Prop := ∃ g : Bool, e = .returned (.bool g) ∧ (g = false → ∀ o ∈ l, o.2.2.length ≤ 3000)
set_option maxHeartbeats 4000000 in
theorem great08_few (A : Nat → Prop) (v : Value) (l : List Op8) (w : World) (hv : Ops8In w A v l) (hn : l.length ≤ maxLen) (hok : ∀ o ∈ l, Op8Ok o) :
    Calls Tryz.prog 6 #[v] w fun e w' => FewBool l e ∧ w' = w := by
  have HV := hideIt hv
  have HZ := hideIt hok
  obtain ⟨a, cap, rfl⟩ := hv.form
  unfold maxLen at hn
  clear hv hok
  go_enter Tryz.func6, Tryz.ntmps6
  go_wp2
  go_loop [3, 4] (fun n i => ∃ (k : Nat) (m : Int), k ≤ l.length ∧ i = .int .i64 k ∧ n = .int .i64 m ∧ 0 ≤ m ∧ m ≤ 7000 ∧ Hid (m < 3000 → ∀ (j : Nat) o, j < k → l[j]? = some o → o.2.2.length ≤ 3000)) (fun _ i => l.length - (intOf i).toNat)
  case atStart => exact ⟨0, 0, Nat.zero_le _, rfl, rfl, by omega, by omega, fun _ j o hj => by omega⟩
  case round =>
    obtain ⟨k, m, hk, rfl, rfl, hm0, hm7, HM⟩ := hrel
    by_cases hlt : k < l.length
    · by_cases hm : m < 3000
      · obtain ⟨o, ho⟩ : ∃ o, l[k]? = some o := ⟨l[k], by simp [hlt]⟩
        obtain ⟨b, off, u, rfl, _, c0, c1, c2, hu⟩ := HV.out.at ho
        obtain ⟨au, cu, rfl⟩ := hu.form
        have hos := (HZ.out o (List.mem_of_getElem? ho)).2.2.1
        unfold maxLen at hos
        have HO := hideIt ho
        clear ho hu
        go_wp2
        refine ⟨⟨k + 1, m + 5 + min (o.2.2.length : Int) 3000, by omega, by go_num, ?_, by omega, by omega, hideIt (fun hmm j o' hj ho' => ?_)⟩, by simp [intOf]; omega⟩
        · first | go_num | rfl
        · by_cases e : j = k
          · subst e
            rw [HO.out] at ho'
            cases ho'
            omega
          · exact HM.out hm j o' (by omega) ho'
      · go_wp2
        go_ret
        exact ⟨⟨true, rfl, fun h => by cases h⟩, rfl⟩
    · go_wp2
      go_ret
      obtain rfl : k = l.length := by omega
      refine ⟨⟨_, rfl, fun h o ho => ?_⟩, rfl⟩
      obtain ⟨j, hj⟩ := List.getElem?_of_mem ho
      exact HM.out (by simp at h; omega) j o (List.getElem?_eq_some_iff.1 hj).1 hj

/-- the two locks side by side: the program's at p, the document's at q -/
structure Pl (w0 w : World) (p q : Nat) (O Q : Nat → Prop) (L M : Lk) : Prop where
  env : Env w0 w
  st : LkSt w p O L
  ds : DLk w q Q M
  low : ∀ k, O k → w0.heap.size ≤ k
  lowq : ∀ k, Q k → w0.heap.size ≤ k
  off : ∀ k, O k → ¬ Q k
theorem Pl.next {w0 w w' : World} {p q : Nat} {O Q : Nat → Prop} {L M : Lk} (h : Pl w0 w p q O Q L M) (hb : Below w.heap.size w w') : Pl w0 w' p q O Q L M :=
  ⟨h.env.next hb, h.st.next hb, h.ds.next hb, h.low, h.lowq, h.off⟩
theorem Pl.move {w0 w w' : World} {p q : Nat} {O O' Q : Nat → Prop} {L L' M : Lk} (h : Pl w0 w p q O Q L M) (hs : LkSt w' p O' L') (hg : Move w O w' O') : Pl w0 w' p q O' Q L' M :=
  ⟨h.env.turned hg.turn h.low, hs, h.ds.kept (hg.turn.kept (fun k hk _ o => h.off k o hk)) hg.turn.size, fun k hk => by
    rcases hg.own k hk with e | e
    · exact h.low k e
    · exact Nat.le_trans h.env.1.size e, h.lowq, fun k hk hq => by
    rcases hg.own k hk with e | e
    · exact h.off k e hq
    · have := h.ds.lt k hq; omega⟩
theorem Pl.turn {w0 w w' : World} {p q : Nat} {O Q : Nat → Prop} {L L' M : Lk} (h : Pl w0 w p q O Q L M) (hs : LkSt w' p O L') (hg : Turn O w w') : Pl w0 w' p q O Q L' M := h.move hs ⟨hg, fun _ h => Or.inl h⟩
theorem LkSt.kept {w w' : World} {p : Nat} {O : Nat → Prop} {L : Lk} (h : LkSt w p O L) (hk : Kept O w w') (hs : w.heap.size ≤ w'.heap.size) : LkSt w' p O L := by
  obtain ⟨m, c0, f0, hm, o1, o2, o3, r⟩ := h
  obtain ⟨es, clock, hmb, F⟩ := hm
  have hb := hk p o1 (lt_of_cell c0)
  exact ⟨m, (World.cell?_of_block (a := ⟨p, 0, none⟩) hb).trans c0, (World.frozen?_of_block (a := ⟨p, 0, none⟩) hb).trans f0, ⟨es, clock, (hk m o2 (o3 m o2)).trans hmb, F⟩, o1, o2, fun k hk => Nat.lt_of_lt_of_le (o3 k hk) hs, r⟩
theorem DLk.self {w : World} {q : Nat} {O : Nat → Prop} {L : Lk} (h : DLk w q O L) : O q := by
  obtain ⟨_, _, _, o, _⟩ := h
  exact o
theorem Pl.moveQ {w0 w w' : World} {p q : Nat} {O Q Q' : Nat → Prop} {L M M' : Lk} (h : Pl w0 w p q O Q L M) (hs : DLk w' q Q' M') (hg : MoveQ w q Q w' Q') : Pl w0 w' p q O Q' L M' :=
  ⟨h.env.turned hg.turn (fun k hk => by rw [hk]; exact h.lowq q h.ds.self), h.st.kept (hg.turn.kept (fun k hk _ o => h.off k hk (by rw [o]; exact h.ds.self))) hg.turn.size, hs, h.low, fun k hk => by
    rcases hg.own k hk with e | e
    · exact h.lowq k e
    · exact Nat.le_trans h.env.1.size e, fun k hk hq => by
    rcases hg.own k hq with e | e
    · exact h.off k hk e
    · have := h.st.lt k hk; omega⟩
/-- the room of the call at hand -/
structure OpAt (w0 w : World) (ob : Nat) (O Q : Nat → Prop) (o : Op8) (u : Value) : Prop where
  who : w.cell? ⟨ob, 1, none⟩ = some (.int .i64 o.2.1)
  keys : w.cell? ⟨ob, 2, none⟩ = some u
  offO : ¬ O ob
  offQ : ¬ Q ob
  ks : KeysIn w (· < w0.heap.size) u o.2.2
theorem OpAt.next {w0 w w' : World} {ob : Nat} {O Q : Nat → Prop} {o : Op8} {u : Value} (h : OpAt w0 w ob O Q o u) (hb : Below w.heap.size w w') : OpAt w0 w' ob O Q o u :=
  ⟨(hb.cell (lt_of_cell h.who)).trans h.who, (hb.cell (lt_of_cell h.keys)).trans h.keys, h.offO, h.offQ, RowIn.kept h.ks (Kept.of_all hb)⟩
theorem OpAt.move {w0 w w' : World} {ob : Nat} {O O' Q : Nat → Prop} {o : Op8} {u : Value} (h : OpAt w0 w ob O Q o u) (hg : Move w O w' O') (hl : ∀ k, O k → w0.heap.size ≤ k) : OpAt w0 w' ob O' Q o u :=
  have hk : Kept (fun k => k = ob) w w' := hg.turn.kept (fun k hk _ e => h.offO (by rw [← hk]; exact e))
  ⟨hk.cell (a := ⟨ob, 1, none⟩) rfl h.who, hk.cell (a := ⟨ob, 2, none⟩) rfl h.keys, hg.not (lt_of_cell h.who) h.offO, h.offQ, RowIn.kept h.ks (hg.turn.kept (fun k hk _ e => by have := hl k e; omega))⟩
theorem OpAt.moveQ {w0 w w' : World} {ob q : Nat} {O Q Q' : Nat → Prop} {o : Op8} {u : Value} (h : OpAt w0 w ob O Q o u) (hg : MoveQ w q Q w' Q') (hq : Q q) (hl : ∀ k, Q k → w0.heap.size ≤ k) : OpAt w0 w' ob O Q' o u :=
  have hk : Kept (fun k => k = ob) w w' := hg.turn.kept (fun k hk _ e => h.offQ (by rw [← hk, e]; exact hq))
  ⟨hk.cell (a := ⟨ob, 1, none⟩) rfl h.who, hk.cell (a := ⟨ob, 2, none⟩) rfl h.keys, h.offO, (hg.move hq).not (lt_of_cell h.who) h.offQ, RowIn.kept h.ks (hg.turn.kept (fun k hk _ e => by have := hl k (by rw [e]; exact hq); omega))⟩
end Go.Proofs.YtnojbejjlahhkaaGreatDoor
