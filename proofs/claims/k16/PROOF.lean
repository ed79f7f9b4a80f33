import PyProof.Rows.All
import Wide.All
import OpenK.AllK
import Wide.FinOn
import PyProof.Rows.IntBool
import HandS.ForMost
import HandS.IsInst
import HandS.TupAny
import HandS.Conv
import HandS.RaiseMore
import PySem.Challenge.RW_drawnanew_k16_measured_sizes
set_option Elab.async false
set_option linter.all false
set_option maxRecDepth 100000
set_option maxHeartbeats 4000000
namespace D
open PySem PySem.Spec PyProof.Rows L2

/-! ### rules that the layer lacks -/
def bI (b : Bool) : Int := if b = true then 1 else 0
theorem op_mul_ib {X : Cx} : OpR X (binaryOp .Mult) (fun x y H Q => ∃ i k, x = .int i ∧ y = .bl k ∧ Q (.int (i * bI k)) H) := by
  intro pins s σ H x y v u Q I rx ry h
  obtain ⟨i, k, rfl, rfl, q⟩ := h
  obtain ⟨t, rfl⟩ := rx
  cases ry
  exact PySem.IntBool.mul_int_bool ⟨.int (i * bI k), H, I.tok _, ⟨_, rfl⟩, q⟩

/-! ### heaps: M the addresses that may be written -/
abbrev Ms := Addr → Prop
def Sx (M : Ms) (H H' : Hp) : Prop := ∀ a o, ¬ M a → H a = some o → H' a = some o
def one (b : Addr) : Ms := fun a => a = b
def also (M : Ms) (b : Addr) : Ms := fun a => M a ∨ a = b
/-- what may be written stands -/
def Mk (M : Ms) (H : Hp) : Prop := ∀ a, M a → H a ≠ none
theorem Sx.refl {M : Ms} {H : Hp} : Sx M H H := fun _ _ _ h => h
theorem Sx.trans {M : Ms} {H H1 H2 : Hp} (a : Sx M H H1) (b : Sx M H1 H2) : Sx M H H2 := fun c o n h => b c o n (a c o n h)
theorem Sx.le {M N : Ms} {H H' : Hp} (s : Sx M H H') (h : ∀ a, M a → N a) : Sx N H H' := fun a o n e => s a o (fun m => n (h a m)) e
theorem Sx.same {M : Ms} {H H' : Hp} (s : Same H H') : Sx M H H' := fun a o _ e => s a o e
theorem Sx.new {M : Ms} {H : Hp} {p : Addr} {o : HO} (h : H p = none) : Sx M H (upd H p o) := fun a u _ e => by
  rw [upd_ne (ne_of_none e h)]
  exact e
theorem Sx.put {M : Ms} {H : Hp} {p : Addr} {o : HO} (h : M p) : Sx M H (upd H p o) := fun a u n e => by
  rw [upd_ne (fun z => n (by rw [z]; exact h))]
  exact e
theorem same_new {H : Hp} {p : Addr} {o : HO} (h : H p = none) : Same H (upd H p o) := fun a u e => by
  rw [upd_ne (ne_of_none e h)]
  exact e
theorem Mk.step {M : Ms} {H H' : Hp} (m : Mk M H) (h : ∀ a, H a ≠ none → H' a ≠ none) : Mk M H' := fun a z => h a (m a z)
theorem there_new {H : Hp} {p a : Addr} {o : HO} (h : H a ≠ none) : upd H p o a ≠ none := by
  by_cases e : a = p
  · subst e
    rw [upd_same]
    exact fun z => nomatch z
  · rw [upd_ne e]
    exact h
/-- nothing goes -/
def Gr (H H' : Hp) : Prop := ∀ a, H a ≠ none → H' a ≠ none
theorem Gr.refl {H : Hp} : Gr H H := fun _ h => h
theorem Gr.trans {H H1 H2 : Hp} (a : Gr H H1) (b : Gr H1 H2) : Gr H H2 := fun c h => b c (a c h)
theorem Gr.upd {H : Hp} {p : Addr} {o : HO} : Gr H (upd H p o) := fun _ h => there_new h
theorem Gr.same {H H' : Hp} (s : Same H H') : Gr H H' := fun a h => by
  cases e : H a with
  | none => exact absurd e h
  | some o =>
    rw [s a o e]
    exact fun z => nomatch z
theorem Mk.gr {M : Ms} {H H' : Hp} (m : Mk M H) (g : Gr H H') : Mk M H' := fun a z => g a (m a z)
theorem Mk.out {M : Ms} {H : Hp} {p : Addr} (m : Mk M H) (h : H p = none) : ¬ M p := fun z => m p z h
theorem Mk.also {M : Ms} {H : Hp} {p : Addr} (m : Mk M H) (h : H p ≠ none) : Mk (also M p) H := fun a z => by
  rcases z with z | rfl
  · exact m a z
  · exact h
theorem ne_none {H : Hp} {p : Addr} {o : HO} (h : H p = some o) : H p ≠ none := by
  rw [h]
  exact fun z => nomatch z
theorem upd_there {H : Hp} {p : Addr} {o : HO} : upd H p o p ≠ none := by
  rw [upd_same]
  exact fun z => nomatch z

/-! ### lists and tuples that are read -/
theorem sx_rd {M : Ms} {H H' : Hp} {a : Addr} {u : HO} (s : Sx M H H') (n : ¬ M a) (h : Rd H a u) : Rd H' a u := by
  rcases h with h | ⟨o, h⟩
  · exact .inl (s a _ n h)
  · exact .inr ⟨o, s a _ n h⟩
theorem sx_l {K : PySem.W.Frag} {M : Ms} {H H' : Hp} {a : Addr} {xs : List V} (s : Sx M H H') (n : ¬ M a) (h : SqL K H a xs) : SqL K H' a xs := by
  rcases h with h | h
  · exact .inl (sx_rd s n h)
  · exact .inr h
theorem sx_t {K : PySem.W.Frag} {M : Ms} {H H' : Hp} {a : Addr} {xs : List V} (s : Sx M H H') (n : ¬ M a) (h : SqT K H a xs) : SqT K H' a xs := by
  rcases h with h | h
  · exact .inl (sx_rd s n h)
  · exact .inr h

/-! ### data -/
mutual
inductive Rp (M : Ms) (H : Hp) : V → PyData → Prop
  | non : Rp M H .non .none
  | bl (b : Bool) : Rp M H (.bl b) (.bool b)
  | int (i : Int) : Rp M H (.int i) (.int i)
  | str (x : Str) : Rp M H (.str x) (.str x)
  | lst {a : Addr} {xs : List V} {ds : List PyData} : ¬ M a → Rd H a (.lst xs) → RpAll M H xs ds → Rp M H (.ref a) (.list ds)
  | tup {a : Addr} {xs : List V} {ds : List PyData} : ¬ M a → Rd H a (.tup xs) → RpAll M H xs ds → Rp M H (.ref a) (.tuple ds)
inductive RpAll (M : Ms) (H : Hp) : List V → List PyData → Prop
  | nil : RpAll M H [] []
  | cons {v : V} {vs : List V} {d : PyData} {ds : List PyData} : Rp M H v d → RpAll M H vs ds → RpAll M H (v :: vs) (d :: ds)
end
section
variable {K : PySem.W.Frag} {M N : Ms} {H H' : Hp}
mutual
theorem Rp.imp (f : ∀ a u, ¬ M a → Rd H a u → ¬ N a) (fl : ∀ a u, ¬ M a → Rd H a u → Rd H' a u) : ∀ (d : PyData) (v : V), Rp M H v d → Rp N H' v d
  | .none, _, h => by cases h; exact .non
  | .bool b, _, h => by cases h; exact .bl b
  | .int i, _, h => by cases h; exact .int i
  | .str x, _, h => by cases h; exact .str x
  | .list ds, _, h => by
    cases h with
    | lst n s r => exact .lst (f _ _ n s) (fl _ _ n s) (RpAll.imp f fl ds _ r)
  | .tuple ds, _, h => by
    cases h with
    | tup n s r => exact .tup (f _ _ n s) (fl _ _ n s) (RpAll.imp f fl ds _ r)
  | .dict _, _, h => by cases h
theorem RpAll.imp (f : ∀ a u, ¬ M a → Rd H a u → ¬ N a) (fl : ∀ a u, ¬ M a → Rd H a u → Rd H' a u) : ∀ (ds : List PyData) (vs : List V), RpAll M H vs ds → RpAll N H' vs ds
  | [], _, h => by cases h; exact .nil
  | d :: ds, _, h => by
    cases h with
    | cons h1 h2 => exact .cons (Rp.imp f fl d _ h1) (RpAll.imp f fl ds _ h2)
end
theorem Rp.sx {v : V} {d : PyData} (s : Sx M H H') (h : Rp M H v d) : Rp M H' v d := Rp.imp (fun _ _ n _ => n) (fun _ _ n q => sx_rd s n q) d v h
theorem RpAll.sx {vs : List V} {ds : List PyData} (s : Sx M H H') (h : RpAll M H vs ds) : RpAll M H' vs ds := RpAll.imp (fun _ _ n _ => n) (fun _ _ n q => sx_rd s n q) ds vs h
/-- fewer that may be written -/
theorem Rp.less {v : V} {d : PyData} (f : ∀ a, N a → M a) (h : Rp M H v d) : Rp N H v d := Rp.imp (fun a _ n _ m => n (f a m)) (fun _ _ _ q => q) d v h
theorem RpAll.less {vs : List V} {ds : List PyData} (f : ∀ a, N a → M a) (h : RpAll M H vs ds) : RpAll N H vs ds := RpAll.imp (fun a _ n _ m => n (f a m)) (fun _ _ _ q => q) ds vs h

/-- an address that no datum reads: nothing stands there -/
theorem sql_kept {a p : Addr} {xs : List V} {o : HO} (h : SqL K H a xs) (n : H p = none) : SqL K (upd H p o) a xs := sx_l (M := fun _ => False) (Sx.new n) (fun z => z) h
theorem sqt_kept {a p : Addr} {xs : List V} {o : HO} (h : SqT K H a xs) (n : H p = none) : SqT K (upd H p o) a xs := sx_t (M := fun _ => False) (Sx.new n) (fun z => z) h

mutual
theorem Rp.dp : ∀ (d : PyData) (v : V), Rp M H v d → Dp K H v d
  | .none, _, h => by cases h; exact .non
  | .bool b, _, h => by cases h; exact .bl b
  | .int i, _, h => by cases h; exact .int i
  | .str x, _, h => by cases h; exact .str x
  | .list ds, _, h => by
    cases h with
    | lst n s r => exact .lst (.inl s) (RpAll.dp ds _ r)
  | .tuple ds, _, h => by
    cases h with
    | tup n s r => exact .tup (.inl s) (RpAll.dp ds _ r)
  | .dict _, _, h => by cases h
theorem RpAll.dp : ∀ (ds : List PyData) (vs : List V), RpAll M H vs ds → DpAll K H vs ds
  | [], _, h => by cases h; exact .nil
  | d :: ds, _, h => by
    cases h with
    | cons h1 h2 => exact .cons (Rp.dp d _ h1) (RpAll.dp ds _ h2)
end
theorem RpAll.length : ∀ {ds : List PyData} {vs : List V}, RpAll M H vs ds → vs.length = ds.length
  | [], _, h => by cases h; rfl
  | d :: ds, _, h => by
    cases h with
    | cons _ h2 =>
      rw [List.length_cons, List.length_cons, RpAll.length h2]
theorem RpAll.get : ∀ {ds : List PyData} {vs : List V} {i : Nat} {v : V}, RpAll M H vs ds → vs[i]? = some v → ∃ d, ds[i]? = some d ∧ Rp M H v d
  | [], _, i, v, h, e => by cases h; simp at e
  | d :: ds, _, 0, v, h, e => by
    cases h with
    | cons h1 _ =>
      have e1 := Option.some.inj e
      subst e1
      exact ⟨d, rfl, h1⟩
  | d :: ds, _, i + 1, v, h, e => by
    cases h with
    | cons _ h2 => exact RpAll.get (i := i) h2 e
theorem RpAll.getD : ∀ {ds : List PyData} {vs : List V} {i : Nat} {d : PyData}, RpAll M H vs ds → ds[i]? = some d → ∃ v, vs[i]? = some v ∧ Rp M H v d
  | [], _, i, v, h, e => by simp at e
  | d :: ds, _, 0, v, h, e => by
    cases h with
    | cons h1 _ =>
      have e1 := Option.some.inj e
      subst e1
      exact ⟨_, rfl, h1⟩
  | d :: ds, _, i + 1, v, h, e => by
    cases h with
    | cons _ h2 => exact RpAll.getD (i := i) h2 e
theorem RpAll.append : ∀ {ds es : List PyData} {vs us : List V}, RpAll M H vs ds → RpAll M H us es → RpAll M H (vs ++ us) (ds ++ es)
  | [], _, _, _, h, g => by cases h; exact g
  | d :: ds, _, _, _, h, g => by
    cases h with
    | cons h1 h2 => exact .cons h1 (RpAll.append h2 g)
theorem RpAll.take : ∀ (n : Nat) {ds : List PyData} {vs : List V}, RpAll M H vs ds → RpAll M H (vs.take n) (ds.take n)
  | 0, _, _, _ => .nil
  | n + 1, [], _, h => by cases h; exact .nil
  | n + 1, d :: ds, _, h => by
    cases h with
    | cons h1 h2 => exact .cons h1 (RpAll.take n h2)
theorem RpAll.drop : ∀ (n : Nat) {ds : List PyData} {vs : List V}, RpAll M H vs ds → RpAll M H (vs.drop n) (ds.drop n)
  | 0, _, _, h => h
  | n + 1, [], _, h => by cases h; exact .nil
  | n + 1, d :: ds, _, h => by
    cases h with
    | cons h1 h2 => exact RpAll.drop n h2
theorem RpAll.one {v : V} {d : PyData} (h : Rp M H v d) : RpAll M H [v] [d] := .cons h .nil
theorem RpAll.eraseIdx : ∀ (n : Nat) {ds : List PyData} {vs : List V}, RpAll M H vs ds → RpAll M H (vs.eraseIdx n) (ds.eraseIdx n)
  | _, [], _, h => by cases h; exact .nil
  | 0, d :: ds, _, h => by
    cases h with
    | cons h1 h2 => exact h2
  | n + 1, d :: ds, _, h => by
    cases h with
    | cons h1 h2 => exact .cons h1 (RpAll.eraseIdx n h2)
theorem RpAll.ints : ∀ (ns : List Int), RpAll M H (ns.map V.int) (ns.map PyData.int)
  | [] => .nil
  | n :: r => .cons (.int n) (RpAll.ints r)
theorem RpAll.ofInts : ∀ {ns : List Int} {vs : List V}, RpAll M H vs (ns.map PyData.int) → vs = ns.map V.int
  | [], _, h => by cases h; rfl
  | n :: r, _, h => by
    cases h with
    | cons h1 h2 =>
      cases h1
      rw [RpAll.ofInts h2]
      rfl
end

/-- a fresh address may be written from now on -/
theorem rd_ne {H : Hp} {a p : Addr} {u : HO} (h : Rd H a u) (n : H p = none) : a ≠ p := fun e => by
  subst e
  rcases h with h | ⟨o, h⟩ <;> rw [n] at h <;> cases h
theorem Rp.fresh {M : Ms} {H : Hp} {p : Addr} (hp : H p = none) : ∀ {d : PyData} {v : V}, Rp M H v d → Rp (also M p) H v d := fun {d v} h => Rp.imp (fun a u n r z => z.elim n fun e => rd_ne r hp e) (fun _ _ _ q => q) d v h
theorem RpAll.fresh {M : Ms} {H : Hp} {p : Addr} (hp : H p = none) {ds : List PyData} {vs : List V} (h : RpAll M H vs ds) : RpAll (also M p) H vs ds := RpAll.imp (fun a u n r z => z.elim n fun e => rd_ne r hp e) (fun _ _ _ q => q) ds vs h
theorem also_le {M : Ms} {p : Addr} : ∀ a, M a → also M p a := fun _ h => .inl h

/-! ### the bag of a script's numbers -/
structure Bag (K : PySem.W.Frag) (M : Ms) (H : Hp) (b : Addr) : Prop where
  w : M b
  h : ∃ (n : Addr) (ns : List Int) (p r t s : Int), H b = some (.lst [.ref n, .int p, .int r, .int t, .int s]) ∧ ¬ M n ∧ Rd H n (.lst (ns.map V.int)) ∧ 0 ≤ p ∧ 0 ≤ r
/-- only the object at b has changed -/
def At (b : Addr) (H H' : Hp) : Prop := ∀ a, a ≠ b → H' a = H a
theorem At.upd {b : Addr} {H : Hp} {o : HO} : At b H (upd H b o) := fun _ n => upd_ne n
theorem At.sx {b : Addr} {H H' : Hp} (h : At b H H') : Sx (one b) H H' := fun a o n e => (h a n).trans e
theorem Bag.there {K : PySem.W.Frag} {M : Ms} {H : Hp} {b : Addr} (h : Bag K M H b) : H b ≠ none := by
  obtain ⟨_, n, ns, p, r, t, s, e, _⟩ := h
  exact ne_none e
/-- other things are written, new ones made -/
theorem Bag.keep {K : PySem.W.Frag} {M N : Ms} {H H' : Hp} {b : Addr} (h : Bag K M H b) (s : Sx N H H') (nb : ¬ N b) (le : ∀ a, N a → M a) : Bag K M H' b := by
  obtain ⟨w, n, ns, p, r, t, sd, e, hn, rd, q⟩ := h
  exact ⟨w, n, ns, p, r, t, sd, s _ _ nb e, hn, sx_rd s (fun z => hn (le _ z)) rd, q⟩
theorem Bag.more {K : PySem.W.Frag} {M : Ms} {H : Hp} {b p : Addr} (h : Bag K M H b) (hp : H p = none) : Bag K (also M p) H b := by
  obtain ⟨w, n, ns, q, r, t, sd, e, hn, rd, z⟩ := h
  exact ⟨.inl w, n, ns, q, r, t, sd, e, fun m => m.elim hn fun e => rd_ne rd hp e, rd, z⟩
theorem Bag.less {K : PySem.W.Frag} {M N : Ms} {H : Hp} {b : Addr} (h : Bag K M H b) (w : N b) (f : ∀ a, N a → M a) : Bag K N H b := by
  obtain ⟨_, n, ns, q, r, t, sd, e, hn, rd, z⟩ := h
  exact ⟨w, n, ns, q, r, t, sd, e, fun m => hn (f _ m), rd, z⟩
theorem one_le {M : Ms} {b : Addr} (w : M b) : ∀ a, one b a → M a := fun a e => by
  have e' : a = b := e
  rw [e']
  exact w
/-- a draw: behind it the bag stands, all else too -/
def Dr (K : PySem.W.Frag) (M : Ms) (b : Addr) (H : Hp) (R : PyData → Prop) (Q : VK) : Prop := ∀ v H' d, Sx (one b) H H' → Gr H H' → Bag K M H' b → Rp M H' v d → R d → Q v H'
/-- a def that writes nothing -/
def Pu (M : Ms) (H : Hp) (R : PyData → Prop) (Q : VK) : Prop := ∀ v H' d, Same H H' → Rp M H' v d → R d → Q v H'

/-! ### loops that the layer has no short rule for -/
theorem for_enum {K : PySem.W.Frag} {a : Addr} {xs : List V} {g : TG} {tb : TS} {D : Ends} {σ : L2.St} {H : Hp} (Pv : Nat → L2.St → Hp → Prop) (h0 : Pv 0 σ H) (hl : ∀ i σ H, i ≤ xs.length → Pv i σ H → SqL K H a xs)
    (hs : ∀ i x T σ H, xs[i]? = some x → H T = none → Pv i σ H → g (.ref T) σ (upd H T (.tup [.int (i : Nat), x])) fun σ2 H2 => tb { D with nx := Pv (i + 1), ct := Pv (i + 1), bk := D.nx } σ2 H2) (hd : ∀ σ H, Pv xs.length σ H → D.nx σ H) :
    ∃ W : Nat → Nat → L2.St → Hp → Prop, (∃ m, W 0 m σ H) ∧ ∀ i m σ H, W i m σ H →
      ((Ite K a).stop i H ∧ D.nx σ H) ∨ ((Ite K a).go i H ∧ ∃ N : L2.St → Hp → Prop, (∀ σ' H', N σ' H' → ∃ m', m' < m ∧ W (i + 1) m' σ' H') ∧ ∀ x H', (Ite K a).yld i H x H' → g x σ H' fun σ2 H2 => tb { D with nx := N, ct := N, bk := D.nx } σ2 H2) := by
  refine ⟨fun i m σ H => m = xs.length - i ∧ i ≤ xs.length ∧ Pv i σ H, ⟨xs.length, by simp, Nat.zero_le _, h0⟩, ?_⟩
  rintro i m σ H ⟨rfl, hi, p⟩
  have q := hl i σ H hi p
  by_cases hlt : i < xs.length
  · refine .inr ⟨⟨xs, xs[i], q, by simp [hlt]⟩, Pv (i + 1), fun σ' H' p' => ⟨xs.length - (i + 1), by omega, rfl, hlt, p'⟩, fun x H' y => ?_⟩
    obtain ⟨T, z, rfl, hT, rfl, hz⟩ := y
    exact hs i z T σ _ (hz xs q) hT p
  · have e : i = xs.length := by omega
    subst e
    exact .inl ⟨⟨xs, q, Nat.le_refl _⟩, hd σ H p⟩

theorem seqIx {j n : Nat} (h : j < n) : seqIndex? (j : Int) n = some j := by
  unfold seqIndex?
  have h1 : ¬ ((j : Int) < 0) := by omega
  have h2 : (0 : Int) ≤ (j : Int) := by omega
  have h3 : (j : Int) < (n : Int) := by omega
  simp only [if_neg h1, decide_eq_true h2, decide_eq_true h3, Bool.and_self, if_true, Int.toNat_natCast]
theorem small1000000 {n : Nat} (h : n ≤ 1000000) : n < sizeLine := Nat.lt_of_le_of_lt h (by decide)
theorem At.gr {b : Addr} {H H' : Hp} (h : At b H H') (hb : H' b ≠ none) : Gr H H' := fun a n => by
  by_cases e : a = b
  · rw [e]
    exact hb
  · rw [h a e]
    exact n

/-- what did not stand needs no leave -/
theorem Sx.cut {M : Ms} {H H' : Hp} {p : Addr} (s : Sx (also M p) H H') (n : H p = none) : Sx M H H' := fun a o m e => s a o (fun z => z.elim m fun z => by
  rw [z, n] at e
  cases e) e

theorem str_len (x y : Str) : (x ++ y).length = x.length + y.length := by
  show (x.cps ++ y.cps).size = _
  rw [Array.size_append]
  rfl

theorem log2_10 {v : Int} (h0 : 0 ≤ v) (h1 : v < 10) : v.natAbs.log2 < 1920 := Nat.lt_of_le_of_lt (Nat.log2_le_self _) (by omega)
theorem dig_len {v : Int} (h0 : 0 ≤ v) (h1 : v < 10) : (Str.ofString (toString v)).length = 1 := by
  have h : v = 0 ∨ v = 1 ∨ v = 2 ∨ v = 3 ∨ v = 4 ∨ v = 5 ∨ v = 6 ∨ v = 7 ∨ v = 8 ∨ v = 9 := by omega
  rcases h with rfl | rfl | rfl | rfl | rfl | rfl | rfl | rfl | rfl | rfl <;> decide +kernel
def isLab : V → Bool
  | .str z => decide (z.length ≤ 30)
  | _ => false
theorem lab_all (xs : List V) (h : xs.all isLab = true) : ∀ v ∈ xs, ∃ z : Str, v = V.str z ∧ z.length ≤ 30 := fun v hv => by
  have h1 := List.all_eq_true.mp h v hv
  cases v with
  | str z => exact ⟨z, rfl, of_decide_eq_true h1⟩
  | _ => cases h1

theorem sz2 {x y : V} : [x, y].length ≤ sizeLine := by show 2 ≤ sizeLine; decide
/-! ### sizes of nodes -/
def mx (ns : List Int) : Int := ns.foldl (fun a b => if a < b then b else a) 0
theorem foldmx : ∀ (ns : List Int) (a : Int), a ≤ ns.foldl (fun a b => if a < b then b else a) a ∧ (∀ n ∈ ns, n ≤ ns.foldl (fun a b => if a < b then b else a) a) ∧ (ns.foldl (fun a b => if a < b then b else a) a = a ∨ ns.foldl (fun a b => if a < b then b else a) a ∈ ns)
  | [], a => ⟨Int.le_refl _, (fun _ h => nomatch h), .inl rfl⟩
  | n :: r, a => by
    have ih := foldmx r (if a < n then n else a)
    simp only [List.foldl_cons]
    obtain ⟨h1, h2, h3⟩ := ih
    refine ⟨?_, fun m hm => ?_, ?_⟩
    · split at h1 <;> split <;> omega
    · rcases List.mem_cons.mp hm with rfl | hm
      · split at h1 <;> split <;> omega
      · exact h2 m hm
    · rcases h3 with h3 | h3
      · by_cases c : a < n
        · right
          rw [if_pos c] at h3 ⊢
          rw [h3]
          exact List.mem_cons_self
        · left
          rw [if_neg c] at h3 ⊢
          exact h3
      · exact .inr (List.mem_cons_of_mem _ h3)
theorem mx_of {ns : List Int} {m : Int} (h0 : ∀ n ∈ ns, 0 ≤ n) (hm : m ∈ ns) (hle : ∀ y, y ∈ ns → y ≤ m) : m = mx ns := by
  obtain ⟨h1, h2, h3⟩ := foldmx ns 0
  have a := h2 m hm
  have b := h0 m hm
  unfold mx
  rcases h3 with h3 | h3
  · omega
  · have c := hle _ h3
    omega
theorem mx_take {ns : List Int} {i : Nat} {z : Int} (h : ns[i]? = some z) : mx (ns.take (i + 1)) = if mx (ns.take i) < z then z else mx (ns.take i) := by
  unfold mx
  rw [List.take_add_one, h, List.foldl_append]
  rfl
def sRow : Str := "row"
def sCol : Str := "col"
def szf (z : Str) (ps : List (Int × Int)) : Int × Int :=
  if ps = [] then (if z = sRow ∨ z = sCol then (0, 0) else ((z.length : Int), 1))
  else if z = sRow then ((ps.map (·.1)).sum, mx (ps.map (·.2))) else (mx (ps.map (·.1)), (ps.map (·.2)).sum)
/-- pairs -/
def pD (p : Int × Int) : PyData := .tuple [.int p.1, .int p.2]
theorem Rp.pair {M : Ms} {H : Hp} {v : V} {p : Int × Int} (h : Rp M H v (pD p)) : ∃ t, v = .ref t ∧ Rd H t (.tup [.int p.1, .int p.2]) := by
  cases h with
  | @tup a xs _ n s r =>
    cases r with
    | cons h1 h2 =>
      cases h2 with
      | cons h3 h4 =>
        cases h1
        cases h3
        cases h4
        exact ⟨a, rfl, s⟩
theorem RpAll.pair {M : Ms} {H : Hp} {vs : List V} {ps : List (Int × Int)} {i : Nat} {v : V} (h : RpAll M H vs (ps.map pD)) (hv : vs[i]? = some v) : ∃ p t, ps[i]? = some p ∧ v = .ref t ∧ Rd H t (.tup [.int p.1, .int p.2]) := by
  obtain ⟨d, hd, hr⟩ := h.get hv
  rw [List.getElem?_map] at hd
  obtain ⟨p, hp, rfl⟩ := Option.map_eq_some_iff.mp hd
  obtain ⟨t, e, r⟩ := hr.pair
  exact ⟨p, t, hp, e, r⟩
theorem same_rd {H H' : Hp} {a : Addr} {u : HO} (s : Same H H') (h : Rd H a u) : Rd H' a u := sx_rd (M := fun _ => False) (Sx.same s) (fun z => z) h

/-! ### the layer's rules with the written part named, for comprehensions -/
section
variable {X : Cx} {K : PySem.W.Frag}
theorem ix_listK (h : X.K = K) : IxR X (rIxL K) := by subst h; exact ix_list
theorem ix_tupK (h : X.K = K) : IxR X (rIxT K) := by subst h; exact ix_tup
theorem sl_listK (h : X.K = K) : SlR X (rSlL K) := by subst h; exact sl_list
theorem sl_tupK (h : X.K = K) : SlR X (rSlA K) := by subst h; exact sl_tupA
theorem op_in_seqK (h : X.K = K) : OpR X (compareOp .In) (rIn K false) := by subst h; exact op_in_seq
theorem op_notIn_seqK (h : X.K = K) : OpR X (compareOp .NotIn) (rIn K true) := by subst h; exact op_notIn_seq
theorem op_catAK (h : X.K = K) : OpR X (binaryOp .Add) (rCatA K) := by subst h; exact op_catA
theorem op_eqDK (h : X.K = K) (hu : X.A.units + 64 < cLine) : OpR X (compareOp .Eq) (rEqD K) := by subst h; exact op_eqD hu
theorem op_neDK (h : X.K = K) (hu : X.A.units + 64 < cLine) : OpR X (compareOp .NotEq) (rNeD K) := by subst h; exact op_neD hu
def rLenS (K : PySem.W.Frag) : List V → Hp → VK → Prop := fun xs H Q => ∃ p ys, xs = [.ref p] ∧ (SqL K H p ys ∨ SqT K H p ys) ∧ Q (.int ys.length) H
theorem call_lenK (h : X.K = K) : CallR X (.builtin "len") (rLenS K) := by subst h; exact call_len_seq
def rListS (K : PySem.W.Frag) : List V → Hp → VK → Prop := fun xs H Q => ∃ p ys, xs = [.ref p] ∧ (SqL K H p ys ∨ SqT K H p ys) ∧ ∀ l, H l = none → Q (.ref l) (upd H l (.lst ys))
theorem call_listK (h : X.K = K) : CallR X (.type "list") (rListS K) := by subst h; exact call_list_of
def rTupS (K : PySem.W.Frag) : List V → Hp → VK → Prop := fun xs H Q => ∃ p ys, xs = [.ref p] ∧ ((SqL K H p ys ∧ ∀ l, H l = none → Q (.ref l) (upd H l (.tup ys))) ∨ (SqT K H p ys ∧ Q (.ref p) H))
theorem call_tupleK (h : X.K = K) : CallR X (.type "tuple") (rTupS K) := by subst h; exact call_tuple_of
theorem cr_sumK (h : X.K = K) (hc : X.calm = true) : CallR X (.builtin "sum") (rSum K) := by subst h; exact cr_sum hc
theorem cr_maxK (h : X.K = K) (hc : X.calm = true) : CallR X (.builtin "max") (rMax K) := by subst h; exact cr_max hc
theorem cr_minK (h : X.K = K) (hc : X.calm = true) : CallR X (.builtin "min") (rMin K) := by subst h; exact cr_min hc
theorem cr_anyK (h : X.K = K) (hc : X.calm = true) : CallR X (.builtin "any") (rAny K) := by subst h; exact cr_any hc
theorem cr_allK (h : X.K = K) (hc : X.calm = true) : CallR X (.builtin "all") (rAll K) := by subst h; exact cr_all hc
theorem call_isi1K (h : X.K = K) : CallR X (.builtin "isinstance") (rIsi K) := by subst h; exact call_isi
theorem call_isiTK (h : X.K = K) : CallR X (.builtin "isinstance") (rIsiT K) := by subst h; exact call_isiT
def tTruth (K : PySem.W.Frag) (ta : TE) : TT := fun σ H Q => ta σ H fun x H' => ∃ k, TruV K x H' k ∧ Q k H'
theorem pt_truthK {a : Expr} {ta : TE} (h : X.K = K) (ha : PE X a ta) (he : ∀ whole, isTrue a X.env whole = (do let v ← whole; standAt a.pos; holding [v] (truthy v))) : PT X a (tTruth K ta) := by subst h; exact pt_truth ha he
theorem pe_fldK {e : Expr} {f : Str} {pos : Pos} {ta : TE} (h : X.K = K) (he : PE X e ta) (hb : attributeBase e f X.env (eval e X.env) = eval e X.env) : PE X (.Attribute e f pos) (tFld K ta f) := by subst h; exact pe_fld he hb
theorem pi_listK {tg l : Expr} {tl : TE} (h : X.K = K) (hl : PE X l tl) : PI X tg l (iList K tl) := by subst h; exact pi_list hl
theorem pi_tupK {tg l : Expr} {tl : TE} (h : X.K = K) (hl : PE X l tl) : PI X tg l (iTup K tl) := by subst h; exact pi_tup hl
theorem pg_tupK {es : List Expr} {k : Nat} {t : TGs} {n : Nat} {pos : Pos} (hK : X.K = K) (hc : X.calm = true) (h : PGs X es t)
    (hn : (assignEach es X.env).length = n := by rfl) (hst : (assignEach es X.env).findIdx? (·.1) = none := by rfl) : PG X (.Tuple es k pos) (gTup K n t) := by subst hK; exact pg_tup hc h hn hst
theorem pi_enumK {e : Expr} {ta : TA} {p pos tpos : Pos} {elts : List Expr} {kk : Nat} (hK : X.K = K) (hg : Gl X "enumerate") (hm : X.mg "enumerate" = none) (ha : PA X [e] ta) (hs : starEach [e] X.env = [(false, eval e X.env)] := by rfl) :
    PI X (.Tuple elts kk tpos) (.Call (.Name "enumerate" p) [e] [] pos) (iEnum K ta) := by subst hK; exact pi_enum hg hm ha hs
theorem pi_zipK {e e2 : Expr} {ta : TA} {p pos tpos : Pos} {elts : List Expr} {kk : Nat} (hK : X.K = K) (hg : Gl X "zip") (hm : X.mg "zip" = none) (ha : PA X [e, e2] ta)
    (hs : starEach [e, e2] X.env = (false, eval e X.env) :: starEach [e2] X.env := by rfl) (hpl : (backTo pos (starEach [e2] X.env)).any (·.1) = false := by rfl) :
    PI X (.Tuple elts kk tpos) (.Call (.Name "zip" p) [e, e2] [] pos) (iZip K ta) := by subst hK; exact pi_zip hg hm ha hs hpl
end

/-- a comprehension over a list whose elements make nothing -/
theorem lc_vals {K : PySem.W.Frag} {a : Addr} {xs ys : List V} {g : TG} {tt : TT} {te : TE} {vs : List Nat} {σ : L2.St} {H : Hp} {D : Addr} {Qd : Hp → Prop} (hD : H D = none) (hS : SqL K H a xs) (hn : ys.length = xs.length) (hz : xs.length ≤ 1000000)
    (hs : ∀ (i : Nat) (x y : V) (H' : Hp) (C : VK) (N : Hp → Prop), xs[i]? = some x → ys[i]? = some y → Same H H' → C y H' → g x (wipe σ vs) H' fun σ2 H2 => wipe σ2 vs = wipe σ vs ∧ tt σ2 H2 fun b H3 => if b = true then te σ2 H3 C else N H3)
    (hd : ∀ H', Same H H' → H' D = some (.lst ys) → Qd H') :
    ∃ W : Nat → Nat → Hp → Prop, (∃ m, W 0 m (upd H D (.lst []))) ∧ ∀ i m H, W i m H →
      ((Itl K a).stop i H ∧ Qd H) ∨ ((Itl K a).go i H ∧ ∃ Nx : Hp → Prop, (∀ H', Nx H' → ∃ m', m' < m ∧ W (i + 1) m' H') ∧ ∀ x H', (Itl K a).yld i H x H' → g x (wipe σ vs) H' fun σ2 H2 => wipe σ2 vs = wipe σ vs ∧ tt σ2 H2 fun b H3 =>
        if b = true then te σ2 H3 fun y H4 => ∃ acc, H4 D = some (.lst acc) ∧ acc.length < sizeLine ∧ Nx (upd H4 D (.lst (acc ++ [y]))) else Nx H3) := by
  refine lc_list (K := K) (a := a) (xs := xs) (fun i H' => Same H H' ∧ H' D = some (.lst (ys.take i))) ⟨same_new hD, by rw [upd_same]; rfl⟩ (fun i H' _ p => p.1.seq hS) (fun i x H' hx p => ?_) (fun H' p => ?_)
  · have hi : i < ys.length := by
      rw [hn]
      exact (List.getElem?_eq_some_iff.mp hx).1
    refine hs i x ys[i] H' _ _ hx (List.getElem?_eq_getElem hi) p.1 ⟨_, p.2, ?_, fun c o e => ?_, ?_⟩
    · rw [List.length_take]
      exact small1000000 (by omega)
    · rw [upd_ne (ne_of_none e hD)]
      exact p.1 c o e
    · rw [upd_same, List.take_add_one, List.getElem?_eq_getElem hi]
      rfl
  · refine hd H' p.1 ?_
    have e := p.2
    rw [← hn, List.take_length] at e
    exact e
theorem same_sqt {K : PySem.W.Frag} {H H' : Hp} {a : Addr} {xs : List V} (s : Same H H') (h : SqT K H a xs) : SqT K H' a xs := sx_t (M := fun _ => False) (Sx.same s) (fun z => z) h
/-- a comprehension over a tuple whose elements make nothing -/
theorem lc_valsT {K : PySem.W.Frag} {a : Addr} {xs ys : List V} {g : TG} {tt : TT} {te : TE} {vs : List Nat} {σ : L2.St} {H : Hp} {D : Addr} {Qd : Hp → Prop} (hD : H D = none) (hS : SqT K H a xs) (hn : ys.length = xs.length) (hz : xs.length ≤ 1000000)
    (hs : ∀ (i : Nat) (x y : V) (H' : Hp) (C : VK) (N : Hp → Prop), xs[i]? = some x → ys[i]? = some y → Same H H' → C y H' → g x (wipe σ vs) H' fun σ2 H2 => wipe σ2 vs = wipe σ vs ∧ tt σ2 H2 fun b H3 => if b = true then te σ2 H3 C else N H3)
    (hd : ∀ H', Same H H' → H' D = some (.lst ys) → Qd H') :
    ∃ W : Nat → Nat → Hp → Prop, (∃ m, W 0 m (upd H D (.lst []))) ∧ ∀ i m H, W i m H →
      ((Itt K a).stop i H ∧ Qd H) ∨ ((Itt K a).go i H ∧ ∃ Nx : Hp → Prop, (∀ H', Nx H' → ∃ m', m' < m ∧ W (i + 1) m' H') ∧ ∀ x H', (Itt K a).yld i H x H' → g x (wipe σ vs) H' fun σ2 H2 => wipe σ2 vs = wipe σ vs ∧ tt σ2 H2 fun b H3 =>
        if b = true then te σ2 H3 fun y H4 => ∃ acc, H4 D = some (.lst acc) ∧ acc.length < sizeLine ∧ Nx (upd H4 D (.lst (acc ++ [y]))) else Nx H3) := by
  refine lc_tup (K := K) (a := a) (xs := xs) (fun i H' => Same H H' ∧ H' D = some (.lst (ys.take i))) ⟨same_new hD, by rw [upd_same]; rfl⟩ (fun i H' _ p => same_sqt p.1 hS) (fun i x H' hx p => ?_) (fun H' p => ?_)
  · have hi : i < ys.length := by
      rw [hn]
      exact (List.getElem?_eq_some_iff.mp hx).1
    refine hs i x ys[i] H' _ _ hx (List.getElem?_eq_getElem hi) p.1 ⟨_, p.2, ?_, fun c o e => ?_, ?_⟩
    · rw [List.length_take]
      exact small1000000 (by omega)
    · rw [upd_ne (ne_of_none e hD)]
      exact p.1 c o e
    · rw [upd_same, List.take_add_one, List.getElem?_eq_getElem hi]
      rfl
  · refine hd H' p.1 ?_
    have e := p.2
    rw [← hn, List.take_length] at e
    exact e

/-- two ways meet behind an if without else -/
theorem join2 {b : Bool} {A : Prop} {N : L2.St → Hp → Prop} {σ : L2.St} {H : Hp} (Pv : L2.St → Hp → Prop) (h1 : b = true → (∀ σ H, Pv σ H → N σ H) → A) (h2 : b = false → Pv σ H) (hN : ∀ σ H, Pv σ H → N σ H) : if b = true then A else N σ H := by
  cases b with
  | true =>
    rw [if_pos rfl]
    exact h1 rfl hN
  | false =>
    rw [if_neg Bool.false_ne_true]
    exact hN _ _ (h2 rfl)


theorem RpAll.rep {M : Ms} {H : Hp} {xs : List V} {ds : List PyData} (h : RpAll M H xs ds) : ∀ n : Nat, RpAll M H (List.replicate n xs).flatten (List.replicate n ds).flatten
  | 0 => .nil
  | n + 1 => by
    rw [List.replicate_succ, List.replicate_succ, List.flatten_cons, List.flatten_cons]
    exact h.append (RpAll.rep h n)
theorem Bag.same {K : PySem.W.Frag} {M : Ms} {H H' : Hp} {b : Addr} (h : Bag K M H b) (s : Same H H') : Bag K M H' b := h.keep (N := fun _ => False) (Sx.same s) (fun z => z) (fun _ z => z.elim)
/-- a list of data that may still be written -/
def Ld (M : Ms) (H : Hp) (a : Addr) (ds : List PyData) : Prop := ¬ M a ∧ ∃ xs, H a = some (.lst xs) ∧ RpAll M H xs ds
theorem Ld.rp {M : Ms} {H : Hp} {a : Addr} {ds : List PyData} (h : Ld M H a ds) : Rp M H (.ref a) (.list ds) := by
  obtain ⟨n, xs, e, r⟩ := h
  exact .lst n (.inl e) r
theorem Ld.sx {M : Ms} {H H' : Hp} {a : Addr} {ds : List PyData} (h : Ld M H a ds) (s : Sx M H H') : Ld M H' a ds := by
  obtain ⟨n, xs, e, r⟩ := h
  exact ⟨n, xs, s _ _ n e, r.sx s⟩
theorem Ld.new {M : Ms} {H : Hp} {a : Addr} {xs : List V} {ds : List PyData} (m : Mk M H) (h : H a = none) (r : RpAll M H xs ds) : Ld M (upd H a (.lst xs)) a ds := ⟨m.out h, xs, upd_same, r.sx (Sx.new h)⟩
/-- a comprehension over a list: each element a datum, made on the way -/
theorem lc_data {K : PySem.W.Frag} {a : Addr} {xs : List V} {ys : List PyData} {g : TG} {tt : TT} {te : TE} {vs : List Nat} {σ : L2.St} {H : Hp} {D : Addr} {Qd : Hp → Prop} (M : Ms) (hM : Mk M H) (hD : H D = none) (hS : SqL K H a xs) (hn : ys.length = xs.length) (hz : xs.length ≤ 1000000)
    (hs : ∀ (i : Nat) (x : V) (y : PyData) (H' : Hp) (C : VK) (N : Hp → Prop), xs[i]? = some x → ys[i]? = some y → Same H H' → Mk (also M D) H' → (∀ v H2, Same H' H2 → Rp (also M D) H2 v y → C v H2) → g x (wipe σ vs) H' fun σ2 H2 => wipe σ2 vs = wipe σ vs ∧ tt σ2 H2 fun b H3 => if b = true then te σ2 H3 C else N H3)
    (hd : ∀ H', Same H H' → Ld M H' D ys → Qd H') :
    ∃ W : Nat → Nat → Hp → Prop, (∃ m, W 0 m (upd H D (.lst []))) ∧ ∀ i m H, W i m H →
      ((Itl K a).stop i H ∧ Qd H) ∨ ((Itl K a).go i H ∧ ∃ Nx : Hp → Prop, (∀ H', Nx H' → ∃ m', m' < m ∧ W (i + 1) m' H') ∧ ∀ x H', (Itl K a).yld i H x H' → g x (wipe σ vs) H' fun σ2 H2 => wipe σ2 vs = wipe σ vs ∧ tt σ2 H2 fun b H3 =>
        if b = true then te σ2 H3 fun y H4 => ∃ acc, H4 D = some (.lst acc) ∧ acc.length < sizeLine ∧ Nx (upd H4 D (.lst (acc ++ [y]))) else Nx H3) := by
  refine lc_list (K := K) (a := a) (xs := xs) (fun i H' => Same H H' ∧ ∃ acc, H' D = some (.lst acc) ∧ RpAll (also M D) H' acc (ys.take i)) ⟨same_new hD, [], upd_same, by rw [List.take_zero]; exact .nil⟩ (fun i H' _ p => p.1.seq hS) (fun i x H' hx p => ?_) (fun H' p => ?_)
  · obtain ⟨s, acc, e, r⟩ := p
    have hi : i < ys.length := by
      rw [hn]
      exact (List.getElem?_eq_some_iff.mp hx).1
    have hl := r.length
    rw [List.length_take] at hl
    refine hs i x ys[i] H' _ _ hx (List.getElem?_eq_getElem hi) s ((hM.gr (Gr.same s)).also (ne_none e)) fun v H2 s2 rv => ?_
    refine ⟨acc, s2 _ _ e, small1000000 (by omega), fun c o q => ?_, acc ++ [v], upd_same, ?_⟩
    · rw [upd_ne (ne_of_none q hD)]
      exact s2 _ _ (s c o q)
    · rw [List.take_add_one, List.getElem?_eq_getElem hi]
      exact ((r.sx (Sx.same s2)).append (.one rv)).sx (Sx.put (.inr rfl))
  · obtain ⟨s, acc, e, r⟩ := p
    rw [← hn, List.take_length] at r
    exact hd H' s ⟨hM.out hD, acc, e, r.less also_le⟩

theorem cut_hi (xs : List V) (n : Nat) : cutV xs none (some (n : Int)) = xs.take n := by
  unfold cutV
  rw [show HT.sIx xs.length 0 none = 0 from HT.sIx_none .., show HT.sIx xs.length xs.length (some (n : Int)) = min n xs.length from HT.sIx_nat _ _ n, List.drop_zero, Nat.sub_zero]
  rw [List.take_eq_take_iff]
  omega

theorem szK {n : Nat} (h : Nat.ble n 1000 = true) : n ≤ sizeLine := Nat.le_of_lt (small1000 (Nat.le_of_ble_eq_true h))
end D

namespace D
open PySem PySem.Spec PyProof.Rows L2
local macro_rules | `(tactic| walk_at "st") => `(tactic| first | exact SqT.of (by assumption) | exact Or.inl (by assumption) | exact SqT.of upd_same | fail "st")
local macro_rules | `(tactic| walk_at "ixt") => `(tactic| refine ⟨_, _, _, _, rfl, rfl, (by walk_at "st" : SqT _ _ _ _), by rfl, ?_⟩)
local macro_rules | `(tactic| walk_at "sq") => `(tactic| first | exact SqL.of (by assumption) | assumption | exact Or.inl (by assumption) | exact SqL.of upd_same | fail "sq")
local macro_rules | `(tactic| walk_at "ix") => `(tactic| refine ⟨_, _, _, _, rfl, rfl, (by walk_at "sq" : SqL _ _ _ _), by rfl, ?_⟩)
local macro_rules | `(tactic| walk_at "set") => `(tactic| refine ⟨_, _, _, _, rfl, rfl, by first | assumption | exact upd_same, by rfl, ?_⟩)
local macro_rules | `(tactic| walk_at "len") => `(tactic| refine ⟨_, _, rfl, Or.inl (by walk_at "sq" : SqL _ _ _ _), ?_⟩)
local macro_rules | `(tactic| walk_at "g") => `(tactic| repeat (first | refine ⟨_, rfl, ?_⟩ | refine ⟨_, _, rfl, rfl, ?_⟩ | refine ⟨Or.inr (by decide), ?_⟩ | refine ⟨Or.inl (by decide), ?_⟩ | refine ⟨(by decide : (0 : Int) < _), ?_⟩ | refine ⟨(⟨by decide, by decide⟩ : CDiv _ _), ?_⟩ | refine ⟨(⟨by decide, by decide, by decide⟩ : CPow _ _), ?_⟩ | refine Or.inl ⟨_, rfl, ?_⟩ | refine ⟨rfl, ?_⟩ | walk_at "ix" | walk_at "ixt" | walk_at "len" | fail "g"))
local macro_rules | `(tactic| walk_at "if") => `(tactic| refine ite2 (fun e => ?_) (fun e => ?_))
def topS (i : Nat) : Stmt := PySem.Challenge.pw_drawnanew_k16_measured_sizes.main.body.getD i (.Pass ⟨0, 0, 0, 0⟩)
abbrev s_measure : Stmt := topS 1
theorem sc_measure : FnScope ["label", "sizes", "width", "_", "height"] ["label", "sizes"] (defScope s_measure) := ⟨rfl, rfl, rfl, by decide +kernel, rfl, by decide +kernel, by decide +kernel⟩
abbrev s__law_mixed : Stmt := topS 3
theorem sc__law_mixed : FnScope ["_law_number_here", "_law_turn", "_law_first", "_law_second"] ["_law_number_here", "_law_turn"] (defScope s__law_mixed) := ⟨rfl, rfl, rfl, by decide +kernel, rfl, by decide +kernel, by decide +kernel⟩
abbrev s__law_bag : Stmt := topS 4
theorem sc__law_bag : FnScope ["_law_script", "_law_cell", "_law_numbers", "_law_seed", "_law_at"] ["_law_script"] (defScope s__law_bag) := ⟨rfl, rfl, rfl, by decide +kernel, rfl, by decide +kernel, by decide +kernel⟩
abbrev s__law_pick : Stmt := topS 5
theorem sc__law_pick : FnScope ["_law_bag_here", "_law_many", "_law_turn", "_law_worth", "_law_cell", "_law_great"] ["_law_bag_here", "_law_many"] (defScope s__law_pick) := ⟨rfl, rfl, rfl, by decide +kernel, rfl, by decide +kernel, by decide +kernel⟩
abbrev s__law_choice : Stmt := topS 6
theorem sc__law_choice : FnScope ["_law_bag_here", "_law_things"] ["_law_bag_here", "_law_things"] (defScope s__law_choice) := ⟨rfl, rfl, rfl, by decide +kernel, rfl, by decide +kernel, by decide +kernel⟩
abbrev s__law_mingled : Stmt := topS 7
theorem sc__law_mingled : FnScope ["_law_bag_here", "_law_things", "_law_left", "_law_out", "_law_step"] ["_law_bag_here", "_law_things"] (defScope s__law_mingled) := ⟨rfl, rfl, rfl, by decide +kernel, rfl, by decide +kernel, by decide +kernel⟩
abbrev s__law_number : Stmt := topS 8
theorem sc__law_number : FnScope ["_law_thing"] ["_law_thing"] (defScope s__law_number) := ⟨rfl, rfl, rfl, by decide +kernel, rfl, by decide +kernel, by decide +kernel⟩
abbrev s__law_text : Stmt := topS 9
theorem sc__law_text : FnScope ["_law_bag_here", "_law_least", "_law_most", "_law_signs", "_law_told", "_law_step"] ["_law_bag_here", "_law_least", "_law_most"] (defScope s__law_text) := ⟨rfl, rfl, rfl, by decide +kernel, rfl, by decide +kernel, by decide +kernel⟩
abbrev s__law_label : Stmt := topS 10
theorem sc__law_label : FnScope ["_law_bag_here", "_law_way"] ["_law_bag_here"] (defScope s__law_label) := ⟨rfl, rfl, rfl, by decide +kernel, rfl, by decide +kernel, by decide +kernel⟩
abbrev s__law_pair : Stmt := topS 11
theorem sc__law_pair : FnScope ["_law_bag_here", "_law_wide", "_law_high", "_law_width", "_law_height"] ["_law_bag_here", "_law_wide", "_law_high"] (defScope s__law_pair) := ⟨rfl, rfl, rfl, by decide +kernel, rfl, by decide +kernel, by decide +kernel⟩
abbrev s__law_due : Stmt := topS 12
theorem sc__law_due : FnScope ["_law_label_here", "_law_pairs", "_law_widest", "_law_highest", "_law_pair_here"] ["_law_label_here", "_law_pairs"] (defScope s__law_due) := ⟨rfl, rfl, rfl, by decide +kernel, rfl, by decide +kernel, by decide +kernel⟩
abbrev s__law_is_pair : Stmt := topS 13
theorem sc__law_is_pair : FnScope ["_law_thing"] ["_law_thing"] (defScope s__law_is_pair) := ⟨rfl, rfl, rfl, by decide +kernel, rfl, by decide +kernel, by decide +kernel⟩
abbrev s_law : Stmt := topS 14
theorem sc_law : FnScope ["_law_script", "_law_bag_here", "_law_way", "_law_wide", "_law_high", "_law_pairs", "_law_mingled_here", "_law_rows", "_law_label_here", "_law_row", "_law_told", "_law_step", "_law_pair_here"] ["_law_script"] (defScope s_law) := ⟨rfl, rfl, rfl, by decide +kernel, rfl, by decide +kernel, by decide +kernel⟩

structure Txt (K : PySem.W.Frag) (mg : Str → Option Value) where
  f_measure : Addr
  d_measure : FuncData
  F_measure : Fun K "measure" "measure" s_measure f_measure d_measure
  b_measure : Binds K d_measure ["label", "sizes"] []
  g_measure : mg "measure" = some (.ref f_measure)
  f__law_mixed : Addr
  d__law_mixed : FuncData
  F__law_mixed : Fun K "_law_mixed" "_law_mixed" s__law_mixed f__law_mixed d__law_mixed
  b__law_mixed : Binds K d__law_mixed ["_law_number_here", "_law_turn"] []
  g__law_mixed : mg "_law_mixed" = some (.ref f__law_mixed)
  f__law_bag : Addr
  d__law_bag : FuncData
  F__law_bag : Fun K "_law_bag" "_law_bag" s__law_bag f__law_bag d__law_bag
  b__law_bag : Binds K d__law_bag ["_law_script"] []
  g__law_bag : mg "_law_bag" = some (.ref f__law_bag)
  f__law_pick : Addr
  d__law_pick : FuncData
  F__law_pick : Fun K "_law_pick" "_law_pick" s__law_pick f__law_pick d__law_pick
  b__law_pick : Binds K d__law_pick ["_law_bag_here", "_law_many"] []
  g__law_pick : mg "_law_pick" = some (.ref f__law_pick)
  f__law_choice : Addr
  d__law_choice : FuncData
  F__law_choice : Fun K "_law_choice" "_law_choice" s__law_choice f__law_choice d__law_choice
  b__law_choice : Binds K d__law_choice ["_law_bag_here", "_law_things"] []
  g__law_choice : mg "_law_choice" = some (.ref f__law_choice)
  f__law_mingled : Addr
  d__law_mingled : FuncData
  F__law_mingled : Fun K "_law_mingled" "_law_mingled" s__law_mingled f__law_mingled d__law_mingled
  b__law_mingled : Binds K d__law_mingled ["_law_bag_here", "_law_things"] []
  g__law_mingled : mg "_law_mingled" = some (.ref f__law_mingled)
  f__law_number : Addr
  d__law_number : FuncData
  F__law_number : Fun K "_law_number" "_law_number" s__law_number f__law_number d__law_number
  b__law_number : Binds K d__law_number ["_law_thing"] []
  g__law_number : mg "_law_number" = some (.ref f__law_number)
  f__law_text : Addr
  d__law_text : FuncData
  F__law_text : Fun K "_law_text" "_law_text" s__law_text f__law_text d__law_text
  b__law_text : Binds K d__law_text ["_law_bag_here", "_law_least", "_law_most"] []
  g__law_text : mg "_law_text" = some (.ref f__law_text)
  f__law_label : Addr
  d__law_label : FuncData
  F__law_label : Fun K "_law_label" "_law_label" s__law_label f__law_label d__law_label
  b__law_label : Binds K d__law_label ["_law_bag_here"] []
  g__law_label : mg "_law_label" = some (.ref f__law_label)
  f__law_pair : Addr
  d__law_pair : FuncData
  F__law_pair : Fun K "_law_pair" "_law_pair" s__law_pair f__law_pair d__law_pair
  b__law_pair : Binds K d__law_pair ["_law_bag_here", "_law_wide", "_law_high"] []
  g__law_pair : mg "_law_pair" = some (.ref f__law_pair)
  f__law_due : Addr
  d__law_due : FuncData
  F__law_due : Fun K "_law_due" "_law_due" s__law_due f__law_due d__law_due
  b__law_due : Binds K d__law_due ["_law_label_here", "_law_pairs"] []
  g__law_due : mg "_law_due" = some (.ref f__law_due)
  f__law_is_pair : Addr
  d__law_is_pair : FuncData
  F__law_is_pair : Fun K "_law_is_pair" "_law_is_pair" s__law_is_pair f__law_is_pair d__law_is_pair
  b__law_is_pair : Binds K d__law_is_pair ["_law_thing"] []
  g__law_is_pair : mg "_law_is_pair" = some (.ref f__law_is_pair)
  f_law : Addr
  d_law : FuncData
  F_law : Fun K "law" "law" s_law f_law d_law
  b_law : Binds K d_law ["_law_script"] []
  g_law : mg "law" = some (.ref f_law)
  m_abs : mg "abs" = none
  m_bool : mg "bool" = none
  m_enumerate : mg "enumerate" = none
  m_int : mg "int" = none
  m_isinstance : mg "isinstance" = none
  m_len : mg "len" = none
  m_list : mg "list" = none
  m_max : mg "max" = none
  m_range : mg "range" = none
  m_str : mg "str" = none
  m_sum : mg "sum" = none
  m_tuple : mg "tuple" = none
section
variable {P : Program} {w : World} {K : PySem.W.Frag} {mg : Str → Option Value} {base : Heap}
def sp_mixed : Sp := fun vs H Q _ => ∃ a t : Int, vs = [.int a, .int t] ∧ ∀ w : Int, 0 ≤ w → Q (.int w) H
theorem ok_mixed (T : Txt K mg) : FnOk P w K mg base CX0 1 T.f__law_mixed T.d__law_mixed ["_law_number_here", "_law_turn"] sp_mixed := by
  refine T.F__law_mixed.ok sc__law_mixed (fun vs H Q E h => ?_) (fun cdv A outer s H vs Q E hr h => ?_)
  · obtain ⟨a, t, rfl, _⟩ := h
    rfl
  · obtain ⟨a, t, rfl, q⟩ := h
    refine ⟨_, (pss_cons (ps_set (i := 2) sc__law_mixed.nd rfl (Or.inl rfl) (pe_op op_mod (pe_callTy call_int1 (by rfl) T.m_int (by decide +kernel) (pa_cons (pe_op op_add (pe_op op_mul (pe_op op_add (pv 0) pe_int) pe_int) (pe_op op_mul (pe_op op_add (pv 1) pe_int) pe_int)) pa_nil)) pe_int))
      (pss_cons (ps_set (i := 3) sc__law_mixed.nd rfl (Or.inl rfl) (pe_op op_mod (pe_callTy call_int1 (by rfl) T.m_int (by decide +kernel) (pa_cons (pe_op op_add (pe_op op_add (pe_op op_mul (pv 2) (pv 2)) (pe_op op_mul (pv 2) pe_int)) (pe_op op_mul (pe_op op_add (pv 1) pe_int) pe_int)) pa_nil)) pe_int))
      (pss_one (ps_ret (pe_op op_mod (pe_callTy call_int1 (by rfl) T.m_int (by decide +kernel) (pa_cons (pe_op op_add (pe_op op_add (pe_op op_fdiv (pv 3) pe_int) (pe_op op_mul (pv 3) pe_int)) (pv 1)) pa_nil)) pe_int))))), ?_⟩
    walk_at "g"
    have h0 := Int.emod_nonneg ((a + 1) * 48271 + (t + 1) * 1103515245) (by decide : (2147483647 : Int) ≠ 0)
    have h1 := Int.emod_lt_of_pos ((a + 1) * 48271 + (t + 1) * 1103515245) (by decide : (0 : Int) < 2147483647)
    refine ⟨Or.inr ⟨by omega, by omega⟩, ?_⟩
    walk_at "g"
    refine q _ (Int.emod_nonneg _ (by decide))
/-- the bag is made -/
def sp_bag (K : PySem.W.Frag) : Sp := fun vs H Q _ => ∃ (a : Addr) (ns : List Int), vs = [.ref a] ∧ SqL K H a (ns.map V.int) ∧ ns.length ≤ 63 ∧
  ∀ b H', Same H H' → H b = none → Bag K (one b) H' b → Q (.ref b) H'
theorem ok_bag (T : Txt K mg) : FnOk P w K mg base CX0 1 T.f__law_bag T.d__law_bag ["_law_script"] (sp_bag K) := by
  refine T.F__law_bag.ok sc__law_bag (fun vs H Q E h => ?_) (fun cdv A outer s H vs Q E hr h => ?_)
  · obtain ⟨a, t, rfl, _⟩ := h
    rfl
  · obtain ⟨a, ns, rfl, hS, hlen, q⟩ := h
    refine ⟨_, (pss_cons (ps_setLc (i := 2) (own := [("_law_cell", 1)]) (g := gName 1) (tt := tYes) (by rfl) sc__law_bag.nd rfl rfl (sw_true rfl rfl rfl (by decide +kernel)) (pi_listK (K := K) rfl (pv 0)) (blkOk_by (own := [("_law_cell", 1)]) (N := ["_law_script", "_law_cell", "_law_numbers", "_law_seed", "_law_at"]) (sc := defScope s__law_bag) (by decide +kernel)) (fun _ _ _ _ _ => (pg_name (i := 1) sc__law_bag.nd rfl (Or.inl rfl))) (fun _ _ _ _ _ => pts_nil) (fun _ _ _ _ _ => (pe_callTy call_int1 (by rfl) T.m_int (by decide +kernel) (pa_cons (pv 1) pa_nil))))
      (pss_cons (ps_set (i := 3) sc__law_bag.nd rfl (Or.inl rfl) (pe_callB (call_lenK (K := K) rfl) (by rfl) T.m_len PySem.boot_len (pa_cons (pv 2) pa_nil)))
      (pss_cons (ps_for PassesOwn.never rfl (pi_enumK (K := K) rfl (by rfl) T.m_enumerate (pa_cons (pe_slice (sl_listK (K := K) rfl) (pv 2) po_none (po_some pe_int)) pa_nil)) (pg_tupK (K := K) rfl rfl (pgs_cons (pg_name (i := 4) sc__law_bag.nd rfl (Or.inl rfl)) (pgs_cons (pg_name (i := 1) sc__law_bag.nd rfl (Or.inl rfl)) pgs_nil))) (pss_one (ps_set (i := 3) sc__law_bag.nd rfl (Or.inl rfl) (pe_op op_mod (pe_callTy call_int1 (by rfl) T.m_int (by decide +kernel) (pa_cons (pe_op op_add (pe_op op_add (pe_op op_mul (pv 3) pe_int) (pe_op op_mod (pe_callTy call_int1 (by rfl) T.m_int (by decide +kernel) (pa_cons (pe_callB call_abs (by rfl) T.m_abs (by decide +kernel) (pa_cons (pv 1) pa_nil)) pa_nil)) pe_int)) (pe_op op_mul_ib (pe_op op_add (pv 4) pe_int) (pe_cmpR op_lt (pv 1) pe_int (nomark _)))) pa_nil)) pe_int))))
      (pss_one (ps_ret (pe_lst (pa_cons (pv 2) (pa_cons pe_int (pa_cons pe_int (pa_cons pe_int (pa_cons (pv 3) pa_nil))))))))))), ?_⟩
    refine ⟨.ref a, rfl, a, rfl, ⟨_, hS⟩, fun n hn => ?_⟩
    refine lc_list (K := K) (a := a) (xs := ns.map V.int) (fun i H' => Same H H' ∧ H' n = some (.lst ((ns.take i).map V.int))) ⟨same_new hn, by rw [upd_same]; rfl⟩ (fun i H' _ h => h.1.seq hS) (fun i x H' hx h => ?_) (fun H' h => ?_)
    · rw [List.getElem?_map] at hx
      obtain ⟨z, hz, rfl⟩ := Option.map_eq_some_iff.mp hx
      refine ⟨rfl, ?_⟩
      refine ⟨_, rfl, ?_⟩
      refine Or.inl ⟨_, rfl, ?_⟩
      refine ⟨_, h.2, ?_, fun b o e => ?_, ?_⟩
      · rw [List.length_map, List.length_take]
        exact small1000 (by omega)
      · rw [upd_ne (ne_of_none e hn)]
        exact h.1 b o e
      · rw [upd_same, List.take_add_one, hz, List.map_append]
        rfl
    · have h2 : H' n = some (.lst (ns.map V.int)) := by
        have e := h.2
        rwa [List.length_map, List.take_length] at e
      refine ⟨_, rfl, n, _, rfl, .inl (SqL.of h2), ?_⟩
      refine ⟨_, rfl, 63, rfl, n, _, rfl, SqL.of h2, fun c hc => ?_⟩
      have hcut : cutV (ns.map V.int) none (some 63) = ns.map V.int := by
        unfold cutV
        rw [show HT.sIx (ns.map V.int).length 0 none = 0 from HT.sIx_none .., show HT.sIx (ns.map V.int).length (ns.map V.int).length (some 63) = min 63 (ns.map V.int).length from HT.sIx_nat _ _ 63, List.drop_zero, Nat.sub_zero]
        rw [List.length_map, Nat.min_eq_right hlen]
        exact List.take_of_length_le (by rw [List.length_map]; exact Nat.le_refl _)
      rw [hcut]
      have hn' : n ≠ c := ne_of_none h2 hc
      refine ⟨c, _, rfl, SqL.of upd_same, ?_⟩
      refine for_enum (a := c) (xs := ns.map V.int) (fun i σ H2 => (∃ y1 z y4, σ = [some (.ref a), y1, some (.ref n), some (.int z), y4]) ∧ Same H H2 ∧ H2 n = some (.lst (ns.map V.int)) ∧ H2 c = some (.lst (ns.map V.int))) ⟨⟨_, _, _, rfl⟩, fun b o e => ?_, ?_, ?_⟩ (fun i σ H2 _ p => SqL.of p.2.2.2) (fun i x T σ H2 hx hT p => ?_) (fun σ H2 p => ?_)
      · rw [upd_ne (fun z => ?_)]
        · exact h.1 b o e
        · subst z
          rw [h.1 b o e] at hc
          cases hc
      · rw [upd_ne hn']
        exact h2
      · exact upd_same
      · obtain ⟨⟨y1, z, y4, rfl⟩, hs, e2, e3⟩ := p
        rw [List.getElem?_map] at hx
        obtain ⟨v, hv, rfl⟩ := Option.map_eq_some_iff.mp hx
        refine ⟨T, _, rfl, SqT.of upd_same, rfl, _, _, rfl, _, _, rfl, rfl, ?_⟩
        walk_at "g"
        have nT : n ≠ T := ne_of_none e2 hT
        have cT : c ≠ T := ne_of_none e3 hT
        refine ⟨⟨_, _, _, rfl⟩, fun b o e => same_new hT b o (hs b o e), ?_, ?_⟩
        · rw [upd_ne nT]
          exact e2
        · rw [upd_ne cT]
          exact e3
      · obtain ⟨⟨y1, z, y4, rfl⟩, hs, e2, e3⟩ := p
        refine ⟨_, rfl, _, rfl, (by show 5 ≤ sizeLine; decide), fun b hb => ?_⟩
        refine q b _ (fun x o e => same_new hb x o (hs x o e)) (hs.free hb) ⟨rfl, n, ns, 0, 0, 0, z, upd_same, fun e => ?_, .inl ?_, by decide, by decide⟩
        · exact ne_of_none e2 hb e
        · rw [upd_ne (ne_of_none e2 hb)]
          exact e2
/-- a number is drawn -/
def sp_pick (K : PySem.W.Frag) : Sp := fun vs H Q _ => ∃ (b : Addr) (m : Int) (M : Ms), vs = [.ref b, .int m] ∧ Bag K M H b ∧ 0 < m ∧ m < 1073741824 ∧
  ∀ (w : Int) (H' : Hp), 0 ≤ w → w < m → At b H H' → Bag K M H' b → Q (.int w) H'
theorem At.bag {M : Ms} {H H' : Hp} {b n : Addr} {ns : List Int} {p r t s : Int} (w : M b) (hn : ¬ M n) (rd : Rd H n (.lst (ns.map V.int))) (h : At b H H') (e : H' b = some (.lst [.ref n, .int p, .int r, .int t, .int s])) (hp : 0 ≤ p) (hr : 0 ≤ r) : Bag K M H' b :=
  ⟨w, n, ns, p, r, t, s, e, hn, sx_rd h.sx (fun z => hn (by rw [show n = b from z]; exact w)) rd, hp, hr⟩
theorem At.trans {H H1 H2 : Hp} {b : Addr} (h : At b H H1) (h' : At b H1 H2) : At b H H2 := fun a n => (h' a n).trans (h a n)
theorem ok_pick (T : Txt K mg) : FnOk P w K mg base CX0 2 T.f__law_pick T.d__law_pick ["_law_bag_here", "_law_many"] (sp_pick K) := by
  have G__law_mixed := ok_mixed (P := P) (w := w) (base := base) T
  refine T.F__law_pick.ok sc__law_pick (fun vs H Q E h => ?_) (fun cdv A outer s H vs Q E hr h => ?_)
  · obtain ⟨_, _, _, rfl, _⟩ := h
    rfl
  · obtain ⟨b, m, M, rfl, ⟨wb, n, ns, p, r, t, sd, hb, hn, rd, hp, hr0⟩, hm, hm2, q⟩ := h
    refine ⟨_, (pss_cons (ps_set (i := 2) sc__law_pick.nd rfl (Or.inl rfl) (pe_ix (ix_listK (K := K) rfl) (pv 0) pe_int (fun _ _ => rfl)))
      (pss_cons (ps_asg (pe_op op_add (pv 2) pe_int) (pg_sub (pv 0) pe_int set_list))
      (pss_cons (ps_if (pt_cmpR op_gt (pe_ix (ix_listK (K := K) rfl) (pv 0) pe_int (fun _ _ => rfl)) pe_int (nomark _)) (pss_cons (ps_set (i := 3) sc__law_pick.nd rfl (Or.inl rfl) (pe_op op_mod (pe_callTy call_int1 (by rfl) T.m_int (by decide +kernel) (pa_cons (pe_ix (ix_listK (K := K) rfl) (pv 0) pe_int (fun _ _ => rfl)) pa_nil)) (pv 1)))
      (pss_cons (ps_asg (pe_op op_fdiv (pe_ix (ix_listK (K := K) rfl) (pv 0) pe_int (fun _ _ => rfl)) (pv 1)) (pg_sub (pv 0) pe_int set_list))
      (pss_one (ps_ret (pv 3))))) pss_nil)
      (pss_cons (ps_if (pt_cmpR op_lt (pe_ix (ix_listK (K := K) rfl) (pv 0) pe_int (fun _ _ => rfl)) (pe_callB (call_lenK (K := K) rfl) (by rfl) T.m_len PySem.boot_len (pa_cons (pe_ix (ix_listK (K := K) rfl) (pv 0) pe_int (fun _ _ => rfl)) pa_nil)) (nomark _)) (pss_cons (ps_set (i := 4) sc__law_pick.nd rfl (Or.inl rfl) (pe_ix (ix_listK (K := K) rfl) (pe_ix (ix_listK (K := K) rfl) (pv 0) pe_int (fun _ _ => rfl)) (pe_ix (ix_listK (K := K) rfl) (pv 0) pe_int (fun _ _ => rfl)) (fun _ _ => rfl)))
      (pss_cons (ps_asg (pe_op op_add (pe_ix (ix_listK (K := K) rfl) (pv 0) pe_int (fun _ _ => rfl)) pe_int) (pg_sub (pv 0) pe_int set_list))
      (pss_cons (ps_set (i := 5) sc__law_pick.nd rfl (Or.inl rfl) (pe_callB call_abs (by rfl) T.m_abs (by decide +kernel) (pa_cons (pv 4) pa_nil)))
      (pss_cons (ps_if (pt_cmpR op_ge (pv 5) (pe_op op_pow pe_int pe_int) (nomark _)) (pss_cons (ps_asg (pe_op op_fdiv (pv 5) (pv 1)) (pg_sub (pv 0) pe_int set_list))
      (pss_one (ps_ret (pe_op op_mod (pe_callTy call_int1 (by rfl) T.m_int (by decide +kernel) (pa_cons (pv 5) pa_nil)) (pv 1))))) pss_nil)
      (pss_one (ps_ret (pe_op op_mod (pe_callTy call_int1 (by rfl) T.m_int (by decide +kernel) (pa_cons (pe_call G__law_mixed (hr.mono (by decide)) (by rfl) T.g__law_mixed T.F__law_mixed.kp T.b__law_mixed .nil pass0 (pa_cons (pe_op op_add_ib (pe_op op_add (pv 5) (pv 5)) (pe_cmpR op_lt (pv 4) pe_int (nomark _))) (pa_cons (pv 2) pa_nil))) pa_nil)) (pv 1)))))))) pss_nil)
      (pss_one (ps_ret (pe_op op_mod (pe_callTy call_int1 (by rfl) T.m_int (by decide +kernel) (pa_cons (pe_call G__law_mixed (hr.mono (by decide)) (by rfl) T.g__law_mixed T.F__law_mixed.kp T.b__law_mixed .nil pass0 (pa_cons (pe_ix (ix_listK (K := K) rfl) (pv 0) pe_int (fun _ _ => rfl)) (pa_cons (pv 2) pa_nil))) pa_nil)) (pv 1)))))))), ?_⟩
    -- turn
    walk_at "g"
    walk_at "set"
    generalize e1 : upd H b _ = H1
    have a1 : At b H H1 := by rw [← e1]; exact At.upd
    have b1 : H1 b = some (.lst [.ref n, .int p, .int r, .int (t + 1), .int sd]) := by rw [← e1, upd_same]; rfl
    have rd1 : Rd H1 n (.lst (ns.map V.int)) := sx_rd a1.sx (fun z => hn (by rw [show n = b from z]; exact wb)) rd
    clear e1
    walk_at "g"
    walk_at "if"
    · walk_at "g"
      refine ⟨hm, ?_⟩
      walk_at "g"
      refine ⟨⟨hm, hm2⟩, ?_⟩
      walk_at "g"
      walk_at "set"
      walk_at "g"
      refine q _ _ (Int.emod_nonneg _ (by omega)) (Int.emod_lt_of_pos _ hm) (a1.trans At.upd) ((a1.trans At.upd).bag wb hn rd upd_same hp ?_)
      exact Int.ediv_nonneg hr0 (by omega)
    · walk_at "g"
      walk_at "if"
      · rename_i ep
        have ep' : p < ((ns.map V.int).length : Int) := of_decide_eq_true ep
        obtain ⟨j, rfl⟩ : ∃ j : Nat, p = (j : Int) := ⟨p.toNat, by omega⟩
        have hj : j < ns.length := by
          rw [List.length_map] at ep'
          omega
        have hcell : (ns.map V.int)[j]? = some (.int ns[j]) := by
          rw [List.getElem?_map, List.getElem?_eq_getElem hj]
          rfl
        walk_at "g"
        refine ⟨n, _, _, _, rfl, rfl, Or.inl rd1, atI_nat hcell, ?_⟩
        walk_at "g"
        walk_at "set"
        generalize e2 : upd H1 b _ = H2
        have a2 : At b H H2 := by rw [← e2]; exact a1.trans At.upd
        have b2 : H2 b = some (.lst [.ref n, .int ((j : Int) + 1), .int r, .int (t + 1), .int sd]) := by rw [← e2, upd_same]; rfl
        clear e2
        generalize ns[j] = c
        walk_at "g"
        walk_at "if"
        · walk_at "g"
          refine ⟨⟨hm, hm2⟩, ?_⟩
          walk_at "g"
          walk_at "set"
          walk_at "g"
          refine ⟨hm, ?_⟩
          refine q _ _ (Int.emod_nonneg _ (by omega)) (Int.emod_lt_of_pos _ hm) (a2.trans At.upd) ((a2.trans At.upd).bag wb hn rd upd_same (by omega) ?_)
          exact Int.ediv_nonneg (by split <;> omega) (by omega)
        · walk_at "g"
          refine ⟨_, _, rfl, fun z hz => ?_⟩
          walk_at "g"
          refine ⟨hm, ?_⟩
          exact q _ _ (Int.emod_nonneg _ (by omega)) (Int.emod_lt_of_pos _ hm) a2 (a2.bag wb hn rd b2 (by omega) hr0)
      · walk_at "g"
        refine ⟨_, _, rfl, fun z hz => ?_⟩
        walk_at "g"
        refine ⟨hm, ?_⟩
        exact q _ _ (Int.emod_nonneg _ (by omega)) (Int.emod_lt_of_pos _ hm) a1 (a1.bag wb hn rd b1 hp hr0)
end
end D

namespace D
open PySem PySem.Spec PyProof.Rows L2
local macro_rules | `(tactic| walk_at "st") => `(tactic| first | exact SqT.of (by assumption) | exact Or.inl (by assumption) | exact SqT.of upd_same | fail "st")
local macro_rules | `(tactic| walk_at "ixt") => `(tactic| refine ⟨_, _, _, _, rfl, rfl, (by walk_at "st" : SqT _ _ _ _), by rfl, ?_⟩)
local macro_rules | `(tactic| walk_at "sq") => `(tactic| first | exact SqL.of (by assumption) | assumption | exact Or.inl (by assumption) | exact SqL.of upd_same | fail "sq")
local macro_rules | `(tactic| walk_at "ix") => `(tactic| refine ⟨_, _, _, _, rfl, rfl, (by walk_at "sq" : SqL _ _ _ _), by rfl, ?_⟩)
local macro_rules | `(tactic| walk_at "set") => `(tactic| refine ⟨_, _, _, _, rfl, rfl, by first | assumption | exact upd_same, by rfl, ?_⟩)
local macro_rules | `(tactic| walk_at "len") => `(tactic| refine ⟨_, _, rfl, Or.inl (by walk_at "sq" : SqL _ _ _ _), ?_⟩)
local macro_rules | `(tactic| walk_at "g") => `(tactic| repeat (first | refine ⟨_, rfl, ?_⟩ | refine ⟨_, _, rfl, rfl, ?_⟩ | refine ⟨Or.inr (by decide), ?_⟩ | refine ⟨Or.inl (by decide), ?_⟩ | refine ⟨(by decide : (0 : Int) < _), ?_⟩ | refine ⟨(⟨by decide, by decide⟩ : CDiv _ _), ?_⟩ | refine ⟨(⟨by decide, by decide, by decide⟩ : CPow _ _), ?_⟩ | refine Or.inl ⟨_, rfl, ?_⟩ | refine ⟨rfl, ?_⟩ | walk_at "ix" | walk_at "ixt" | walk_at "len" | fail "g"))
local macro_rules | `(tactic| walk_at "if") => `(tactic| refine ite2 (fun e => ?_) (fun e => ?_))
section
variable {P : Program} {w : World} {K : PySem.W.Frag} {mg : Str → Option Value} {base : Heap}
/-- one thing of a list is chosen -/
def sp_choice (K : PySem.W.Frag) : Sp := fun vs H Q _ => ∃ (b a : Addr) (xs : List V) (M : Ms), vs = [.ref b, .ref a] ∧ Bag K M H b ∧ SqL K H a xs ∧ a ≠ b ∧ 0 < xs.length ∧ xs.length < 1000000 ∧
  ∀ (v : V) (H' : Hp), v ∈ xs → At b H H' → Bag K M H' b → Q v H'
theorem at_pos {α : Type} {xs : List α} {w : Int} (h0 : 0 ≤ w) (h1 : w < (xs.length : Int)) : ∃ v, atI xs w = some v ∧ v ∈ xs ∧ xs[w.toNat]? = some v := by
  obtain ⟨j, rfl⟩ : ∃ j : Nat, w = (j : Int) := ⟨w.toNat, by omega⟩
  have hj : j < xs.length := by omega
  exact ⟨xs[j], atI_nat (List.getElem?_eq_getElem hj), List.getElem_mem hj, List.getElem?_eq_getElem hj⟩
theorem ok_choice (T : Txt K mg) : FnOk P w K mg base CX0 3 T.f__law_choice T.d__law_choice ["_law_bag_here", "_law_things"] (sp_choice K) := by
  have G__law_pick := ok_pick (P := P) (w := w) (base := base) T
  refine T.F__law_choice.ok sc__law_choice (fun vs H Q E h => ?_) (fun cdv A outer s H vs Q E hr h => ?_)
  · obtain ⟨_, _, _, _, rfl, _⟩ := h
    rfl
  · obtain ⟨b, a, xs, M, rfl, hB, hS, hab, hl, hl2, q⟩ := h
    refine ⟨_, (pss_one (ps_ret (pe_ix (ix_listK (K := K) rfl) (pv 1) (pe_call G__law_pick (hr.mono (by decide)) (by rfl) T.g__law_pick T.F__law_pick.kp T.b__law_pick .nil pass0 (pa_cons (pv 0) (pa_cons (pe_callB (call_lenK (K := K) rfl) (by rfl) T.m_len PySem.boot_len (pa_cons (pv 1) pa_nil)) pa_nil))) (fun _ _ => rfl)))), ?_⟩
    walk_at "g"
    refine ⟨b, _, M, rfl, hB, by omega, by omega, fun w H' h0 h1 hA hB' => ?_⟩
    have hS' := sx_l hA.sx (fun z : a = b => hab z) hS
    obtain ⟨v, hv, hm, _⟩ := at_pos h0 h1
    exact ⟨_, _, _, _, rfl, rfl, hS', hv, q v H' hm hA hB'⟩
/-- a list is mingled -/
def sp_mingled (K : PySem.W.Frag) : Sp := fun vs H Q _ => ∃ (b : Addr) (a : V) (ds : List PyData) (M : Ms), vs = [.ref b, a] ∧ Bag K M H b ∧ Mk M H ∧ Rp M H a (.list ds) ∧ ds.length < 1000000 ∧
  Dr K M b H (fun d => ∃ es, d = .list es ∧ es.length = ds.length ∧ ∀ e ∈ es, e ∈ ds) Q
theorem ok_mingled (T : Txt K mg) : FnOk P w K mg base CX0 3 T.f__law_mingled T.d__law_mingled ["_law_bag_here", "_law_things"] (sp_mingled K) := by
  have G__law_pick := ok_pick (P := P) (w := w) (base := base) T
  refine T.F__law_mingled.ok sc__law_mingled (fun vs H Q E h => ?_) (fun cdv A outer s H vs Q E hr h => ?_)
  · obtain ⟨_, _, _, _, rfl, _⟩ := h
    rfl
  · obtain ⟨b, a, ds, M, rfl, hB, hM, hR, hl, q⟩ := h
    cases hR with
    | @lst a xs _ na hS hA =>
    have el := hA.length
    refine ⟨_, (pss_cons (ps_set (i := 2) sc__law_mingled.nd rfl (Or.inl rfl) (pe_callTy (call_listK (K := K) rfl) (by rfl) T.m_list (by decide +kernel) (pa_cons (pv 1) pa_nil)))
      (pss_cons (ps_set (i := 3) sc__law_mingled.nd rfl (Or.inl rfl) (pe_lst pa_nil))
      (pss_cons (ps_for PassesOwn.never rfl (pi_range1 (by rfl) T.m_range (pa_cons (pe_callB (call_lenK (K := K) rfl) (by rfl) T.m_len PySem.boot_len (pa_cons (pv 1) pa_nil)) pa_nil)) (pg_name (i := 4) sc__law_mingled.nd rfl (Or.inl rfl)) (pss_one (ps_expr (pe_bm PySem.F.plainAttrs_list PySem.F.slot_list_append PySem.F.type_list_append mt_append (pv 3) (pa_cons (pe_bm PySem.F.plainAttrs_list PySem.F.slot_list_pop PySem.F.type_list_pop mt_popAt (pv 2) (pa_cons (pe_call G__law_pick (hr.mono (by decide)) (by rfl) T.g__law_pick T.F__law_pick.kp T.b__law_pick .nil pass0 (pa_cons (pv 0) (pa_cons (pe_callB (call_lenK (K := K) rfl) (by rfl) T.m_len PySem.boot_len (pa_cons (pv 2) pa_nil)) pa_nil))) pa_nil)) pa_nil)))))
      (pss_one (ps_ret (pv 3)))))), ?_⟩
    refine ⟨.ref a, rfl, a, xs, rfl, .inl (.inl hS), fun l nl => ?_⟩
    refine ⟨by show 0 ≤ sizeLine; exact Nat.zero_le _, fun o no => ?_⟩
    have lo : l ≠ o := ne_of_none upd_same no
    have Rl := hA.fresh nl
    generalize e1 : upd (upd H l _) o _ = H1
    have s1 : Same H H1 := fun c u e => by rw [← e1]; exact same_new no c u (same_new nl c u e)
    have l1 : H1 l = some (.lst xs) := by rw [← e1, upd_ne lo, upd_same]
    have o1 : H1 o = some (.lst []) := by rw [← e1, upd_same]
    have no0 : H o = none := by
      rw [upd_ne lo.symm] at no
      exact no
    clear e1
    refine ⟨.ref a, rfl, a, xs, rfl, .inl (s1.seq (.inl hS)), ?_⟩
    refine ⟨_, rfl, by omega, by omega, ?_⟩
    have hbl : b ≠ l := fun z => hB.there (by rw [z]; exact nl)
    have hbo : b ≠ o := fun z => hB.there (by rw [z]; exact no0)
    let N : Ms := also (also M l) o
    let F : Ms := also (also (one b) l) o
    have FN : ∀ c, F c → N c := fun c z => z.elim (fun z => z.elim (fun z => .inl (.inl (one_le hB.w c z))) fun z => .inl (.inr z)) .inr
    have hB1 : Bag K N H1 b := by
      have h1 := (hB.more nl).more no0
      exact h1.keep (N := fun _ => False) (fun c u _ e => s1 c u e) (fun z => z) (fun _ z => z.elim)
    have R1 : RpAll N H1 xs ds := (Rl.fresh no0).sx (Sx.same s1)
    refine for_range (lo := 0) (n := (xs.length : Int).toNat) (fun i σ H2 => (∃ y4, σ = [some (.ref b), some (.ref a), some (.ref l), some (.ref o), y4]) ∧ Sx F H H2 ∧ Gr H H2 ∧ Bag K N H2 b ∧
      ∃ ls os es fs, H2 l = some (.lst ls) ∧ H2 o = some (.lst os) ∧ RpAll N H2 ls es ∧ RpAll N H2 os fs ∧ ls.length + i = xs.length ∧ os.length = i ∧ (∀ e ∈ es, e ∈ ds) ∧ (∀ e ∈ fs, e ∈ ds)) ?_ (fun i σ H2 hi p => ?_) (fun σ H2 p => ?_)
    · exact ⟨⟨_, rfl⟩, Sx.same s1, Gr.same s1, hB1, xs, [], ds, [], l1, o1, R1, .nil, by omega, rfl, fun _ h => h, fun _ h => nomatch h⟩
    · obtain ⟨⟨y4, rfl⟩, s2, g2, hB2, ls, os, es, fs, l2, o2, Re, Rf, e1, e2, m1, m2⟩ := p
      have hls : 0 < ls.length := by omega
      refine ⟨.ref o, rfl, .inl ⟨rfl, _, SqL.of o2⟩, .ref l, rfl, .inl ⟨rfl, _, SqL.of l2⟩, ?_⟩
      walk_at "g"
      refine ⟨b, _, N, rfl, hB2, by omega, by omega, fun w H3 h0 h1 hA3 hB3 => ?_⟩
      have l3 : H3 l = some (.lst ls) := (hA3 l hbl.symm).trans l2
      have o3 : H3 o = some (.lst os) := (hA3 o hbo.symm).trans o2
      obtain ⟨j, rfl⟩ : ∃ j : Nat, w = (j : Int) := ⟨w.toNat, by omega⟩
      have hj : j < ls.length := by omega
      have s3 : Sx F H2 H3 := hA3.sx.le fun c z => .inl (.inl z)
      have Re3 := Re.sx (s3.le FN)
      obtain ⟨d, hd, Rd⟩ := Re3.get (List.getElem?_eq_getElem hj)
      refine ⟨l, ls, (j : Int), j, ls[j], rfl, rfl, l3, by omega, by omega, ?_, List.getElem?_eq_getElem hj, ?_⟩
      · exact seqIx hj
      · have lno : o ≠ l := lo.symm
        have o4 : upd H3 l (.lst (ls.eraseIdx j)) o = some (.lst os) := by rw [upd_ne lno]; exact o3
        refine ⟨o, os, ls[j], rfl, rfl, o4, small1000000 (by omega), ?_⟩
        have s4 : Sx F H3 (upd (upd H3 l (.lst (ls.eraseIdx j))) o (.lst (os ++ [ls[j]]))) := (Sx.put (show F l from .inl (.inr rfl))).trans (Sx.put (show F o from .inr rfl))
        have em := Re3.length
        refine ⟨⟨_, rfl⟩, s2.trans (s3.trans s4), g2.trans ((At.gr hA3 hB3.there).trans (Gr.upd.trans Gr.upd)), ?_, ls.eraseIdx j, os ++ [ls[j]], es.eraseIdx j, fs ++ [d], ?_, upd_same, (Re3.eraseIdx j).sx (s4.le FN), ((Rf.sx (s3.le FN)).append (.one Rd)).sx (s4.le FN), ?_, ?_, ?_, ?_⟩
        · exact (hB3.keep (N := one l) (Sx.put rfl) hbl (fun c z => by rw [show c = l from z]; exact .inl (.inr rfl))).keep (N := one o) (Sx.put rfl) hbo (fun c z => by rw [show c = o from z]; exact .inr rfl)
        · rw [upd_ne lo, upd_same]
        · rw [List.length_eraseIdx_of_lt hj]
          omega
        · rw [List.length_append, e2]
          rfl
        · intro e he
          exact m1 e (List.mem_of_mem_eraseIdx he)
        · intro e he
          rcases List.mem_append.mp he with he | he
          · exact m2 e he
          · have := List.mem_singleton.mp he
            subst this
            exact m1 _ (List.mem_of_getElem? hd)
    · obtain ⟨⟨y4, rfl⟩, s2, g2, hB2, ls, os, es, fs, l2, o2, Re, Rf, e1, e2, m1, m2⟩ := p
      refine ⟨.ref o, rfl, q _ _ (.list fs) ((s2.cut no0).cut nl) g2 (hB2.less hB.w fun c z => .inl (.inl z)) (.lst (hM.out no0) (.inl o2) (Rf.less fun c z => .inl (.inl z))) ⟨fs, rfl, ?_, m2⟩⟩
      have := Rf.length
      omega
end
end D

namespace D
open PySem PySem.Spec PyProof.Rows L2
local macro_rules | `(tactic| walk_at "st") => `(tactic| first | exact SqT.of (by assumption) | exact Or.inl (by assumption) | exact SqT.of upd_same | fail "st")
local macro_rules | `(tactic| walk_at "ixt") => `(tactic| refine ⟨_, _, _, _, rfl, rfl, (by walk_at "st" : SqT _ _ _ _), by rfl, ?_⟩)
local macro_rules | `(tactic| walk_at "sq") => `(tactic| first | exact SqL.of (by assumption) | assumption | exact Or.inl (by assumption) | exact SqL.of upd_same | fail "sq")
local macro_rules | `(tactic| walk_at "ix") => `(tactic| refine ⟨_, _, _, _, rfl, rfl, (by walk_at "sq" : SqL _ _ _ _), by rfl, ?_⟩)
local macro_rules | `(tactic| walk_at "set") => `(tactic| refine ⟨_, _, _, _, rfl, rfl, by first | assumption | exact upd_same, by rfl, ?_⟩)
local macro_rules | `(tactic| walk_at "len") => `(tactic| refine ⟨_, _, rfl, Or.inl (by walk_at "sq" : SqL _ _ _ _), ?_⟩)
local macro_rules | `(tactic| walk_at "g") => `(tactic| repeat (first | refine ⟨_, rfl, ?_⟩ | refine ⟨_, _, rfl, rfl, ?_⟩ | refine ⟨Or.inr (by decide), ?_⟩ | refine ⟨Or.inl (by decide), ?_⟩ | refine ⟨(by decide : (0 : Int) < _), ?_⟩ | refine ⟨(⟨by decide, by decide⟩ : CDiv _ _), ?_⟩ | refine ⟨(⟨by decide, by decide, by decide⟩ : CPow _ _), ?_⟩ | refine Or.inl ⟨_, rfl, ?_⟩ | refine ⟨rfl, ?_⟩ | walk_at "ix" | walk_at "ixt" | walk_at "len" | fail "g"))
local macro_rules | `(tactic| walk_at "if") => `(tactic| refine ite2 (fun e => ?_) (fun e => ?_))
section
variable {P : Program} {w : World} {K : PySem.W.Frag} {mg : Str → Option Value} {base : Heap}
def sp_number : Sp := fun vs H Q _ => ∃ i : Int, vs = [.int i] ∧ Q (.bl true) H
theorem ok_number (T : Txt K mg) : FnOk P w K mg base CX0 1 T.f__law_number T.d__law_number ["_law_thing"] sp_number := by
  refine T.F__law_number.ok sc__law_number (fun vs H Q E h => ?_) (fun cdv A outer s H vs Q E hr h => ?_)
  · obtain ⟨_, rfl, _⟩ := h
    rfl
  · obtain ⟨i, rfl, q⟩ := h
    refine ⟨_, (pss_one (ps_ret (pe_and (pe_callB (call_isi1K (K := K) rfl) (by rfl) T.m_isinstance (by decide +kernel) (pa_cons (pv 0) (pa_cons (pe_bltn (v := .ty "int") (u := .type "int") (by rfl) T.m_int (by decide +kernel) rfl) pa_nil))) (pe_one (pe_not (pe_callB (call_isi1K (K := K) rfl) (by rfl) T.m_isinstance (by decide +kernel) (pa_cons (pv 0) (pa_cons (pe_bltn (v := .ty "bool") (u := .type "bool") (by rfl) T.m_bool (by decide +kernel) rfl) pa_nil)))))))), ?_⟩
    walk_at "g"
    refine ⟨_, _, _, _, true, rfl, .ty _, .base (.int _), kit_ty (by decide +kernel), ?_⟩
    walk_at "g"
    walk_at "g"
    refine ⟨_, _, _, _, false, rfl, .ty _, .base (.int _), kit_ty (by decide +kernel), ?_⟩
    walk_at "g"
    exact q
/-- a text is drawn -/
def DrS (K : PySem.W.Frag) (M : Ms) (b : Addr) (H : Hp) (n : Nat) (Q : VK) : Prop := ∀ (z : Str) (H' : Hp), z.length ≤ n → At b H H' → Bag K M H' b → Q (.str z) H'
def sp_text (K : PySem.W.Frag) : Sp := fun vs H Q _ => ∃ (b : Addr) (lo hi : Nat) (M : Ms), vs = [.ref b, .int lo, .int hi] ∧ Bag K M H b ∧ lo ≤ hi ∧ hi ≤ 1000 ∧ DrS K M b H hi Q
theorem ok_text (T : Txt K mg) : FnOk P w K mg base CX0 3 T.f__law_text T.d__law_text ["_law_bag_here", "_law_least", "_law_most"] (sp_text K) := by
  have G__law_pick := ok_pick (P := P) (w := w) (base := base) T
  refine T.F__law_text.ok sc__law_text (fun vs H Q E h => ?_) (fun cdv A outer s H vs Q E hr h => ?_)
  · obtain ⟨_, _, _, _, rfl, _⟩ := h
    rfl
  · obtain ⟨b, lo, hi, M, rfl, hB, h1, h2, q⟩ := h
    refine ⟨_, (pss_cons (ps_set (i := 3) sc__law_text.nd rfl (Or.inl rfl) pe_str)
      (pss_cons (ps_set (i := 3) sc__law_text.nd rfl (Or.inl rfl) (pe_op op_add_str (pv 3) pe_str))
      (pss_cons (ps_set (i := 4) sc__law_text.nd rfl (Or.inl rfl) pe_str)
      (pss_cons (ps_for PassesOwn.never rfl (pi_range1 (by rfl) T.m_range (pa_cons (pe_op op_add (pv 1) (pe_call G__law_pick (hr.mono (by decide)) (by rfl) T.g__law_pick T.F__law_pick.kp T.b__law_pick .nil pass0 (pa_cons (pv 0) (pa_cons (pe_op op_add (pe_op op_sub (pv 2) (pv 1)) pe_int) pa_nil)))) pa_nil)) (pg_name (i := 5) sc__law_text.nd rfl (Or.inl rfl)) (pss_one (ps_set (i := 4) sc__law_text.nd rfl (Or.inl rfl) (pe_op op_add_str (pv 4) (pe_ix ix_str (pv 3) (pe_call G__law_pick (hr.mono (by decide)) (by rfl) T.g__law_pick T.F__law_pick.kp T.b__law_pick .nil pass0 (pa_cons (pv 0) (pa_cons (pe_callB call_len_str (by rfl) T.m_len PySem.boot_len (pa_cons (pv 3) pa_nil)) pa_nil))) (fun _ _ => rfl))))))
      (pss_one (ps_ret (pv 4))))))), ?_⟩
    walk_at "g"
    refine ⟨by decide +kernel, ?_⟩
    generalize hz : (_ ++ _ : Str) = z
    have lz : z.length = 94 := by rw [← hz]; decide +kernel
    clear hz
    walk_at "g"
    refine ⟨b, _, M, rfl, hB, by omega, by omega, fun w H1 h3 h4 hA hB1 => ?_⟩
    walk_at "g"
    refine ⟨by omega, by omega, ?_⟩
    refine for_range (lo := 0) (n := ((lo : Int) + w).toNat) (fun i σ H2 => ∃ (u : Str) (y5 : Option V), σ = [some (.ref b), some (.int lo), some (.int hi), some (.str z), some (.str u), y5] ∧ u.length = i ∧ At b H H2 ∧ Bag K M H2 b) ?_ (fun i σ H2 hi p => ?_) (fun σ H2 p => ?_)
    · exact ⟨_, _, rfl, rfl, hA, hB1⟩
    · obtain ⟨u, y5, rfl, hu, hA2, hB2⟩ := p
      walk_at "g"
      refine ⟨by rw [lz]; decide, ?_⟩
      refine ⟨b, _, M, rfl, hB2, by rw [lz]; decide, by rw [lz]; decide, fun v H3 h5 h6 hA3 hB3 => ?_⟩
      rw [lz] at h6
      obtain ⟨c, hc, _⟩ := at_pos (xs := z.cps.toList) h5 (by rw [show z.cps.toList.length = z.length from Array.length_toList, lz]; exact h6)
      refine ⟨z, v, c, rfl, rfl, by rw [lz]; decide, hc, ?_⟩
      refine ⟨u, _, rfl, rfl, ?_, ?_⟩
      · show u.length + 1 ≤ sizeLine
        exact small1000 (by omega)
      · refine ⟨_, _, rfl, ?_, hA2.trans hA3, hB3⟩
        rw [str_len, hu]
        rfl
    · obtain ⟨u, y5, rfl, hu, hA2, hB2⟩ := p
      walk_at "g"
      exact q u H2 (by omega) hA2 hB2
def sp_label (K : PySem.W.Frag) : Sp := fun vs H Q _ => ∃ (b : Addr) (M : Ms), vs = [.ref b] ∧ Bag K M H b ∧ ∀ (z : Str) (H' : Hp), z.length ≤ 30 → Sx (one b) H H' → Gr H H' → Bag K M H' b → Q (.str z) H'
theorem ok_label (T : Txt K mg) : FnOk P w K mg base CX0 4 T.f__law_label T.d__law_label ["_law_bag_here"] (sp_label K) := by
  have G__law_pick := ok_pick (P := P) (w := w) (base := base) T
  have G__law_choice := ok_choice (P := P) (w := w) (base := base) T
  have G__law_text := ok_text (P := P) (w := w) (base := base) T
  refine T.F__law_label.ok sc__law_label (fun vs H Q E h => ?_) (fun cdv A outer s H vs Q E hr h => ?_)
  · obtain ⟨_, _, rfl, _⟩ := h
    rfl
  · obtain ⟨b, M, rfl, hB, q⟩ := h
    refine ⟨_, (pss_cons (ps_set (i := 1) sc__law_label.nd rfl (Or.inl rfl) (pe_call G__law_pick (hr.mono (by decide)) (by rfl) T.g__law_pick T.F__law_pick.kp T.b__law_pick .nil pass0 (pa_cons (pv 0) (pa_cons pe_int pa_nil))))
      (pss_cons (ps_if (pt_cmpR op_lt (pv 1) pe_int (nomark _)) (pss_one (ps_ret pe_str)) pss_nil)
      (pss_cons (ps_if (pt_cmpR op_eq (pv 1) pe_int (nomark _)) (pss_one (ps_ret pe_str)) pss_nil)
      (pss_cons (ps_if (pt_cmpR op_lt (pv 1) pe_int (nomark _)) (pss_one (ps_ret (pe_op op_add_str pe_str (pe_callTy call_str_int (by rfl) T.m_str (by decide +kernel) (pa_cons (pe_call G__law_pick (hr.mono (by decide)) (by rfl) T.g__law_pick T.F__law_pick.kp T.b__law_pick .nil pass0 (pa_cons (pv 0) (pa_cons pe_int pa_nil))) pa_nil))))) pss_nil)
      (pss_cons (ps_if (pt_cmpR op_eq (pv 1) pe_int (nomark _)) (pss_one (ps_ret (pe_op op_add_str pe_str (pe_call G__law_text (hr.mono (by decide)) (by rfl) T.g__law_text T.F__law_text.kp T.b__law_text .nil pass0 (pa_cons (pv 0) (pa_cons pe_int (pa_cons pe_int pa_nil))))))) pss_nil)
      (pss_cons (ps_if (pt_cmpR op_eq (pv 1) pe_int (nomark _)) (pss_one (ps_ret (pe_call G__law_choice (hr.mono (by decide)) (by rfl) T.g__law_choice T.F__law_choice.kp T.b__law_choice .nil pass0 (pa_cons (pv 0) (pa_cons (pe_lst (pa_cons pe_str (pa_cons pe_str (pa_cons pe_str (pa_cons pe_str (pa_cons pe_str (pa_cons pe_str (pa_cons pe_str (pa_cons pe_str (pa_cons pe_str (pa_cons pe_str (pa_cons pe_str (pa_cons pe_str (pa_cons pe_str (pa_cons pe_str (pa_cons pe_str (pa_cons pe_str (pa_cons pe_str (pa_cons pe_str (pa_cons pe_str pa_nil)))))))))))))))))))) pa_nil))))) pss_nil)
      (pss_one (ps_ret (pe_call G__law_text (hr.mono (by decide)) (by rfl) T.g__law_text T.F__law_text.kp T.b__law_text .nil pass0 (pa_cons (pv 0) (pa_cons pe_int (pa_cons pe_int pa_nil)))))))))))), ?_⟩
    walk_at "g"
    refine ⟨b, _, M, rfl, hB, by omega, by omega, fun w H1 h3 h4 hA hB1 => ?_⟩
    have q1 : ∀ (z : Str) (H' : Hp), z.length ≤ 30 → Sx (one b) H1 H' → Gr H1 H' → Bag K M H' b → Q (.str z) H' := fun z H' h s g => q z H' h (hA.sx.trans s) ((hA.gr hB1.there).trans g)
    have q2 : ∀ (z : Str) (H' : Hp), z.length ≤ 30 → At b H1 H' → Bag K M H' b → Q (.str z) H' := fun z H' h a hb => q1 z H' h a.sx (a.gr hb.there) hb
    walk_at "g"
    walk_at "if"
    · walk_at "g"
      exact q1 _ _ (by decide +kernel) Sx.refl Gr.refl hB1
    walk_at "g"
    walk_at "if"
    · walk_at "g"
      exact q1 _ _ (by decide +kernel) Sx.refl Gr.refl hB1
    walk_at "g"
    walk_at "if"
    · walk_at "g"
      refine ⟨b, _, M, rfl, hB1, by omega, by omega, fun v H2 h5 h6 hA2 hB2 => ?_⟩
      walk_at "g"
      refine ⟨log2_10 h5 h6, ?_⟩
      have hd := dig_len h5 h6
      refine ⟨_, _, rfl, rfl, ?_, ?_⟩
      · refine Nat.le_of_lt (small1000 ?_)
        rw [hd]
        decide +kernel
      · refine q2 _ _ ?_ hA2 hB2
        rw [str_len, hd]
        decide +kernel
    walk_at "g"
    walk_at "if"
    · walk_at "g"
      refine ⟨b, 0, 13, M, rfl, hB1, by decide, by decide, fun z H2 hz hA2 hB2 => ?_⟩
      refine ⟨_, _, rfl, rfl, ?_, ?_⟩
      · refine Nat.le_of_lt (small1000 ?_)
        rw [show (Str.ofString "button ").length = 7 by decide +kernel]
        omega
      · refine q2 _ _ ?_ hA2 hB2
        rw [str_len, show (Str.ofString "button ").length = 7 by decide +kernel]
        omega
    walk_at "g"
    walk_at "if"
    · walk_at "g"
      refine ⟨by decide, fun p hp => ?_⟩
      have hpb : p ≠ b := fun z => hB1.there (by rw [← z]; exact hp)
      refine ⟨b, p, _, M, rfl, hB1.keep (N := fun _ => False) (Sx.new hp) (fun z => z) (fun _ z => z.elim), SqL.of upd_same, hpb, by decide, by decide, fun v H2 hv hA2 hB2 => ?_⟩
      obtain ⟨z, rfl, hz⟩ := lab_all _ (by decide +kernel) v hv
      exact q1 z H2 hz ((Sx.new hp).trans hA2.sx) (Gr.upd.trans (hA2.gr hB2.there)) hB2
    walk_at "g"
    refine ⟨b, 1, 20, M, rfl, hB1, by decide, by decide, fun z H2 hz hA2 hB2 => ?_⟩
    exact q2 z H2 (by omega) hA2 hB2
def sp_pair (K : PySem.W.Frag) : Sp := fun vs H Q _ => ∃ (b : Addr) (x y : Int) (M : Ms), vs = [.ref b, .int x, .int y] ∧ Bag K M H b ∧ 0 ≤ x ∧ x < 1000000 ∧ 0 ≤ y ∧ y < 1000000 ∧ Mk M H ∧
  Dr K M b H (fun d => ∃ p : Int × Int, d = pD p ∧ 0 ≤ p.1 ∧ 0 ≤ p.2) Q
theorem ok_pair (T : Txt K mg) : FnOk P w K mg base CX0 3 T.f__law_pair T.d__law_pair ["_law_bag_here", "_law_wide", "_law_high"] (sp_pair K) := by
  have G__law_pick := ok_pick (P := P) (w := w) (base := base) T
  refine T.F__law_pair.ok sc__law_pair (fun vs H Q E h => ?_) (fun cdv A outer s H vs Q E hr h => ?_)
  · obtain ⟨_, _, _, _, rfl, _⟩ := h
    rfl
  · obtain ⟨b, x, y, M, rfl, hB, hx, hx2, hy, hy2, hM, q⟩ := h
    refine ⟨_, (pss_cons (ps_set (i := 3) sc__law_pair.nd rfl (Or.inl rfl) (pe_call G__law_pick (hr.mono (by decide)) (by rfl) T.g__law_pick T.F__law_pick.kp T.b__law_pick .nil pass0 (pa_cons (pv 0) (pa_cons (pe_op op_add (pv 1) pe_int) pa_nil))))
      (pss_cons (ps_set (i := 4) sc__law_pair.nd rfl (Or.inl rfl) (pe_call G__law_pick (hr.mono (by decide)) (by rfl) T.g__law_pick T.F__law_pick.kp T.b__law_pick .nil pass0 (pa_cons (pv 0) (pa_cons (pe_op op_add (pv 2) pe_int) pa_nil))))
      (pss_cons (ps_if (PW.pt (pw_or (pt_cmpR op_eq (pv 3) pe_int (nomark _)) (pw_or1 (pt_cmpR op_eq (pv 4) pe_int (nomark _))))) (pss_one (ps_ret (pe_tup (pa_cons pe_int (pa_cons pe_int pa_nil))))) pss_nil)
      (pss_one (ps_ret (pe_tup (pa_cons (pv 3) (pa_cons (pv 4) pa_nil)))))))), ?_⟩
    walk_at "g"
    refine ⟨b, _, M, rfl, hB, by omega, by omega, fun v H1 h1 h2 hA1 hB1 => ?_⟩
    walk_at "g"
    refine ⟨b, _, M, rfl, hB1, by omega, by omega, fun u H2 h3 h4 hA2 hB2 => ?_⟩
    have hA := hA1.trans hA2
    have hM2 : Mk M H2 := hM.gr (hA.gr hB2.there)
    have fin : ∀ (p : Addr) (i j : Int), 0 ≤ i → 0 ≤ j → H2 p = none → Q (.ref p) (upd H2 p (.tup [.int i, .int j])) := fun p i j hi hj hp =>
      q _ _ (pD (i, j)) (hA.sx.trans (Sx.new hp)) ((hA.gr hB2.there).trans Gr.upd) (hB2.keep (N := fun _ => False) (Sx.new hp) (fun z => z) (fun _ z => z.elim)) (.tup (hM2.out hp) (.inl upd_same) (.cons (.int i) (.cons (.int j) .nil))) ⟨(i, j), rfl, hi, hj⟩
    walk_at "g"
    walk_at "if"
    · walk_at "g"
      refine ⟨by decide, fun p hp => ?_⟩
      exact fin p 0 0 (by decide) (by decide) hp
    · walk_at "g"
      walk_at "if"
      · walk_at "g"
        refine ⟨by decide, fun p hp => ?_⟩
        exact fin p 0 0 (by decide) (by decide) hp
      · walk_at "g"
        refine ⟨sz2, fun p hp => ?_⟩
        exact fin p v u h1 h3 hp
end
end D

namespace D
open PySem PySem.Spec PyProof.Rows L2
local macro_rules | `(tactic| walk_at "st") => `(tactic| first | exact SqT.of (by assumption) | exact Or.inl (by assumption) | exact SqT.of upd_same | fail "st")
local macro_rules | `(tactic| walk_at "ixt") => `(tactic| refine ⟨_, _, _, _, rfl, rfl, (by walk_at "st" : SqT _ _ _ _), by rfl, ?_⟩)
local macro_rules | `(tactic| walk_at "sq") => `(tactic| first | exact SqL.of (by assumption) | assumption | exact Or.inl (by assumption) | exact SqL.of upd_same | fail "sq")
local macro_rules | `(tactic| walk_at "ix") => `(tactic| refine ⟨_, _, _, _, rfl, rfl, (by walk_at "sq" : SqL _ _ _ _), by rfl, ?_⟩)
local macro_rules | `(tactic| walk_at "set") => `(tactic| refine ⟨_, _, _, _, rfl, rfl, by first | assumption | exact upd_same, by rfl, ?_⟩)
local macro_rules | `(tactic| walk_at "len") => `(tactic| refine ⟨_, _, rfl, Or.inl (by walk_at "sq" : SqL _ _ _ _), ?_⟩)
local macro_rules | `(tactic| walk_at "g") => `(tactic| repeat (first | refine ⟨_, rfl, ?_⟩ | refine ⟨_, _, rfl, rfl, ?_⟩ | refine ⟨Or.inr (by decide), ?_⟩ | refine ⟨Or.inl (by decide), ?_⟩ | refine ⟨(by decide : (0 : Int) < _), ?_⟩ | refine ⟨(⟨by decide, by decide⟩ : CDiv _ _), ?_⟩ | refine ⟨(⟨by decide, by decide, by decide⟩ : CPow _ _), ?_⟩ | refine Or.inl ⟨_, rfl, ?_⟩ | refine ⟨rfl, ?_⟩ | walk_at "ix" | walk_at "ixt" | walk_at "len" | fail "g"))
local macro_rules | `(tactic| walk_at "if") => `(tactic| refine ite2 (fun e => ?_) (fun e => ?_))
section
variable {P : Program} {w : World} {K : PySem.W.Frag} {mg : Str → Option Value} {base : Heap}
theorem same_new2 {H H' : Hp} {p : Addr} {o : HO} (s : Same H H') (h : H' p = none) : Same H (upd H' p o) := s.trans (same_new h)
/-- a list that is made beside stays away -/
theorem same_mut {H H' : Hp} {p : Addr} {o : HO} (s : Same H H') (h : H p = none) : Same H (upd H' p o) := fun a u e => by
  rw [upd_ne (ne_of_none e h)]
  exact s a u e
def sp_due : Sp := fun vs H Q _ => ∃ (z : Str) (v : V) (ps : List (Int × Int)) (M : Ms), vs = [.str z, v] ∧ Rp M H v (.list (ps.map pD)) ∧ Mk M H ∧ z.length ≤ 1000 ∧ ps.length ≤ 1000000 ∧ Pu M H (fun d => d = pD (szf z ps)) Q
theorem ok_due (T : Txt K mg) : FnOk P w K mg base CX0 1 T.f__law_due T.d__law_due ["_law_label_here", "_law_pairs"] sp_due := by
  refine T.F__law_due.ok sc__law_due (fun vs H Q E h => ?_) (fun cdv A outer s H vs Q E hr h => ?_)
  · obtain ⟨_, _, _, _, rfl, _⟩ := h
    rfl
  · obtain ⟨z, v, ps, M, rfl, hR, hM, hz, hl, q⟩ := h
    cases hR with
    | @lst a xs _ na hS hA =>
    have el := hA.length
    rw [List.length_map] at el
    have fin : ∀ (p : Addr) (i j : Int) (H' : Hp), Same H H' → H' p = none → (i, j) = szf z ps → Q (.ref p) (upd H' p (.tup [.int i, .int j])) := fun p i j H' hs hp e =>
      q _ _ (pD (i, j)) (same_new2 hs hp) (.tup (hM.out (hs.free hp)) (.inl upd_same) (.cons (.int i) (.cons (.int j) .nil))) (by rw [e])
    refine ⟨_, (pss_cons (ps_if (pt_cmpR op_eq (pe_callB (call_lenK (K := K) rfl) (by rfl) T.m_len PySem.boot_len (pa_cons (pv 1) pa_nil)) pe_int (nomark _)) (pss_cons (ps_if (PW.pt (pw_or (pt_cmpR op_eq (pv 0) pe_str (nomark _)) (pw_or1 (pt_cmpR op_eq (pv 0) pe_str (nomark _))))) (pss_one (ps_ret (pe_tup (pa_cons pe_int (pa_cons pe_int pa_nil))))) pss_nil)
      (pss_one (ps_ret (pe_tup (pa_cons (pe_callB call_len_str (by rfl) T.m_len PySem.boot_len (pa_cons (pv 0) pa_nil)) (pa_cons pe_int pa_nil)))))) pss_nil)
      (pss_cons (ps_set (i := 2) sc__law_due.nd rfl (Or.inl rfl) pe_int)
      (pss_cons (ps_set (i := 3) sc__law_due.nd rfl (Or.inl rfl) pe_int)
      (pss_cons (ps_for PassesOwn.never rfl (pi_listK (K := K) rfl (pv 1)) (pg_name (i := 4) sc__law_due.nd rfl (Or.inl rfl)) (pss_cons (ps_if (pt_cmpR op_gt (pe_ix (ix_tupK (K := K) rfl) (pv 4) pe_int (fun _ _ => rfl)) (pv 2) (nomark _)) (pss_one (ps_set (i := 2) sc__law_due.nd rfl (Or.inl rfl) (pe_ix (ix_tupK (K := K) rfl) (pv 4) pe_int (fun _ _ => rfl)))) pss_nil)
      (pss_one (ps_if (pt_cmpR op_gt (pe_ix (ix_tupK (K := K) rfl) (pv 4) pe_int (fun _ _ => rfl)) (pv 3) (nomark _)) (pss_one (ps_set (i := 3) sc__law_due.nd rfl (Or.inl rfl) (pe_ix (ix_tupK (K := K) rfl) (pv 4) pe_int (fun _ _ => rfl)))) pss_nil))))
      (pss_cons (ps_if (pt_cmpR op_eq (pv 0) pe_str (nomark _)) (pss_one (ps_ret (pe_tup (pa_cons (pe_callB (cr_sumK (K := K) rfl rfl) (by rfl) T.m_sum (by decide +kernel) (pa_cons (pe_lc (own := [("_law_pair_here", 4)]) (g := gName 4) (tt := tYes) (by rfl) sc__law_due.nd (pi_listK (K := K) rfl (pv 1)) (blkOk_by (own := [("_law_pair_here", 4)]) (N := ["_law_label_here", "_law_pairs", "_law_widest", "_law_highest", "_law_pair_here"]) (sc := defScope s__law_due) (by decide +kernel)) (fun _ _ _ _ _ => (pg_name (i := 4) sc__law_due.nd rfl (Or.inl rfl))) (fun _ _ _ _ _ => pts_nil) (fun _ _ _ _ _ => (pe_ix (ix_tupK (K := K) rfl) (pv 4) pe_int (fun _ _ => rfl)))) pa_nil)) (pa_cons (pv 3) pa_nil))))) pss_nil)
      (pss_one (ps_ret (pe_tup (pa_cons (pv 2) (pa_cons (pe_callB (cr_sumK (K := K) rfl rfl) (by rfl) T.m_sum (by decide +kernel) (pa_cons (pe_lc (own := [("_law_pair_here", 4)]) (g := gName 4) (tt := tYes) (by rfl) sc__law_due.nd (pi_listK (K := K) rfl (pv 1)) (blkOk_by (own := [("_law_pair_here", 4)]) (N := ["_law_label_here", "_law_pairs", "_law_widest", "_law_highest", "_law_pair_here"]) (sc := defScope s__law_due) (by decide +kernel)) (fun _ _ _ _ _ => (pg_name (i := 4) sc__law_due.nd rfl (Or.inl rfl))) (fun _ _ _ _ _ => pts_nil) (fun _ _ _ _ _ => (pe_ix (ix_tupK (K := K) rfl) (pv 4) pe_int (fun _ _ => rfl)))) pa_nil)) pa_nil)))))))))), ?_⟩
    walk_at "g"
    walk_at "if"
    · rename_i e
      have e0 : (xs.length : Int) = 0 := V.int.inj (of_decide_eq_true e)
      have ep : ps = [] := List.length_eq_zero_iff.mp (by omega)
      walk_at "g"
      walk_at "if"
      · rename_i e1
        have e1' : z = sRow := V.str.inj (of_decide_eq_true e1)
        walk_at "g"
        refine ⟨sz2, fun p hp => fin p _ _ H (Same.refl H) hp ?_⟩
        unfold szf
        rw [if_pos ep, if_pos (.inl e1')]
      · rename_i e1
        have e1' : ¬ z = sRow := fun h => e1 (decide_eq_true (by rw [h]; rfl))
        walk_at "g"
        walk_at "if"
        · rename_i e2
          have e2' : z = sCol := V.str.inj (of_decide_eq_true e2)
          walk_at "g"
          refine ⟨sz2, fun p hp => fin p _ _ H (Same.refl H) hp ?_⟩
          unfold szf
          rw [if_pos ep, if_pos (.inr e2')]
        · rename_i e2
          have e2' : ¬ z = sCol := fun h => e2 (decide_eq_true (by rw [h]; rfl))
          walk_at "g"
          refine ⟨Nat.le_of_lt (small1000 hz), ?_⟩
          refine ⟨sz2, fun p hp => fin p _ _ H (Same.refl H) hp ?_⟩
          unfold szf
          rw [if_pos ep, if_neg (fun h => h.elim e1' e2')]
    · rename_i e
      have ep : ¬ ps = [] := fun h => e (decide_eq_true (by rw [el, h]; rfl))
      walk_at "g"
      refine ⟨⟨_, .inl hS⟩, ?_⟩
      refine for_list (K := K) (a := a) (xs := xs) (fun i σ H' => ∃ y4, σ = [some (.str z), some (.ref a), some (.int (mx ((ps.take i).map (·.1)))), some (.int (mx ((ps.take i).map (·.2)))), y4] ∧ H' = H) ⟨_, rfl, rfl⟩ (fun i σ H' _ p => ?_) (fun i x σ H' hx p => ?_) (fun σ H' p => ?_)
      · obtain ⟨y4, rfl, rfl⟩ := p
        exact .inl hS
      · obtain ⟨y4, rfl, rfl⟩ := p
        obtain ⟨p, t, hp, rfl, ht⟩ := hA.pair hx
        have m1 : mx ((ps.take (i + 1)).map (·.1)) = if mx ((ps.take i).map (·.1)) < p.1 then p.1 else mx ((ps.take i).map (·.1)) := by
          rw [List.map_take, List.map_take]
          exact mx_take (by rw [List.getElem?_map, hp]; rfl)
        have m2 : mx ((ps.take (i + 1)).map (·.2)) = if mx ((ps.take i).map (·.2)) < p.2 then p.2 else mx ((ps.take i).map (·.2)) := by
          rw [List.map_take, List.map_take]
          exact mx_take (by rw [List.getElem?_map, hp]; rfl)
        walk_at "g"
        walk_at "if"
        · rename_i c1
          have c1' := of_decide_eq_true c1
          rw [if_pos c1'] at m1
          walk_at "g"
          walk_at "if"
          · rename_i c2
            have c2' := of_decide_eq_true c2
            rw [if_pos c2'] at m2
            walk_at "g"
            exact ⟨_, by rw [m1, m2]; rfl, rfl⟩
          · rename_i c2
            have c2' : ¬ mx ((ps.take i).map (·.2)) < p.2 := fun h => c2 (decide_eq_true h)
            rw [if_neg c2'] at m2
            exact ⟨_, by rw [m1, m2]; rfl, rfl⟩
        · rename_i c1
          have c1' : ¬ mx ((ps.take i).map (·.1)) < p.1 := fun h => c1 (decide_eq_true h)
          rw [if_neg c1'] at m1
          walk_at "g"
          walk_at "if"
          · rename_i c2
            have c2' := of_decide_eq_true c2
            rw [if_pos c2'] at m2
            walk_at "g"
            exact ⟨_, by rw [m1, m2]; rfl, rfl⟩
          · rename_i c2
            have c2' : ¬ mx ((ps.take i).map (·.2)) < p.2 := fun h => c2 (decide_eq_true h)
            rw [if_neg c2'] at m2
            exact ⟨_, by rw [m1, m2]; rfl, rfl⟩
      · obtain ⟨y4, rfl, rfl⟩ := p
        rw [el, List.take_length]
        walk_at "g"
        walk_at "if"
        · rename_i e1
          have e1' : z = sRow := V.str.inj (of_decide_eq_true e1)
          walk_at "g"
          refine ⟨⟨_, .inl hS⟩, fun D hD => ?_⟩
          refine lc_vals (ys := (ps.map (·.1)).map V.int) hD (.inl hS) (by rw [List.length_map, List.length_map, el]) (by omega) (fun i x y H' C N hx hy hs hC => ?_) (fun H' hs hD' => ?_)
          · obtain ⟨p, t, hp, rfl, ht⟩ := hA.pair hx
            rw [List.getElem?_map, List.getElem?_map, hp] at hy
            cases hy
            have ht' := same_rd hs ht
            refine ⟨rfl, ?_⟩
            walk_at "g"
            exact hC
          · refine ⟨D, _, rfl, SqL.of hD', ?_⟩
            walk_at "g"
            refine ⟨sz2, fun p hp => fin p _ _ H' hs hp ?_⟩
            unfold szf
            rw [if_neg ep, if_pos e1']
        · rename_i e1
          have e1' : ¬ z = sRow := fun h => e1 (decide_eq_true (by rw [h]; rfl))
          walk_at "g"
          refine ⟨⟨_, .inl hS⟩, fun D hD => ?_⟩
          refine lc_vals (ys := (ps.map (·.2)).map V.int) hD (.inl hS) (by rw [List.length_map, List.length_map, el]) (by omega) (fun i x y H' C N hx hy hs hC => ?_) (fun H' hs hD' => ?_)
          · obtain ⟨p, t, hp, rfl, ht⟩ := hA.pair hx
            rw [List.getElem?_map, List.getElem?_map, hp] at hy
            cases hy
            have ht' := same_rd hs ht
            refine ⟨rfl, ?_⟩
            walk_at "g"
            exact hC
          · refine ⟨D, _, rfl, SqL.of hD', ?_⟩
            walk_at "g"
            refine ⟨sz2, fun p hp => fin p _ _ H' hs hp ?_⟩
            unfold szf
            rw [if_neg ep, if_neg e1']
def sp_is_pair : Sp := fun vs H Q _ => ∃ (v : V) (p : Int × Int) (M : Ms), vs = [v] ∧ Rp M H v (pD p) ∧ Q (.bl true) H
theorem rd_ty {K : PySem.W.Frag} {H : Hp} {a : Addr} {xs : List V} (h : Rd H a (.tup xs)) : TyX K H (.ref a) (.type "tuple") := by
  rcases h with h | ⟨o, h⟩
  · exact .base (.tup h)
  · exact .fTuple h
theorem ok_is_pair (T : Txt K mg) : FnOk P w K mg base CX0 2 T.f__law_is_pair T.d__law_is_pair ["_law_thing"] sp_is_pair := by
  have G__law_number := ok_number (P := P) (w := w) (base := base) T
  refine T.F__law_is_pair.ok sc__law_is_pair (fun vs H Q E h => ?_) (fun cdv A outer s H vs Q E hr h => ?_)
  · obtain ⟨_, _, _, rfl, _⟩ := h
    rfl
  · obtain ⟨v, p, M, rfl, hR, q⟩ := h
    obtain ⟨t, rfl, ht⟩ := hR.pair
    refine ⟨_, (pss_one (ps_ret (pe_and (pe_callB (call_isi1K (K := K) rfl) (by rfl) T.m_isinstance (by decide +kernel) (pa_cons (pv 0) (pa_cons (pe_bltn (v := .ty "tuple") (u := .type "tuple") (by rfl) T.m_tuple (by decide +kernel) rfl) pa_nil))) (pe_and (pe_cmpR op_eq (pe_callB (call_lenK (K := K) rfl) (by rfl) T.m_len PySem.boot_len (pa_cons (pv 0) pa_nil)) pe_int (nomark _)) (pe_and (pe_call G__law_number (hr.mono (by decide)) (by rfl) T.g__law_number T.F__law_number.kp T.b__law_number .nil pass0 (pa_cons (pe_ix (ix_tupK (K := K) rfl) (pv 0) pe_int (fun _ _ => rfl)) pa_nil)) (pe_one (pe_call G__law_number (hr.mono (by decide)) (by rfl) T.g__law_number T.F__law_number.kp T.b__law_number .nil pass0 (pa_cons (pe_ix (ix_tupK (K := K) rfl) (pv 0) pe_int (fun _ _ => rfl)) pa_nil)))))))), ?_⟩
    walk_at "g"
    refine ⟨_, _, _, _, true, rfl, .ty _, rd_ty ht, kit_ty (by decide +kernel), ?_⟩
    walk_at "g"
    refine ⟨_, _, rfl, .inr (.inl ht), ?_⟩
    walk_at "g"
    exact q
theorem in_two (z : Str) : inV (.str z) [.str sRow, .str sCol] = true ↔ (z = sRow ∨ z = sCol) := by
  unfold inV
  simp only [List.any_cons, List.any_nil, eqV, Bool.or_false, Bool.or_eq_true, beq_iff_eq]
  constructor <;> (intro h; rcases h with h | h <;> simp [h])
def sp_measure : Sp := fun vs H Q _ => ∃ (z : Str) (v : V) (ps : List (Int × Int)) (M : Ms), vs = [.str z, v] ∧ Rp M H v (.tuple (ps.map pD)) ∧ Mk M H ∧ z.length ≤ 1000 ∧ ps.length ≤ 1000000 ∧ (∀ p ∈ ps, 0 ≤ p.1 ∧ 0 ≤ p.2) ∧ Pu M H (fun d => d = pD (szf z ps)) Q
theorem ok_measure (T : Txt K mg) : FnOk P w K mg base CX0 1 T.f_measure T.d_measure ["label", "sizes"] sp_measure := by
  refine T.F_measure.ok sc_measure (fun vs H Q E h => ?_) (fun cdv A outer s H vs Q E hr h => ?_)
  · obtain ⟨_, _, _, _, rfl, _⟩ := h
    rfl
  · obtain ⟨z, v, ps, M, rfl, hR, hM, hz, hl, hp0, q⟩ := h
    cases hR with
    | @tup a xs _ na hS hA =>
    have el := hA.length
    rw [List.length_map] at el
    have fin : ∀ (p : Addr) (i j : Int) (H' : Hp), Same H H' → H' p = none → (i, j) = szf z ps → Q (.ref p) (upd H' p (.tup [.int i, .int j])) := fun p i j H' hs hp e =>
      q _ _ (pD (i, j)) (same_new2 hs hp) (.tup (hM.out (hs.free hp)) (.inl upd_same) (.cons (.int i) (.cons (.int j) .nil))) (by rw [e])
    refine ⟨_, (pss_cons (ps_if (pt_not (pt_truthK (K := K) rfl (pv 1) (by intro _; rfl))) (pss_one (ps_ret (pe_ifExp (pt_cmpR (op_in_seqK (K := K) rfl) (pv 0) (pe_tup (pa_cons pe_str (pa_cons pe_str pa_nil))) (by rfl)) (pe_tup (pa_cons pe_int (pa_cons pe_int pa_nil))) (pe_tup (pa_cons (pe_callB call_len_str (by rfl) T.m_len PySem.boot_len (pa_cons (pv 0) pa_nil)) (pa_cons pe_int pa_nil)))))) pss_nil)
      (pss_cons (ps_if (pt_cmpR op_eq (pv 0) pe_str (nomark _)) (pss_one (ps_ret (pe_tup (pa_cons (pe_callB (cr_sumK (K := K) rfl rfl) (by rfl) T.m_sum (by decide +kernel) (pa_cons (pe_lc (own := [("width", 2), ("_", 3)]) (g := gTup K 2 (gCons (gName 2) (gCons (gName 3) gNil))) (tt := tYes) (by rfl) sc_measure.nd (pi_tupK (K := K) rfl (pv 1)) (blkOk_by (own := [("width", 2), ("_", 3)]) (N := ["label", "sizes", "width", "_", "height"]) (sc := defScope s_measure) (by decide +kernel)) (fun _ _ _ _ _ => (pg_tupK (K := K) rfl rfl (pgs_cons (pg_name (i := 2) sc_measure.nd rfl (Or.inl rfl)) (pgs_cons (pg_name (i := 3) sc_measure.nd rfl (Or.inl rfl)) pgs_nil)))) (fun _ _ _ _ _ => pts_nil) (fun _ _ _ _ _ => (pv 2))) pa_nil)) (pa_cons (pe_callB (cr_maxK (K := K) rfl rfl) (by rfl) T.m_max (by decide +kernel) (pa_cons (pe_lc (own := [("_", 3), ("height", 4)]) (g := gTup K 2 (gCons (gName 3) (gCons (gName 4) gNil))) (tt := tYes) (by rfl) sc_measure.nd (pi_tupK (K := K) rfl (pv 1)) (blkOk_by (own := [("_", 3), ("height", 4)]) (N := ["label", "sizes", "width", "_", "height"]) (sc := defScope s_measure) (by decide +kernel)) (fun _ _ _ _ _ => (pg_tupK (K := K) rfl rfl (pgs_cons (pg_name (i := 3) sc_measure.nd rfl (Or.inl rfl)) (pgs_cons (pg_name (i := 4) sc_measure.nd rfl (Or.inl rfl)) pgs_nil)))) (fun _ _ _ _ _ => pts_nil) (fun _ _ _ _ _ => (pe_callTy call_int1 (by rfl) T.m_int (by decide +kernel) (pa_cons (pv 4) pa_nil)))) pa_nil)) pa_nil))))) pss_nil)
      (pss_one (ps_ret (pe_tup (pa_cons (pe_callB (cr_maxK (K := K) rfl rfl) (by rfl) T.m_max (by decide +kernel) (pa_cons (pe_lc (own := [("width", 2), ("_", 3)]) (g := gTup K 2 (gCons (gName 2) (gCons (gName 3) gNil))) (tt := tYes) (by rfl) sc_measure.nd (pi_tupK (K := K) rfl (pv 1)) (blkOk_by (own := [("width", 2), ("_", 3)]) (N := ["label", "sizes", "width", "_", "height"]) (sc := defScope s_measure) (by decide +kernel)) (fun _ _ _ _ _ => (pg_tupK (K := K) rfl rfl (pgs_cons (pg_name (i := 2) sc_measure.nd rfl (Or.inl rfl)) (pgs_cons (pg_name (i := 3) sc_measure.nd rfl (Or.inl rfl)) pgs_nil)))) (fun _ _ _ _ _ => pts_nil) (fun _ _ _ _ _ => (pe_callTy call_int1 (by rfl) T.m_int (by decide +kernel) (pa_cons (pv 2) pa_nil)))) pa_nil)) (pa_cons (pe_callB (cr_sumK (K := K) rfl rfl) (by rfl) T.m_sum (by decide +kernel) (pa_cons (pe_lc (own := [("_", 3), ("height", 4)]) (g := gTup K 2 (gCons (gName 3) (gCons (gName 4) gNil))) (tt := tYes) (by rfl) sc_measure.nd (pi_tupK (K := K) rfl (pv 1)) (blkOk_by (own := [("_", 3), ("height", 4)]) (N := ["label", "sizes", "width", "_", "height"]) (sc := defScope s_measure) (by decide +kernel)) (fun _ _ _ _ _ => (pg_tupK (K := K) rfl rfl (pgs_cons (pg_name (i := 3) sc_measure.nd rfl (Or.inl rfl)) (pgs_cons (pg_name (i := 4) sc_measure.nd rfl (Or.inl rfl)) pgs_nil)))) (fun _ _ _ _ _ => pts_nil) (fun _ _ _ _ _ => (pv 4))) pa_nil)) pa_nil))))))), ?_⟩
    refine ⟨.ref a, rfl, !xs.isEmpty, .inr (.inl ⟨xs, .inl hS, rfl⟩), ?_⟩
    walk_at "if"
    · rename_i e
      have e0 : xs = [] := by
        cases xs with
        | nil => rfl
        | cons _ _ => cases e
      have ep : ps = [] := List.length_eq_zero_iff.mp (by rw [← el, e0]; rfl)
      walk_at "g"
      refine ⟨sz2, fun t ht => ?_⟩
      refine ⟨t, _, rfl, .inr (SqT.of upd_same), rfl, rfl, ?_⟩
      walk_at "g"
      walk_at "if"
      · rename_i e1
        have e2 : z = sRow ∨ z = sCol := (in_two z).mp e1
        walk_at "g"
        refine ⟨sz2, fun p hp => ?_⟩
        refine fin p _ _ _ (same_new ht) hp ?_
        unfold szf
        rw [if_pos ep, if_pos e2]
      · rename_i e1
        have e2 : ¬ (z = sRow ∨ z = sCol) := fun h => e1 ((in_two z).mpr h)
        walk_at "g"
        refine ⟨Nat.le_of_lt (small1000 hz), ?_⟩
        refine ⟨sz2, fun p hp => ?_⟩
        refine fin p _ _ _ (same_new ht) hp ?_
        unfold szf
        rw [if_pos ep, if_neg e2]
    · rename_i e
      have ep : ¬ ps = [] := fun h => e (by
        have : xs = [] := List.length_eq_zero_iff.mp (by rw [el, h]; rfl)
        rw [this]
        rfl)
      have pos : 0 < ps.length := List.length_pos_iff.mpr ep
      walk_at "g"
      walk_at "if"
      · rename_i e1
        have e1' : z = sRow := V.str.inj (of_decide_eq_true e1)
        walk_at "g"
        refine ⟨⟨_, .inl hS⟩, fun D hD => ?_⟩
        refine lc_valsT (ys := (ps.map (·.1)).map V.int) hD (.inl hS) (by rw [List.length_map, List.length_map, el]) (by omega) (fun i x y H' C N hx hy hs hC => ?_) (fun H' hs hD' => ?_)
        · obtain ⟨p, t, hp, rfl, ht⟩ := hA.pair hx
          rw [List.getElem?_map, List.getElem?_map, hp] at hy
          cases hy
          have ht' := same_rd hs ht
          refine ⟨t, _, rfl, .inl ht', rfl, ?_⟩
          refine ⟨_, _, rfl, _, _, rfl, rfl, rfl, ?_⟩
          walk_at "g"
          exact hC
        · refine ⟨D, _, rfl, SqL.of hD', ?_⟩
          have hs1 := hs
          refine ⟨.ref a, rfl, a, rfl, ⟨_, .inl (same_rd hs1 hS)⟩, fun D2 hD2 => ?_⟩
          refine lc_valsT (ys := (ps.map (·.2)).map V.int) hD2 (.inl (same_rd hs1 hS)) (by rw [List.length_map, List.length_map, el]) (by omega) (fun i x y H' C N hx hy hs hC => ?_) (fun H2 hs2 hE => ?_)
          · obtain ⟨p, t, hp, rfl, ht⟩ := hA.pair hx
            rw [List.getElem?_map, List.getElem?_map, hp] at hy
            cases hy
            have ht' := same_rd (hs1.trans hs) ht
            refine ⟨t, _, rfl, .inl ht', rfl, _, _, rfl, _, _, rfl, rfl, rfl, ?_⟩
            walk_at "g"
            exact hC
          · refine ⟨D2, _, rfl, SqL.of hE, by rw [List.length_map]; exact pos, fun m hm hle => ?_⟩
            walk_at "g"
            refine ⟨sz2, fun p hp => fin p _ _ H2 (hs1.trans hs2) hp ?_⟩
            have em : m = mx (ps.map (·.2)) := mx_of (fun n hn => by
              obtain ⟨p, hp, rfl⟩ := List.mem_map.mp hn
              exact (hp0 p hp).2) hm hle
            unfold szf
            rw [if_neg ep, if_pos e1', em]
      · rename_i e1
        have e1' : ¬ z = sRow := fun h => e1 (decide_eq_true (by rw [h]; rfl))
        walk_at "g"
        refine ⟨⟨_, .inl hS⟩, fun D hD => ?_⟩
        refine lc_valsT (ys := (ps.map (·.1)).map V.int) hD (.inl hS) (by rw [List.length_map, List.length_map, el]) (by omega) (fun i x y H' C N hx hy hs hC => ?_) (fun H' hs hD' => ?_)
        · obtain ⟨p, t, hp, rfl, ht⟩ := hA.pair hx
          rw [List.getElem?_map, List.getElem?_map, hp] at hy
          cases hy
          have ht' := same_rd hs ht
          refine ⟨t, _, rfl, .inl ht', rfl, _, _, rfl, _, _, rfl, rfl, rfl, ?_⟩
          walk_at "g"
          exact hC
        · refine ⟨D, _, rfl, SqL.of hD', by rw [List.length_map]; exact pos, fun m hm hle => ?_⟩
          have hs1 := hs
          have em : m = mx (ps.map (·.1)) := mx_of (fun n hn => by
              obtain ⟨p, hp, rfl⟩ := List.mem_map.mp hn
              exact (hp0 p hp).1) hm hle
          refine ⟨.ref a, rfl, a, rfl, ⟨_, .inl (same_rd hs1 hS)⟩, fun D2 hD2 => ?_⟩
          refine lc_valsT (ys := (ps.map (·.2)).map V.int) hD2 (.inl (same_rd hs1 hS)) (by rw [List.length_map, List.length_map, el]) (by omega) (fun i x y H' C N hx hy hs hC => ?_) (fun H2 hs2 hE => ?_)
          · obtain ⟨p, t, hp, rfl, ht⟩ := hA.pair hx
            rw [List.getElem?_map, List.getElem?_map, hp] at hy
            cases hy
            have ht' := same_rd (hs1.trans hs) ht
            refine ⟨t, _, rfl, .inl ht', rfl, _, _, rfl, _, _, rfl, rfl, rfl, ?_⟩
            walk_at "g"
            exact hC
          · refine ⟨D2, _, rfl, SqL.of hE, ?_⟩
            walk_at "g"
            refine ⟨sz2, fun p hp => fin p _ _ H2 (hs1.trans hs2) hp ?_⟩
            unfold szf
            rw [if_neg ep, if_neg e1', em]
end
end D

namespace D
open PySem PySem.Spec PyProof.Rows L2
local macro_rules | `(tactic| walk_at "st") => `(tactic| first | exact SqT.of (by assumption) | exact Or.inl (by assumption) | exact SqT.of upd_same | fail "st")
local macro_rules | `(tactic| walk_at "ixt") => `(tactic| refine ⟨_, _, _, _, rfl, rfl, (by walk_at "st" : SqT _ _ _ _), by rfl, ?_⟩)
local macro_rules | `(tactic| walk_at "sq") => `(tactic| first | exact SqL.of (by assumption) | assumption | exact Or.inl (by assumption) | exact SqL.of upd_same | fail "sq")
local macro_rules | `(tactic| walk_at "ix") => `(tactic| refine ⟨_, _, _, _, rfl, rfl, (by walk_at "sq" : SqL _ _ _ _), by rfl, ?_⟩)
local macro_rules | `(tactic| walk_at "set") => `(tactic| refine ⟨_, _, _, _, rfl, rfl, by first | assumption | exact upd_same, by rfl, ?_⟩)
local macro_rules | `(tactic| walk_at "len") => `(tactic| refine ⟨_, _, rfl, Or.inl (by walk_at "sq" : SqL _ _ _ _), ?_⟩)
local macro_rules | `(tactic| walk_at "g") => `(tactic| repeat (first | refine ⟨_, rfl, ?_⟩ | refine ⟨_, _, rfl, rfl, ?_⟩ | refine ⟨Or.inr (by decide), ?_⟩ | refine ⟨Or.inl (by decide), ?_⟩ | refine ⟨(by decide : (0 : Int) < _), ?_⟩ | refine ⟨(⟨by decide, by decide⟩ : CDiv _ _), ?_⟩ | refine ⟨(⟨by decide, by decide, by decide⟩ : CPow _ _), ?_⟩ | refine Or.inl ⟨_, rfl, ?_⟩ | refine ⟨rfl, ?_⟩ | walk_at "ix" | walk_at "ixt" | walk_at "len" | fail "g"))
local macro_rules | `(tactic| walk_at "if") => `(tactic| refine ite2 (fun e => ?_) (fun e => ?_))
section
variable {P : Program} {w : World} {K : PySem.W.Frag} {mg : Str → Option Value} {base : Heap}
def sp_law (K : PySem.W.Frag) : Sp := fun vs H Q _ => ∃ (a : Addr) (ns : List Int), vs = [.ref a] ∧ SqL K H a (ns.map V.int) ∧ ns.length ≤ 63 ∧ ∀ H', Q (.bl true) H'
def lD (ps : List (Int × Int)) : PyData := .list (ps.map pD)
def nn (ps : List (Int × Int)) : Prop := ps.length ≤ 10000 ∧ ∀ p ∈ ps, 0 ≤ p.1 ∧ 0 ≤ p.2
theorem pD_shaped (p : Int × Int) : SeqAt.shaped (pD p) = true := rfl
theorem pD_eqv (p : Int × Int) : PyData.eqv (pD p) (pD p) = true := by
  simp [pD, PyData.eqv, PyData.eqvAll]
theorem of_pD (es : List PyData) (ps : List (Int × Int)) (h : ∀ e ∈ es, e ∈ ps.map pD) : ∃ qs : List (Int × Int), es = qs.map pD ∧ ∀ q ∈ qs, q ∈ ps := by
  induction es with
  | nil => exact ⟨[], rfl, fun _ h => nomatch h⟩
  | cons e r ih =>
    obtain ⟨qs, e1, h1⟩ := ih fun x hx => h x (List.mem_cons_of_mem _ hx)
    obtain ⟨p, hp, e2⟩ := List.mem_map.mp (h e List.mem_cons_self)
    refine ⟨p :: qs, by rw [e1, ← e2]; rfl, fun q hq => ?_⟩
    rcases List.mem_cons.mp hq with rfl | hq
    · exact hp
    · exact h1 q hq
theorem ok_law (T : Txt K mg) : FnOk P w K mg base CX0 5 T.f_law T.d_law ["_law_script"] (sp_law K) := by
  have G__law_bag := ok_bag (P := P) (w := w) (base := base) T
  have G__law_pick := ok_pick (P := P) (w := w) (base := base) T
  have G__law_pair := ok_pair (P := P) (w := w) (base := base) T
  have G__law_mingled := ok_mingled (P := P) (w := w) (base := base) T
  have G__law_label := ok_label (P := P) (w := w) (base := base) T
  have G__law_is_pair := ok_is_pair (P := P) (w := w) (base := base) T
  have G__law_due := ok_due (P := P) (w := w) (base := base) T
  have G_measure := ok_measure (P := P) (w := w) (base := base) T
  refine T.F_law.ok sc_law (fun vs H Q E h => ?_) (fun cdv A outer s H vs Q E hr h => ?_)
  · obtain ⟨_, _, rfl, _⟩ := h
    rfl
  · obtain ⟨a, ns, rfl, hS, hl, q⟩ := h
    refine ⟨_, (pss_cons (ps_set (i := 1) sc_law.nd rfl (Or.inr rfl) (pe_call G__law_bag (hr.mono (by decide)) (by rfl) T.g__law_bag T.F__law_bag.kp T.b__law_bag .nil pass0 (pa_cons (pv 0) pa_nil)))
      (pss_cons (ps_set (i := 2) sc_law.nd rfl (Or.inl rfl) (pe_call G__law_pick (hr.mono (by decide)) (by rfl) T.g__law_pick T.F__law_pick.kp T.b__law_pick .nil pass0 (pa_cons (pv 1) (pa_cons pe_int pa_nil))))
      (pss_cons (ps_set (i := 3) sc_law.nd rfl (Or.inr rfl) (pe_ix (ix_listK (K := K) rfl) (pe_lst (pa_cons pe_int (pa_cons pe_int (pa_cons pe_int pa_nil)))) (pe_call G__law_pick (hr.mono (by decide)) (by rfl) T.g__law_pick T.F__law_pick.kp T.b__law_pick .nil pass0 (pa_cons (pv 1) (pa_cons pe_int pa_nil))) (fun _ _ => rfl)))
      (pss_cons (ps_set (i := 4) sc_law.nd rfl (Or.inr rfl) (pe_ix (ix_listK (K := K) rfl) (pe_lst (pa_cons pe_int (pa_cons pe_int (pa_cons pe_int pa_nil)))) (pe_call G__law_pick (hr.mono (by decide)) (by rfl) T.g__law_pick T.F__law_pick.kp T.b__law_pick .nil pass0 (pa_cons (pv 1) (pa_cons pe_int pa_nil))) (fun _ _ => rfl)))
      (pss_cons (ps_setLc (i := 5) (own := [("_law_step", 11)]) (g := gName 11) (tt := tYes) (by rfl) sc_law.nd rfl rfl (sw_true rfl rfl rfl (by decide +kernel)) (pi_range1 (by rfl) T.m_range (pa_cons (pe_call G__law_pick (hr.mono (by decide)) (by rfl) T.g__law_pick T.F__law_pick.kp T.b__law_pick .nil pass0 (pa_cons (pv 1) (pa_cons pe_int pa_nil))) pa_nil)) (blkOk_by (own := [("_law_step", 11)]) (N := ["_law_script", "_law_bag_here", "_law_way", "_law_wide", "_law_high", "_law_pairs", "_law_mingled_here", "_law_rows", "_law_label_here", "_law_row", "_law_told", "_law_step", "_law_pair_here"]) (sc := defScope s_law) (by decide +kernel)) (fun _ _ _ _ _ => (pg_name (i := 11) sc_law.nd rfl (Or.inl rfl))) (fun _ _ _ _ _ => pts_nil) (fun _ _ _ _ _ => (pe_call G__law_pair (hr.mono (by decide)) (by rfl) T.g__law_pair T.F__law_pair.kp T.b__law_pair .nil pass0 (pa_cons (pv 1) (pa_cons (pv 3) (pa_cons (pv 4) pa_nil))))))
      (pss_cons (ps_set (i := 6) sc_law.nd rfl (Or.inl rfl) (pe_call G__law_mingled (hr.mono (by decide)) (by rfl) T.g__law_mingled T.F__law_mingled.kp T.b__law_mingled .nil pass0 (pa_cons (pv 1) (pa_cons (pv 5) pa_nil))))
      (pss_cons (ps_if (pt_cmpR op_eq (pv 2) pe_int (nomark _)) (pss_one (ps_set (i := 5) sc_law.nd rfl (Or.inl rfl) (pe_op op_rep (pv 5) (pe_op op_add pe_int (pe_call G__law_pick (hr.mono (by decide)) (by rfl) T.g__law_pick T.F__law_pick.kp T.b__law_pick .nil pass0 (pa_cons (pv 1) (pa_cons pe_int pa_nil))))))) pss_nil)
      (pss_cons (ps_set (i := 7) sc_law.nd rfl (Or.inl rfl) (pe_lst (pa_cons (pv 5) (pa_cons (pe_lst pa_nil) (pa_cons (pe_slice (sl_listK (K := K) rfl) (pv 5) po_none (po_some pe_int)) (pa_cons (pe_lc (own := [("_law_pair_here", 12)]) (g := gName 12) (tt := tYes) (by rfl) sc_law.nd (pi_listK (K := K) rfl (pv 5)) (blkOk_by (own := [("_law_pair_here", 12)]) (N := ["_law_script", "_law_bag_here", "_law_way", "_law_wide", "_law_high", "_law_pairs", "_law_mingled_here", "_law_rows", "_law_label_here", "_law_row", "_law_told", "_law_step", "_law_pair_here"]) (sc := defScope s_law) (by decide +kernel)) (fun _ _ _ _ _ => (pg_name (i := 12) sc_law.nd rfl (Or.inl rfl))) (fun _ _ _ _ _ => pts_nil) (fun _ _ _ _ _ => (pe_tup (pa_cons (pe_ix (ix_tupK (K := K) rfl) (pv 12) pe_int (fun _ _ => rfl)) (pa_cons (pe_ix (ix_tupK (K := K) rfl) (pv 12) pe_int (fun _ _ => rfl)) pa_nil))))) (pa_cons (pv 6) (pa_cons (pe_op op_cat (pv 5) (pe_lst (pa_cons (pe_tup (pa_cons pe_int (pa_cons pe_int pa_nil))) pa_nil))) pa_nil))))))))
      (pss_cons (ps_set (i := 7) sc_law.nd rfl (Or.inl rfl) (pe_op op_cat (pv 7) (pe_lst (pa_cons (pe_lc (own := [("_law_pair_here", 12)]) (g := gName 12) (tt := tYes) (by rfl) sc_law.nd (pi_listK (K := K) rfl (pv 5)) (blkOk_by (own := [("_law_pair_here", 12)]) (N := ["_law_script", "_law_bag_here", "_law_way", "_law_wide", "_law_high", "_law_pairs", "_law_mingled_here", "_law_rows", "_law_label_here", "_law_row", "_law_told", "_law_step", "_law_pair_here"]) (sc := defScope s_law) (by decide +kernel)) (fun _ _ _ _ _ => (pg_name (i := 12) sc_law.nd rfl (Or.inl rfl))) (fun _ _ _ _ _ => pts_nil) (fun _ _ _ _ _ => (pe_tup (pa_cons (pe_op op_mul (pe_ix (ix_tupK (K := K) rfl) (pv 12) pe_int (fun _ _ => rfl)) pe_int) (pa_cons (pe_ix (ix_tupK (K := K) rfl) (pv 12) pe_int (fun _ _ => rfl)) pa_nil))))) (pa_cons (pv 5) pa_nil)))))
      (pss_cons (ps_for PassesOwn.never rfl (pi_listK (K := K) rfl (pe_lst (pa_cons pe_str (pa_cons pe_str (pa_cons (pe_call G__law_label (hr.mono (by decide)) (by rfl) T.g__law_label T.F__law_label.kp T.b__law_label .nil pass0 (pa_cons (pv 1) pa_nil)) (pa_cons (pe_call G__law_label (hr.mono (by decide)) (by rfl) T.g__law_label T.F__law_label.kp T.b__law_label .nil pass0 (pa_cons (pv 1) pa_nil)) pa_nil)))))) (pg_name (i := 8) sc_law.nd rfl (Or.inl rfl)) (pss_one (ps_for PassesOwn.never rfl (pi_listK (K := K) rfl (pv 7)) (pg_name (i := 9) sc_law.nd rfl (Or.inl rfl)) (pss_cons (ps_set (i := 10) sc_law.nd rfl (Or.inl rfl) (pe_call G_measure (hr.mono (by decide)) (by rfl) T.g_measure T.F_measure.kp T.b_measure .nil pass0 (pa_cons (pv 8) (pa_cons (pe_callTy (call_tupleK (K := K) rfl) (by rfl) T.m_tuple (by decide +kernel) (pa_cons (pv 9) pa_nil)) pa_nil))))
      (pss_one (ps_if (PW.pt (pw_or (pt_not (pt_val (pe_call G__law_is_pair (hr.mono (by decide)) (by rfl) T.g__law_is_pair T.F__law_is_pair.kp T.b__law_is_pair .nil pass0 (pa_cons (pv 10) pa_nil)))) (pw_or1 (pt_cmpR (op_neDK (K := K) rfl hr.units) (pv 10) (pe_call G__law_due (hr.mono (by decide)) (by rfl) T.g__law_due T.F__law_due.kp T.b__law_due .nil pass0 (pa_cons (pv 8) (pa_cons (pv 9) pa_nil))) (nomark _))))) (pss_one (ps_ret pe_bl)) pss_nil))))))
      (pss_one (ps_ret pe_bl)))))))))))), ?_⟩
    walk_at "g"
    refine ⟨a, ns, rfl, hS, hl, fun b H1 s1 nb hB1 => ?_⟩
    walk_at "g"
    refine ⟨b, _, one b, rfl, hB1, by omega, by omega, fun way H2 h1 h2 hA2 hB2 => ?_⟩
    walk_at "g"
    refine ⟨by decide, fun p1 hp1 => ?_⟩
    have b1 : p1 ≠ b := fun z => hB2.there (by rw [← z]; exact hp1)
    walk_at "g"
    refine ⟨b, _, one b, rfl, hB2.keep (N := fun _ => False) (Sx.new hp1) (fun z => z) (fun _ z => z.elim), by omega, by omega, fun k1 H3 h3 h4 hA3 hB3 => ?_⟩
    have l1 : H3 p1 = some (.lst [.int 20, .int 20, .int 399]) := by rw [hA3 p1 b1, upd_same]
    obtain ⟨wide, hw, hwm, _⟩ := at_pos (xs := [V.int 20, .int 20, .int 399]) h3 h4
    refine ⟨p1, _, k1, wide, rfl, rfl, SqL.of l1, hw, ?_⟩
    obtain ⟨wd, rfl, hw0, hw1⟩ : ∃ i : Int, wide = .int i ∧ 0 ≤ i ∧ i < 1000 := by
      simp only [List.mem_cons, List.not_mem_nil, or_false] at hwm
      rcases hwm with rfl | rfl | rfl <;> exact ⟨_, rfl, by decide, by decide⟩
    clear hw hwm
    walk_at "g"
    refine ⟨by decide, fun p2 hp2 => ?_⟩
    have b2 : p2 ≠ b := fun z => hB3.there (by rw [← z]; exact hp2)
    walk_at "g"
    refine ⟨b, _, one b, rfl, hB3.keep (N := fun _ => False) (Sx.new hp2) (fun z => z) (fun _ z => z.elim), by omega, by omega, fun k2 H4 h5 h6 hA4 hB4 => ?_⟩
    have l2 : H4 p2 = some (.lst [.int 6, .int 6, .int 399]) := by rw [hA4 p2 b2, upd_same]
    obtain ⟨high, hw, hwm, _⟩ := at_pos (xs := [V.int 6, .int 6, .int 399]) h5 h6
    refine ⟨p2, _, k2, high, rfl, rfl, SqL.of l2, hw, ?_⟩
    obtain ⟨hg, rfl, hg0, hg1⟩ : ∃ i : Int, high = .int i ∧ 0 ≤ i ∧ i < 1000 := by
      simp only [List.mem_cons, List.not_mem_nil, or_false] at hwm
      rcases hwm with rfl | rfl | rfl <;> exact ⟨_, rfl, by decide, by decide⟩
    clear hw hwm
    walk_at "g"
    refine ⟨b, _, one b, rfl, hB4, by omega, by omega, fun k3 H5 h7 h8 hA5 hB5 => ?_⟩
    refine ⟨_, rfl, by omega, by omega, fun D hD => ?_⟩
    have bD : b ≠ D := fun z => hB5.there (by rw [z]; exact hD)
    have hMk : Mk (also (one b) D) (upd H5 D (.lst [])) := fun c z => by
      rcases z with z | z
      · rw [show c = b from z]
        exact there_new hB5.there
      · rw [z]
        exact upd_there
    refine lc_range (lo := 0) (n := k3.toNat) (fun i H' => Sx (also (one b) D) (upd H5 D (.lst [])) H' ∧ Gr (upd H5 D (.lst [])) H' ∧ Bag K (also (one b) D) H' b ∧ ∃ acc ps, H' D = some (.lst acc) ∧ acc.length = i ∧ RpAll (also (one b) D) H' acc (List.map pD ps) ∧ ∀ p ∈ ps, 0 ≤ p.1 ∧ 0 ≤ p.2) ?_ (fun i H' hi p => ?_) (fun H6 p => ?_)
    · exact ⟨Sx.refl, Gr.refl, (hB5.more hD).keep (N := fun _ => False) (Sx.new hD) (fun z => z) (fun _ z => z.elim), [], [], upd_same, rfl, .nil, fun _ h => nomatch h⟩
    · obtain ⟨s6, g6, hB6, acc, ps, e6, n6, r6, p6⟩ := p
      refine ⟨rfl, ?_⟩
      walk_at "g"
      refine ⟨b, _, _, _, rfl, hB6, by omega, by omega, by omega, by omega, hMk.gr g6, fun v H7 d s7 g7 hB7 r7 R7 => ?_⟩
      obtain ⟨p, rfl, hp⟩ := R7
      have e7 : H7 D = some (.lst acc) := s7 D _ bD.symm e6
      refine ⟨acc, e7, small1000000 (by omega), (s6.trans (s7.le fun c z => .inl z)).trans (Sx.put (.inr rfl)), (g6.trans g7).trans Gr.upd, hB7.keep (N := one D) (Sx.put rfl) bD (fun c z => .inr z), acc ++ [v], ps ++ [p], upd_same, by rw [List.length_append, n6]; rfl, ?_, ?_⟩
      · rw [List.map_append]
        exact ((r6.sx (s7.le fun c z => .inl z)).append (.one r7)).sx (Sx.put (.inr rfl))
      · intro x hx
        rcases List.mem_append.mp hx with hx | hx
        · exact p6 x hx
        · rw [List.mem_singleton.mp hx]
          exact hp
    · obtain ⟨s6, g6, hB6, acc, ps, e6, n6, r6, p6⟩ := p
      have hB6' : Bag K (one b) H6 b := hB6.less rfl fun c z => .inl z
      have R6 : Ld (one b) H6 D (ps.map pD) := ⟨fun z => bD z.symm, acc, e6, r6.less fun c z => .inl z⟩
      have len6 : ps.length = acc.length := by
        have := r6.length
        rw [List.length_map] at this
        omega
      have l8 : ps.length ≤ 8 := by omega
      have nn6 : nn ps := ⟨by omega, p6⟩
      clear s6 g6 hB6 r6 hMk
      -- mingled
      have hM6 : Mk (one b) H6 := fun c z => by
        rw [show c = b from z]
        exact hB6'.there
      walk_at "g"
      refine ⟨b, .ref D, ps.map pD, one b, rfl, hB6', hM6, R6.rp, by rw [List.length_map]; omega, fun v7 H7 d7 s7 g7 hB7 R7 e7 => ?_⟩
      obtain ⟨es, rfl, len7, mem7⟩ := e7
      obtain ⟨ps7, rfl, nn7⟩ : ∃ ps7 : List (Int × Int), es = ps7.map pD ∧ nn ps7 := by
        obtain ⟨qs, rfl, hq⟩ := of_pD es ps mem7
        refine ⟨qs, rfl, ?_, fun p hp => p6 p (hq p hp)⟩
        rw [List.length_map, List.length_map] at len7
        omega
      have R7' : Rp (one b) H7 v7 (lD ps7) := R7
      have R67 : Ld (one b) H7 D (ps.map pD) := R6.sx s7
      clear R7 mem7 len7
      walk_at "g"
      refine join2 (fun σ H' => ∃ D' ps', σ = [some (.ref a), some (.ref b), some (.int way), some (.int wd), some (.int hg), some (.ref D'), some v7, none, none, none, none, none, none] ∧ Bag K (one b) H' b ∧ Ld (one b) H' D' (ps'.map pD) ∧ nn ps' ∧ ps'.length ≤ 400 ∧ Rp (one b) H' v7 (lD ps7)) (fun _ hN => ?_) (fun _ => ⟨D, ps, rfl, hB7, R67, nn6, by omega, R7'⟩) (fun σ H8 p => ?_)
      · obtain ⟨nD, xs, eD, rD⟩ := R67
        walk_at "g"
        refine ⟨b, _, one b, rfl, hB7, by omega, by omega, fun k H8 h9 h10 hA8 hB8 => ?_⟩
        have lx := rD.length
        rw [List.length_map] at lx
        have e8 : H8 D = some (.lst xs) := (hA8 D nD).trans eD
        have r8 := (rD.sx hA8.sx).rep (1 + k).toNat
        have hlen : xs.length * (1 + k).toNat ≤ 8 * 40 := Nat.mul_le_mul (by omega) (by omega)
        walk_at "g"
        refine ⟨D, 1 + k, xs, rfl, rfl, e8, by omega, by omega, Nat.le_of_lt (small1000000 (by omega)), fun p hp => ?_⟩
        have hM8 : Mk (one b) H8 := fun c z => by
          rw [show c = b from z]
          exact hB8.there
        refine hN _ _ ⟨p, (List.replicate (1 + k).toNat ps).flatten, rfl, hB8.same (same_new hp), ?_, ⟨?_, ?_⟩, ?_, (R7'.sx hA8.sx).sx (Sx.new hp)⟩
        · rw [List.map_flatten, List.map_replicate]
          exact Ld.new hM8 hp r8
        · rw [List.length_flatten, List.map_replicate, List.sum_replicate_nat, Nat.mul_comm, ← lx]
          omega
        · intro x hx
          obtain ⟨l, hl, hx⟩ := List.mem_flatten.mp hx
          rw [(List.mem_replicate.mp hl).2] at hx
          exact p6 x hx
        · rw [List.length_flatten, List.map_replicate, List.sum_replicate_nat, Nat.mul_comm, ← lx]
          omega
      · obtain ⟨D', ps', rfl, hB8, L8, nn8, sm8, R8⟩ := p
        obtain ⟨nD, xs, eD, rD⟩ := id L8
        have hM8 : Mk (one b) H8 := fun c z => by
          rw [show c = b from z]
          exact hB8.there
        have lx := rD.length
        rw [List.length_map] at lx
        -- the first six rows
        refine ⟨.ref D', rfl, Nat.zero_le _, fun e1 he1 => ?_⟩
        generalize q1 : upd H8 e1 (.lst []) = Ha
        have sa : Same H8 Ha := q1 ▸ same_new he1
        have La : Ld (one b) Ha e1 (([] : List (Int × Int)).map pD) := q1 ▸ Ld.new hM8 he1 .nil
        clear q1 he1
        refine ⟨.ref D', rfl, 1, rfl, D', xs, rfl, SqL.of (sa _ _ eD), fun e2 he2 => ?_⟩
        rw [show (1 : Int) = ((1 : Nat) : Int) from rfl, cut_hi]
        generalize q1 : upd Ha e2 (.lst (xs.take 1)) = Hb
        have sb : Same Ha Hb := q1 ▸ same_new he2
        have Lb : Ld (one b) Hb e2 ((ps'.take 1).map pD) := q1 ▸ (by rw [List.map_take]; exact Ld.new (hM8.gr (Gr.same sa)) he2 ((rD.sx (Sx.same sa)).take 1))
        clear q1 he2
        have s8b := sa.trans sb
        refine ⟨.ref D', rfl, D', rfl, ⟨_, SqL.of (s8b _ _ eD)⟩, fun e3 he3 => ?_⟩
        refine lc_data (xs := xs) (ys := (ps'.map fun p => (p.2, p.1)).map pD) (one b) (hM8.gr (Gr.same s8b)) he3 (SqL.of (s8b _ _ eD)) (by rw [List.length_map, List.length_map, lx]) (by have := nn8.1; omega) (fun i x y H' C N hx hy hs hm hC => ?_) (fun Hc sc Lc => ?_)
        · obtain ⟨p, t, hp, rfl, ht⟩ := rD.pair hx
          rw [List.getElem?_map, List.getElem?_map, hp] at hy
          cases hy
          have ht' := same_rd (s8b.trans hs) ht
          refine ⟨rfl, ?_⟩
          walk_at "g"
          refine ⟨sz2, fun u hu => ?_⟩
          exact hC _ _ (same_new hu) (.tup (hm.out hu) (.inl upd_same) (.cons (.int _) (.cons (.int _) .nil)))
        · have s8c := s8b.trans sc
          refine ⟨v7, rfl, .ref D', rfl, sz2, fun t1 ht1 => ?_⟩
          generalize q1 : upd Hc t1 (.tup [.int 0, .int 0]) = Hd
          have sd : Same Hc Hd := q1 ▸ same_new ht1
          have rd1 : Rp (one b) Hd (.ref t1) (pD (0, 0)) := q1 ▸ .tup ((hM8.gr (Gr.same s8c)).out ht1) (.inl upd_same) (.cons (.int _) (.cons (.int _) .nil))
          clear q1 ht1
          refine ⟨Nat.le_of_lt (small1000 (by show 1 ≤ 1000; omega)), fun l1 hl1 => ?_⟩
          generalize q1 : upd Hd l1 (.lst [.ref t1]) = He
          have se : Same Hd He := q1 ▸ same_new hl1
          have le1 : He l1 = some (.lst [.ref t1]) := q1 ▸ upd_same
          clear q1 hl1
          have s8e := s8c.trans (sd.trans se)
          refine ⟨D', l1, xs, [.ref t1], rfl, rfl, s8e _ _ eD, le1, Nat.le_of_lt (small1000000 (by have := nn8.1; show xs.length + 1 ≤ 1000000; omega)), fun e4 he4 => ?_⟩
          generalize q1 : upd He e4 (.lst (xs ++ [.ref t1])) = Hf
          have sf : Same He Hf := q1 ▸ same_new he4
          have Lf : Ld (one b) Hf e4 ((ps' ++ [(0, 0)]).map pD) := q1 ▸ (by rw [List.map_append]; exact Ld.new (hM8.gr (Gr.same s8e)) he4 ((rD.sx (Sx.same s8e)).append (.one (rd1.sx (Sx.same se)))))
          clear q1 he4
          have s8f := s8e.trans sf
          refine ⟨szK rfl, fun R hR => ?_⟩
          generalize q1 : upd Hf R (.lst [.ref D', .ref e1, .ref e2, .ref e3, v7, .ref e4]) = Hg
          have sg : Same Hf Hg := q1 ▸ same_new hR
          have eR : Hg R = some (.lst [.ref D', .ref e1, .ref e2, .ref e3, v7, .ref e4]) := q1 ▸ upd_same
          have nR : R ≠ b := fun z => (s8f.free hR |> fun z' => hB8.there (by rw [← z]; exact z'))
          clear q1 hR
          have s8g := s8f.trans sg
          -- two more
          refine ⟨.ref R, rfl, .ref D', rfl, D', rfl, ⟨_, SqL.of (s8g _ _ eD)⟩, fun e5 he5 => ?_⟩
          refine lc_data (xs := xs) (ys := (ps'.map fun p => (p.1 * 20, p.2)).map pD) (one b) (hM8.gr (Gr.same s8g)) he5 (SqL.of (s8g _ _ eD)) (by rw [List.length_map, List.length_map, lx]) (by have := nn8.1; omega) (fun i x y H' C N hx hy hs hm hC => ?_) (fun Hh sh Lh => ?_)
          · obtain ⟨p, t, hp, rfl, ht⟩ := rD.pair hx
            rw [List.getElem?_map, List.getElem?_map, hp] at hy
            cases hy
            have ht' := same_rd (s8g.trans hs) ht
            refine ⟨rfl, ?_⟩
            walk_at "g"
            refine ⟨sz2, fun u hu => ?_⟩
            exact hC _ _ (same_new hu) (.tup (hm.out hu) (.inl upd_same) (.cons (.int _) (.cons (.int _) .nil)))
          · have s8h := s8g.trans sh
            refine ⟨.ref D', rfl, szK rfl, fun l2 hl2 => ?_⟩
            generalize q1 : upd Hh l2 _ = Hi
            have si : Same Hh Hi := q1 ▸ same_new hl2
            have el2 : Hi l2 = some (.lst [.ref e5, .ref D']) := q1 ▸ upd_same
            clear q1 hl2
            have s8i := s8h.trans si
            refine ⟨R, l2, _, _, rfl, rfl, si _ _ (sh _ _ eR), el2, szK rfl, fun S hS => ?_⟩
            generalize q1 : upd Hi S _ = Hj
            have sj : Same Hi Hj := q1 ▸ same_new hS
            have eS : Hj S = some (.lst [.ref D', .ref e1, .ref e2, .ref e3, v7, .ref e4, .ref e5, .ref D']) := q1 ▸ upd_same
            have nS : S ≠ b := fun z => (s8i.free hS |> fun z' => hB8.there (by rw [← z]; exact z'))
            clear q1 hS
            have s8j := s8i.trans sj
            obtain ⟨pss, hpss, rS, lS⟩ : ∃ pss : List (List (Int × Int)), (∀ ps ∈ pss, nn ps) ∧ RpAll (one b) Hj [.ref D', .ref e1, .ref e2, .ref e3, v7, .ref e4, .ref e5, .ref D'] (pss.map lD) ∧ pss.length = 8 := by
              have k0 := (L8.sx (Sx.same s8j)).rp
              refine ⟨[ps', [], ps'.take 1, ps'.map fun p => (p.2, p.1), ps7, ps' ++ [(0, 0)], ps'.map fun p => (p.1 * 20, p.2), ps'], ?_, ?_, rfl⟩
              · have sw : nn (ps'.map fun p => (p.2, p.1)) := ⟨by rw [List.length_map]; exact nn8.1, fun x hx => by
                  obtain ⟨p, hp, rfl⟩ := List.mem_map.mp hx
                  exact ⟨(nn8.2 p hp).2, (nn8.2 p hp).1⟩⟩
                have tw : nn (ps'.map fun p => (p.1 * 20, p.2)) := ⟨by rw [List.length_map]; exact nn8.1, fun x hx => by
                  obtain ⟨p, hp, rfl⟩ := List.mem_map.mp hx
                  exact ⟨by have := (nn8.2 p hp).1; show 0 ≤ p.1 * 20; omega, (nn8.2 p hp).2⟩⟩
                have tk : nn (ps'.take 1) := ⟨by rw [List.length_take]; have := nn8.1; omega, fun x hx => nn8.2 x (List.mem_of_mem_take hx)⟩
                have ad : nn (ps' ++ [(0, 0)]) := ⟨by rw [List.length_append]; show ps'.length + 1 ≤ 10000; omega, fun x hx => by
                  rcases List.mem_append.mp hx with hx | hx
                  · exact nn8.2 x hx
                  · rw [List.mem_singleton.mp hx]
                    exact ⟨by decide, by decide⟩⟩
                have nl : nn [] := ⟨Nat.zero_le _, fun _ h => nomatch h⟩
                intro ps hps
                simp only [List.mem_cons, List.not_mem_nil, or_false] at hps
                rcases hps with rfl | rfl | rfl | rfl | rfl | rfl | rfl | rfl
                · exact nn8
                · exact nl
                · exact tk
                · exact sw
                · exact nn7
                · exact ad
                · exact tw
                · exact nn8
              · refine .cons k0 (.cons (La.rp.sx (Sx.same (sb.trans (sc.trans (sd.trans (se.trans (sf.trans (sg.trans (sh.trans (si.trans sj)))))))))) (.cons (Lb.rp.sx (Sx.same (sc.trans (sd.trans (se.trans (sf.trans (sg.trans (sh.trans (si.trans sj))))))))) (.cons (Lc.rp.sx (Sx.same (sd.trans (se.trans (sf.trans (sg.trans (sh.trans (si.trans sj)))))))) (.cons (R8.sx (Sx.same s8j)) (.cons (Lf.rp.sx (Sx.same (sg.trans (sh.trans (si.trans sj))))) (.cons (Lh.rp.sx (Sx.same (si.trans sj))) (.cons k0 .nil)))))))
            have hBj := hB8.same s8j
            clear Lh Lf Lc Lb La L8 R8 rD eD eR el2 rd1 le1 R6 R67 R7'
            -- the labels
            refine ⟨.ref b, rfl, b, one b, rfl, hBj, fun z1 H9 hz1 s9 g9 hB9 => ?_⟩
            refine ⟨.ref b, rfl, b, one b, rfl, hB9, fun z2 Hk hz2 sk gk hBk => ?_⟩
            have rS2 := (rS.sx s9).sx sk
            have eS2 := sk _ _ nS (s9 _ _ nS eS)
            refine ⟨szK rfl, fun L hL => ?_⟩
            generalize q1 : upd Hk L _ = Hl
            have sl : Same Hk Hl := q1 ▸ same_new hL
            have eL : Hl L = some (.lst [.str sRow, .str sCol, .str z1, .str z2]) := q1 ▸ upd_same
            clear q1 hL
            have rS3 := rS2.sx (Sx.same sl)
            have eS3 := sl _ _ eS2
            have hMl : Mk (one b) Hl := fun c z => by
              rw [show c = b from z]
              exact (hBk.same sl).there
            clear rS rS2 eS eS2 s9 g9 sk gk hBk hB9 hBj sl
            refine ⟨L, rfl, ⟨_, SqL.of eL⟩, ?_⟩
            refine for_list (K := K) (a := L) (xs := [.str sRow, .str sCol, .str z1, .str z2]) (fun i σ H' => Same Hl H' ∧ ∃ y8 y9 y10, σ = [some (.ref a), some (.ref b), some (.int way), some (.int wd), some (.int hg), some (.ref D'), some v7, some (.ref S), y8, y9, y10, none, none]) ⟨Same.refl _, _, _, _, rfl⟩ (fun i σ H' _ p => p.1.seq (SqL.of eL)) (fun i x σ H' hx p => ?_) (fun σ H' p => ?_)
            · obtain ⟨sx, y8, y9, y10, rfl⟩ := p
              obtain ⟨z, rfl, hz⟩ : ∃ z : Str, x = .str z ∧ z.length ≤ 30 := by
                have hm := List.mem_of_getElem? hx
                simp only [List.mem_cons, List.not_mem_nil, or_false] at hm
                rcases hm with rfl | rfl | rfl | rfl
                · exact ⟨_, rfl, by decide +kernel⟩
                · exact ⟨_, rfl, by decide +kernel⟩
                · exact ⟨_, rfl, hz1⟩
                · exact ⟨_, rfl, hz2⟩
              refine ⟨.ref S, rfl, S, rfl, ⟨_, SqL.of (sx _ _ eS3)⟩, ?_⟩
              refine for_list (K := K) (a := S) (xs := [.ref D', .ref e1, .ref e2, .ref e3, v7, .ref e4, .ref e5, .ref D']) (fun i σ H' => Same Hl H' ∧ ∃ y9 y10, σ = [some (.ref a), some (.ref b), some (.int way), some (.int wd), some (.int hg), some (.ref D'), some v7, some (.ref S), some (.str z), y9, y10, none, none]) ⟨sx, _, _, rfl⟩ (fun i σ H' _ p => p.1.seq (SqL.of eS3)) (fun i x σ H' hx p => ?_) (fun σ H' p => ?_)
              · obtain ⟨sx, y9, y10, rfl⟩ := p
                obtain ⟨d, hd, rx⟩ := (rS3.sx (Sx.same sx)).get hx
                rw [List.getElem?_map] at hd
                obtain ⟨ps, hps, rfl⟩ := Option.map_eq_some_iff.mp hd
                have nps := hpss ps (List.mem_of_getElem? hps)
                have rx' := id rx
                cases rx' with
                | @lst u us _ nu eu ru =>
                have hMx : Mk (one b) H' := hMl.gr (Gr.same sx)
                walk_at "g"
                have lu := ru.length
                rw [List.length_map] at lu
                refine ⟨u, us, rfl, .inl ⟨.inl eu, fun t ht => ?_⟩⟩
                have s1 := same_new (o := .tup us) ht
                have hM1 := hMx.gr (Gr.same s1)
                refine ⟨z, .ref t, ps, one b, rfl, .tup (hMx.out ht) (.inl upd_same) (ru.sx (Sx.same s1)), hM1, by omega, by have := nps.1; omega, nps.2, fun v1 H1' d1 s2 r1 hd1 => ?_⟩
                subst hd1
                have s12 := Same.trans s1 s2
                walk_at "g"
                refine ⟨v1, szf z ps, one b, rfl, r1, ?_⟩
                walk_at "g"
                refine ⟨z, .ref u, ps, one b, rfl, rx.sx (Sx.same s12), hMx.gr (Gr.same s12), by omega, by have := nps.1; omega, fun v2 H2' d2 s3 r2 hd2 => ?_⟩
                subst hd2
                refine ⟨_, _, Rp.dp _ _ (r1.sx (Sx.same s3)), Rp.dp _ _ r2, pD_shaped _, pD_shaped _, ?_⟩
                rw [pD_eqv]
                refine ⟨_, rfl, ?_⟩
                exact ⟨sx.trans (s12.trans s3), _, _, rfl⟩
              · obtain ⟨sx, y9, y10, rfl⟩ := p
                exact ⟨sx, _, _, _, rfl⟩
            · obtain ⟨sx, y8, y9, y10, rfl⟩ := p
              exact q _
end
end D

namespace D
open PySem PySem.Spec PyProof.Rows L2
theorem all_mk {l : PySem.W.OpenLaw} {w : World} {K : PySem.W.Frag} {h : Heap} {mg : Str → Option Value} {fa : Addr} {f_measure f__law_mixed f__law_bag f__law_pick f__law_choice f__law_mingled f__law_number f__law_text f__law_label f__law_pair f__law_due f__law_is_pair f_law : Addr} (X : K.In h) (G : h.Ns mainGlobals mg) (hfa : mg "law" = some (.ref fa))
    {od_measure an_measure : Option Addr} {sl_measure : Array (Option Value)} {oc_measure kV_measure dc_measure pm_measure cd_measure ct_measure : Value}
    (a_measure : PySem.W.nsIn K mainGlobals "measure" = some (some (.ref f_measure))) (l_measure : K.lookup f_measure = some ⟨oc_measure, od_measure, .func (PySem.W.fnOf "measure" "measure" (defArgs s_measure) (defBody s_measure) (defScope s_measure) .none kV_measure dc_measure pm_measure an_measure cd_measure ct_measure), sl_measure⟩) (c_measure : PySem.W.codeIn K cd_measure "measure" = true) (k_measure : PySem.W.keepIn K (.ref f_measure) = true)
    {od__law_mixed an__law_mixed : Option Addr} {sl__law_mixed : Array (Option Value)} {oc__law_mixed kV__law_mixed dc__law_mixed pm__law_mixed cd__law_mixed ct__law_mixed : Value}
    (a__law_mixed : PySem.W.nsIn K mainGlobals "_law_mixed" = some (some (.ref f__law_mixed))) (l__law_mixed : K.lookup f__law_mixed = some ⟨oc__law_mixed, od__law_mixed, .func (PySem.W.fnOf "_law_mixed" "_law_mixed" (defArgs s__law_mixed) (defBody s__law_mixed) (defScope s__law_mixed) .none kV__law_mixed dc__law_mixed pm__law_mixed an__law_mixed cd__law_mixed ct__law_mixed), sl__law_mixed⟩) (c__law_mixed : PySem.W.codeIn K cd__law_mixed "_law_mixed" = true) (k__law_mixed : PySem.W.keepIn K (.ref f__law_mixed) = true)
    {od__law_bag an__law_bag : Option Addr} {sl__law_bag : Array (Option Value)} {oc__law_bag kV__law_bag dc__law_bag pm__law_bag cd__law_bag ct__law_bag : Value}
    (a__law_bag : PySem.W.nsIn K mainGlobals "_law_bag" = some (some (.ref f__law_bag))) (l__law_bag : K.lookup f__law_bag = some ⟨oc__law_bag, od__law_bag, .func (PySem.W.fnOf "_law_bag" "_law_bag" (defArgs s__law_bag) (defBody s__law_bag) (defScope s__law_bag) .none kV__law_bag dc__law_bag pm__law_bag an__law_bag cd__law_bag ct__law_bag), sl__law_bag⟩) (c__law_bag : PySem.W.codeIn K cd__law_bag "_law_bag" = true) (k__law_bag : PySem.W.keepIn K (.ref f__law_bag) = true)
    {od__law_pick an__law_pick : Option Addr} {sl__law_pick : Array (Option Value)} {oc__law_pick kV__law_pick dc__law_pick pm__law_pick cd__law_pick ct__law_pick : Value}
    (a__law_pick : PySem.W.nsIn K mainGlobals "_law_pick" = some (some (.ref f__law_pick))) (l__law_pick : K.lookup f__law_pick = some ⟨oc__law_pick, od__law_pick, .func (PySem.W.fnOf "_law_pick" "_law_pick" (defArgs s__law_pick) (defBody s__law_pick) (defScope s__law_pick) .none kV__law_pick dc__law_pick pm__law_pick an__law_pick cd__law_pick ct__law_pick), sl__law_pick⟩) (c__law_pick : PySem.W.codeIn K cd__law_pick "_law_pick" = true) (k__law_pick : PySem.W.keepIn K (.ref f__law_pick) = true)
    {od__law_choice an__law_choice : Option Addr} {sl__law_choice : Array (Option Value)} {oc__law_choice kV__law_choice dc__law_choice pm__law_choice cd__law_choice ct__law_choice : Value}
    (a__law_choice : PySem.W.nsIn K mainGlobals "_law_choice" = some (some (.ref f__law_choice))) (l__law_choice : K.lookup f__law_choice = some ⟨oc__law_choice, od__law_choice, .func (PySem.W.fnOf "_law_choice" "_law_choice" (defArgs s__law_choice) (defBody s__law_choice) (defScope s__law_choice) .none kV__law_choice dc__law_choice pm__law_choice an__law_choice cd__law_choice ct__law_choice), sl__law_choice⟩) (c__law_choice : PySem.W.codeIn K cd__law_choice "_law_choice" = true) (k__law_choice : PySem.W.keepIn K (.ref f__law_choice) = true)
    {od__law_mingled an__law_mingled : Option Addr} {sl__law_mingled : Array (Option Value)} {oc__law_mingled kV__law_mingled dc__law_mingled pm__law_mingled cd__law_mingled ct__law_mingled : Value}
    (a__law_mingled : PySem.W.nsIn K mainGlobals "_law_mingled" = some (some (.ref f__law_mingled))) (l__law_mingled : K.lookup f__law_mingled = some ⟨oc__law_mingled, od__law_mingled, .func (PySem.W.fnOf "_law_mingled" "_law_mingled" (defArgs s__law_mingled) (defBody s__law_mingled) (defScope s__law_mingled) .none kV__law_mingled dc__law_mingled pm__law_mingled an__law_mingled cd__law_mingled ct__law_mingled), sl__law_mingled⟩) (c__law_mingled : PySem.W.codeIn K cd__law_mingled "_law_mingled" = true) (k__law_mingled : PySem.W.keepIn K (.ref f__law_mingled) = true)
    {od__law_number an__law_number : Option Addr} {sl__law_number : Array (Option Value)} {oc__law_number kV__law_number dc__law_number pm__law_number cd__law_number ct__law_number : Value}
    (a__law_number : PySem.W.nsIn K mainGlobals "_law_number" = some (some (.ref f__law_number))) (l__law_number : K.lookup f__law_number = some ⟨oc__law_number, od__law_number, .func (PySem.W.fnOf "_law_number" "_law_number" (defArgs s__law_number) (defBody s__law_number) (defScope s__law_number) .none kV__law_number dc__law_number pm__law_number an__law_number cd__law_number ct__law_number), sl__law_number⟩) (c__law_number : PySem.W.codeIn K cd__law_number "_law_number" = true) (k__law_number : PySem.W.keepIn K (.ref f__law_number) = true)
    {od__law_text an__law_text : Option Addr} {sl__law_text : Array (Option Value)} {oc__law_text kV__law_text dc__law_text pm__law_text cd__law_text ct__law_text : Value}
    (a__law_text : PySem.W.nsIn K mainGlobals "_law_text" = some (some (.ref f__law_text))) (l__law_text : K.lookup f__law_text = some ⟨oc__law_text, od__law_text, .func (PySem.W.fnOf "_law_text" "_law_text" (defArgs s__law_text) (defBody s__law_text) (defScope s__law_text) .none kV__law_text dc__law_text pm__law_text an__law_text cd__law_text ct__law_text), sl__law_text⟩) (c__law_text : PySem.W.codeIn K cd__law_text "_law_text" = true) (k__law_text : PySem.W.keepIn K (.ref f__law_text) = true)
    {od__law_label an__law_label : Option Addr} {sl__law_label : Array (Option Value)} {oc__law_label kV__law_label dc__law_label pm__law_label cd__law_label ct__law_label : Value}
    (a__law_label : PySem.W.nsIn K mainGlobals "_law_label" = some (some (.ref f__law_label))) (l__law_label : K.lookup f__law_label = some ⟨oc__law_label, od__law_label, .func (PySem.W.fnOf "_law_label" "_law_label" (defArgs s__law_label) (defBody s__law_label) (defScope s__law_label) .none kV__law_label dc__law_label pm__law_label an__law_label cd__law_label ct__law_label), sl__law_label⟩) (c__law_label : PySem.W.codeIn K cd__law_label "_law_label" = true) (k__law_label : PySem.W.keepIn K (.ref f__law_label) = true)
    {od__law_pair an__law_pair : Option Addr} {sl__law_pair : Array (Option Value)} {oc__law_pair kV__law_pair dc__law_pair pm__law_pair cd__law_pair ct__law_pair : Value}
    (a__law_pair : PySem.W.nsIn K mainGlobals "_law_pair" = some (some (.ref f__law_pair))) (l__law_pair : K.lookup f__law_pair = some ⟨oc__law_pair, od__law_pair, .func (PySem.W.fnOf "_law_pair" "_law_pair" (defArgs s__law_pair) (defBody s__law_pair) (defScope s__law_pair) .none kV__law_pair dc__law_pair pm__law_pair an__law_pair cd__law_pair ct__law_pair), sl__law_pair⟩) (c__law_pair : PySem.W.codeIn K cd__law_pair "_law_pair" = true) (k__law_pair : PySem.W.keepIn K (.ref f__law_pair) = true)
    {od__law_due an__law_due : Option Addr} {sl__law_due : Array (Option Value)} {oc__law_due kV__law_due dc__law_due pm__law_due cd__law_due ct__law_due : Value}
    (a__law_due : PySem.W.nsIn K mainGlobals "_law_due" = some (some (.ref f__law_due))) (l__law_due : K.lookup f__law_due = some ⟨oc__law_due, od__law_due, .func (PySem.W.fnOf "_law_due" "_law_due" (defArgs s__law_due) (defBody s__law_due) (defScope s__law_due) .none kV__law_due dc__law_due pm__law_due an__law_due cd__law_due ct__law_due), sl__law_due⟩) (c__law_due : PySem.W.codeIn K cd__law_due "_law_due" = true) (k__law_due : PySem.W.keepIn K (.ref f__law_due) = true)
    {od__law_is_pair an__law_is_pair : Option Addr} {sl__law_is_pair : Array (Option Value)} {oc__law_is_pair kV__law_is_pair dc__law_is_pair pm__law_is_pair cd__law_is_pair ct__law_is_pair : Value}
    (a__law_is_pair : PySem.W.nsIn K mainGlobals "_law_is_pair" = some (some (.ref f__law_is_pair))) (l__law_is_pair : K.lookup f__law_is_pair = some ⟨oc__law_is_pair, od__law_is_pair, .func (PySem.W.fnOf "_law_is_pair" "_law_is_pair" (defArgs s__law_is_pair) (defBody s__law_is_pair) (defScope s__law_is_pair) .none kV__law_is_pair dc__law_is_pair pm__law_is_pair an__law_is_pair cd__law_is_pair ct__law_is_pair), sl__law_is_pair⟩) (c__law_is_pair : PySem.W.codeIn K cd__law_is_pair "_law_is_pair" = true) (k__law_is_pair : PySem.W.keepIn K (.ref f__law_is_pair) = true)
    {od_law an_law : Option Addr} {sl_law : Array (Option Value)} {oc_law kV_law dc_law pm_law cd_law ct_law : Value}
    (a_law : PySem.W.nsIn K mainGlobals "law" = some (some (.ref f_law))) (l_law : K.lookup f_law = some ⟨oc_law, od_law, .func (PySem.W.fnOf "law" "law" (defArgs s_law) (defBody s_law) (defScope s_law) .none kV_law dc_law pm_law an_law cd_law ct_law), sl_law⟩) (c_law : PySem.W.codeIn K cd_law "law" = true) (k_law : PySem.W.keepIn K (.ref f_law) = true)
    (z_abs : PySem.W.nsIn K mainGlobals "abs" = some none)
    (z_bool : PySem.W.nsIn K mainGlobals "bool" = some none)
    (z_enumerate : PySem.W.nsIn K mainGlobals "enumerate" = some none)
    (z_int : PySem.W.nsIn K mainGlobals "int" = some none)
    (z_isinstance : PySem.W.nsIn K mainGlobals "isinstance" = some none)
    (z_len : PySem.W.nsIn K mainGlobals "len" = some none)
    (z_list : PySem.W.nsIn K mainGlobals "list" = some none)
    (z_max : PySem.W.nsIn K mainGlobals "max" = some none)
    (z_range : PySem.W.nsIn K mainGlobals "range" = some none)
    (z_str : PySem.W.nsIn K mainGlobals "str" = some none)
    (z_sum : PySem.W.nsIn K mainGlobals "sum" = some none)
    (z_tuple : PySem.W.nsIn K mainGlobals "tuple" = some none) :
    ∃ fd : FuncData, (∀ (s : Shared) (v : Value), BindsTo s fd ⟨[v], []⟩ [("_law_script", v)]) ∧ ∀ base : Heap, K.In base → base.Ns mainGlobals mg → FnOk l.prog w K mg base CX0 5 fa fd ["_law_script"] (sp_law K) := by
  have e := hfa.symm.trans (PySem.W.mg_of X G a_law)
  cases e
  let T : Txt K mg := { f_measure := f_measure, d_measure := _, F_measure := fun_mk (st := s_measure) l_measure c_measure k_measure, b_measure := (fun_mk (st := s_measure) l_measure c_measure k_measure).binds fun _ _ _ _ _ _ us hl => match us, hl with | [_, _], _ => rfl, g_measure := PySem.W.mg_of X G a_measure, f__law_mixed := f__law_mixed, d__law_mixed := _, F__law_mixed := fun_mk (st := s__law_mixed) l__law_mixed c__law_mixed k__law_mixed, b__law_mixed := (fun_mk (st := s__law_mixed) l__law_mixed c__law_mixed k__law_mixed).binds fun _ _ _ _ _ _ us hl => match us, hl with | [_, _], _ => rfl, g__law_mixed := PySem.W.mg_of X G a__law_mixed, f__law_bag := f__law_bag, d__law_bag := _, F__law_bag := fun_mk (st := s__law_bag) l__law_bag c__law_bag k__law_bag, b__law_bag := (fun_mk (st := s__law_bag) l__law_bag c__law_bag k__law_bag).binds fun _ _ _ _ _ _ us hl => match us, hl with | [_], _ => rfl, g__law_bag := PySem.W.mg_of X G a__law_bag, f__law_pick := f__law_pick, d__law_pick := _, F__law_pick := fun_mk (st := s__law_pick) l__law_pick c__law_pick k__law_pick, b__law_pick := (fun_mk (st := s__law_pick) l__law_pick c__law_pick k__law_pick).binds fun _ _ _ _ _ _ us hl => match us, hl with | [_, _], _ => rfl, g__law_pick := PySem.W.mg_of X G a__law_pick, f__law_choice := f__law_choice, d__law_choice := _, F__law_choice := fun_mk (st := s__law_choice) l__law_choice c__law_choice k__law_choice, b__law_choice := (fun_mk (st := s__law_choice) l__law_choice c__law_choice k__law_choice).binds fun _ _ _ _ _ _ us hl => match us, hl with | [_, _], _ => rfl, g__law_choice := PySem.W.mg_of X G a__law_choice, f__law_mingled := f__law_mingled, d__law_mingled := _, F__law_mingled := fun_mk (st := s__law_mingled) l__law_mingled c__law_mingled k__law_mingled, b__law_mingled := (fun_mk (st := s__law_mingled) l__law_mingled c__law_mingled k__law_mingled).binds fun _ _ _ _ _ _ us hl => match us, hl with | [_, _], _ => rfl, g__law_mingled := PySem.W.mg_of X G a__law_mingled, f__law_number := f__law_number, d__law_number := _, F__law_number := fun_mk (st := s__law_number) l__law_number c__law_number k__law_number, b__law_number := (fun_mk (st := s__law_number) l__law_number c__law_number k__law_number).binds fun _ _ _ _ _ _ us hl => match us, hl with | [_], _ => rfl, g__law_number := PySem.W.mg_of X G a__law_number, f__law_text := f__law_text, d__law_text := _, F__law_text := fun_mk (st := s__law_text) l__law_text c__law_text k__law_text, b__law_text := (fun_mk (st := s__law_text) l__law_text c__law_text k__law_text).binds fun _ _ _ _ _ _ us hl => match us, hl with | [_, _, _], _ => rfl, g__law_text := PySem.W.mg_of X G a__law_text, f__law_label := f__law_label, d__law_label := _, F__law_label := fun_mk (st := s__law_label) l__law_label c__law_label k__law_label, b__law_label := (fun_mk (st := s__law_label) l__law_label c__law_label k__law_label).binds fun _ _ _ _ _ _ us hl => match us, hl with | [_], _ => rfl, g__law_label := PySem.W.mg_of X G a__law_label, f__law_pair := f__law_pair, d__law_pair := _, F__law_pair := fun_mk (st := s__law_pair) l__law_pair c__law_pair k__law_pair, b__law_pair := (fun_mk (st := s__law_pair) l__law_pair c__law_pair k__law_pair).binds fun _ _ _ _ _ _ us hl => match us, hl with | [_, _, _], _ => rfl, g__law_pair := PySem.W.mg_of X G a__law_pair, f__law_due := f__law_due, d__law_due := _, F__law_due := fun_mk (st := s__law_due) l__law_due c__law_due k__law_due, b__law_due := (fun_mk (st := s__law_due) l__law_due c__law_due k__law_due).binds fun _ _ _ _ _ _ us hl => match us, hl with | [_, _], _ => rfl, g__law_due := PySem.W.mg_of X G a__law_due, f__law_is_pair := f__law_is_pair, d__law_is_pair := _, F__law_is_pair := fun_mk (st := s__law_is_pair) l__law_is_pair c__law_is_pair k__law_is_pair, b__law_is_pair := (fun_mk (st := s__law_is_pair) l__law_is_pair c__law_is_pair k__law_is_pair).binds fun _ _ _ _ _ _ us hl => match us, hl with | [_], _ => rfl, g__law_is_pair := PySem.W.mg_of X G a__law_is_pair, f_law := fa, d_law := _, F_law := fun_mk (st := s_law) l_law c_law k_law, b_law := (fun_mk (st := s_law) l_law c_law k_law).binds fun _ _ _ _ _ _ us hl => match us, hl with | [_], _ => rfl, g_law := PySem.W.mg_of X G a_law, m_abs := PySem.W.mg_none_of X G z_abs, m_bool := PySem.W.mg_none_of X G z_bool, m_enumerate := PySem.W.mg_none_of X G z_enumerate, m_int := PySem.W.mg_none_of X G z_int, m_isinstance := PySem.W.mg_none_of X G z_isinstance, m_len := PySem.W.mg_none_of X G z_len, m_list := PySem.W.mg_none_of X G z_list, m_max := PySem.W.mg_none_of X G z_max, m_range := PySem.W.mg_none_of X G z_range, m_str := PySem.W.mg_none_of X G z_str, m_sum := PySem.W.mg_none_of X G z_sum, m_tuple := PySem.W.mg_none_of X G z_tuple }
  exact ⟨_, fun s v => .of_eq rfl, fun base _ _ => ok_law (base := base) T⟩
end D
open PySem PySem.W PyProof.Rows
set_option maxHeartbeats 0 in
theorem PySem.Challenge.cw_drawnanew_k16_measured_sizes_holds : PySem.Challenge.rw_drawnanew_k16_measured_sizes.Holds := by
  w_on; o_law; k_head; (case hw => w_witness2)
  k_fill
  refine L2.walk_of (l := PySem.Challenge.rw_drawnanew_k16_measured_sizes) (n := 63) (k := 5) (x := "_law_script") (CX := fun _ => L2.CX0) (sp := fun w => D.sp_law _) rfl (by decide) rfl ⟨rfl, by decide, by decide⟩ (fun w h Y => PySem.W.kIn_of Y) ?F (fun _ _ a ns hl _ hS => ⟨a, ns, rfl, hS, hl, fun _ => rfl⟩) (fun _ _ _ _ _ h => h)
  case F =>
    intro w mg fa h KX G hmg
    refine' D.all_mk KX G hmg ?a_measure ?l_measure ?c_measure ?k_measure ?a__law_mixed ?l__law_mixed ?c__law_mixed ?k__law_mixed ?a__law_bag ?l__law_bag ?c__law_bag ?k__law_bag ?a__law_pick ?l__law_pick ?c__law_pick ?k__law_pick ?a__law_choice ?l__law_choice ?c__law_choice ?k__law_choice ?a__law_mingled ?l__law_mingled ?c__law_mingled ?k__law_mingled ?a__law_number ?l__law_number ?c__law_number ?k__law_number ?a__law_text ?l__law_text ?c__law_text ?k__law_text ?a__law_label ?l__law_label ?c__law_label ?k__law_label ?a__law_pair ?l__law_pair ?c__law_pair ?k__law_pair ?a__law_due ?l__law_due ?c__law_due ?k__law_due ?a__law_is_pair ?l__law_is_pair ?c__law_is_pair ?k__law_is_pair ?a_law ?l_law ?c_law ?k_law ?z_abs ?z_bool ?z_enumerate ?z_int ?z_isinstance ?z_len ?z_list ?z_max ?z_range ?z_str ?z_sum ?z_tuple
    (case a_measure => k_is); (case l_measure => k_is); (case c_measure => k_is); (case k_measure => k_is); (case a__law_mixed => k_is); (case l__law_mixed => k_is); (case c__law_mixed => k_is); (case k__law_mixed => k_is); (case a__law_bag => k_is); (case l__law_bag => k_is); (case c__law_bag => k_is); (case k__law_bag => k_is); (case a__law_pick => k_is); (case l__law_pick => k_is); (case c__law_pick => k_is); (case k__law_pick => k_is); (case a__law_choice => k_is); (case l__law_choice => k_is); (case c__law_choice => k_is); (case k__law_choice => k_is); (case a__law_mingled => k_is); (case l__law_mingled => k_is); (case c__law_mingled => k_is); (case k__law_mingled => k_is); (case a__law_number => k_is); (case l__law_number => k_is); (case c__law_number => k_is); (case k__law_number => k_is); (case a__law_text => k_is); (case l__law_text => k_is); (case c__law_text => k_is); (case k__law_text => k_is); (case a__law_label => k_is); (case l__law_label => k_is); (case c__law_label => k_is); (case k__law_label => k_is); (case a__law_pair => k_is); (case l__law_pair => k_is); (case c__law_pair => k_is); (case k__law_pair => k_is); (case a__law_due => k_is); (case l__law_due => k_is); (case c__law_due => k_is); (case k__law_due => k_is); (case a__law_is_pair => k_is); (case l__law_is_pair => k_is); (case c__law_is_pair => k_is); (case k__law_is_pair => k_is); (case a_law => k_is); (case l_law => k_is); (case c_law => k_is); (case k_law => k_is); (case z_abs => k_is); (case z_bool => k_is); (case z_enumerate => k_is); (case z_int => k_is); (case z_isinstance => k_is); (case z_len => k_is); (case z_list => k_is); (case z_max => k_is); (case z_range => k_is); (case z_str => k_is); (case z_sum => k_is); (case z_tuple => k_is)

