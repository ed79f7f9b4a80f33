import PyProof.Rows.All
import Wide.All
import OpenK.AllK
import Wide.FinOn
import PyProof.Rows.IntBool
import HandS.ForMost
import HandS.IsInst
import HandS.TupAny
import HandS.Conv
import HandS.More
import HandS.Style
import HandS.Property
import HandS.Star
import HandS.DictComp
import HandS.RaiseMore
import HandS.SetFor
import HandS.SlotsOwn
import HandS.Codes
import KE.GoesEnum
import HandS.Deep
import HandS.Strs
import HandS.ReCall
import PySem.Challenge.RW_drawnanew_k23_idents
set_option Elab.async false
set_option linter.all false
set_option maxRecDepth 100000
set_option maxHeartbeats 4000000
namespace D
open PySem PySem.Spec PyProof.Rows L2

/-! ### rules that the layer lacks -/
def bI (b : Bool) : Int := if b = true then 1 else 0
theorem op_mul_ib {X : Cx} : OpR X (binaryOp .Mult) (fun x y H Q => ∃ i k, x = .int i ∧ y = .bl k ∧ Q (.int (i * bI k)) H) := by
  intro pins s σ H x y v u Q I rx ry h
  obtain ⟨i, k, rfl, rfl, q⟩ := h
  obtain ⟨t, rfl⟩ := rx
  cases ry
  exact PySem.IntBool.mul_int_bool ⟨.int (i * bI k), H, I.tok _, ⟨_, rfl⟩, q⟩

/-! ### heaps: M the addresses that may be written -/
abbrev Ms := Addr → Prop
def Sx (M : Ms) (H H' : Hp) : Prop := ∀ a o, ¬ M a → H a = some o → H' a = some o
def one (b : Addr) : Ms := fun a => a = b
def also (M : Ms) (b : Addr) : Ms := fun a => M a ∨ a = b
/-- what may be written stands -/
def Mk (M : Ms) (H : Hp) : Prop := ∀ a, M a → H a ≠ none
theorem Sx.refl {M : Ms} {H : Hp} : Sx M H H := fun _ _ _ h => h
theorem Sx.trans {M : Ms} {H H1 H2 : Hp} (a : Sx M H H1) (b : Sx M H1 H2) : Sx M H H2 := fun c o n h => b c o n (a c o n h)
theorem Sx.le {M N : Ms} {H H' : Hp} (s : Sx M H H') (h : ∀ a, M a → N a) : Sx N H H' := fun a o n e => s a o (fun m => n (h a m)) e
theorem Sx.same {M : Ms} {H H' : Hp} (s : Same H H') : Sx M H H' := fun a o _ e => s a o e
theorem Sx.new {M : Ms} {H : Hp} {p : Addr} {o : HO} (h : H p = none) : Sx M H (upd H p o) := fun a u _ e => by
  rw [upd_ne (ne_of_none e h)]
  exact e
theorem Sx.put {M : Ms} {H : Hp} {p : Addr} {o : HO} (h : M p) : Sx M H (upd H p o) := fun a u n e => by
  rw [upd_ne (fun z => n (by rw [z]; exact h))]
  exact e
theorem same_new {H : Hp} {p : Addr} {o : HO} (h : H p = none) : Same H (upd H p o) := fun a u e => by
  rw [upd_ne (ne_of_none e h)]
  exact e
theorem Mk.step {M : Ms} {H H' : Hp} (m : Mk M H) (h : ∀ a, H a ≠ none → H' a ≠ none) : Mk M H' := fun a z => h a (m a z)
theorem there_new {H : Hp} {p a : Addr} {o : HO} (h : H a ≠ none) : upd H p o a ≠ none := by
  by_cases e : a = p
  · subst e
    rw [upd_same]
    exact fun z => nomatch z
  · rw [upd_ne e]
    exact h
/-- nothing goes -/
def Gr (H H' : Hp) : Prop := ∀ a, H a ≠ none → H' a ≠ none
theorem Gr.refl {H : Hp} : Gr H H := fun _ h => h
theorem Gr.trans {H H1 H2 : Hp} (a : Gr H H1) (b : Gr H1 H2) : Gr H H2 := fun c h => b c (a c h)
theorem Gr.upd {H : Hp} {p : Addr} {o : HO} : Gr H (upd H p o) := fun _ h => there_new h
theorem Gr.same {H H' : Hp} (s : Same H H') : Gr H H' := fun a h => by
  cases e : H a with
  | none => exact absurd e h
  | some o =>
    rw [s a o e]
    exact fun z => nomatch z
theorem Mk.gr {M : Ms} {H H' : Hp} (m : Mk M H) (g : Gr H H') : Mk M H' := fun a z => g a (m a z)
theorem Mk.out {M : Ms} {H : Hp} {p : Addr} (m : Mk M H) (h : H p = none) : ¬ M p := fun z => m p z h
theorem Mk.also {M : Ms} {H : Hp} {p : Addr} (m : Mk M H) (h : H p ≠ none) : Mk (also M p) H := fun a z => by
  rcases z with z | rfl
  · exact m a z
  · exact h
theorem ne_none {H : Hp} {p : Addr} {o : HO} (h : H p = some o) : H p ≠ none := by
  rw [h]
  exact fun z => nomatch z
theorem upd_there {H : Hp} {p : Addr} {o : HO} : upd H p o p ≠ none := by
  rw [upd_same]
  exact fun z => nomatch z

/-! ### lists and tuples that are read -/
theorem sx_rd {M : Ms} {H H' : Hp} {a : Addr} {u : HO} (s : Sx M H H') (n : ¬ M a) (h : Rd H a u) : Rd H' a u := by
  rcases h with h | ⟨o, h⟩
  · exact .inl (s a _ n h)
  · exact .inr ⟨o, s a _ n h⟩
theorem sx_l {K : PySem.W.Frag} {M : Ms} {H H' : Hp} {a : Addr} {xs : List V} (s : Sx M H H') (n : ¬ M a) (h : SqL K H a xs) : SqL K H' a xs := by
  rcases h with h | h
  · exact .inl (sx_rd s n h)
  · exact .inr h
theorem sx_t {K : PySem.W.Frag} {M : Ms} {H H' : Hp} {a : Addr} {xs : List V} (s : Sx M H H') (n : ¬ M a) (h : SqT K H a xs) : SqT K H' a xs := by
  rcases h with h | h
  · exact .inl (sx_rd s n h)
  · exact .inr h

/-! ### data -/
/-- a tuple that stands -/
inductive RdT (H : Hp) (a : Addr) (xs : List V) : Prop
  | inl (h : H a = some (.tup xs))
theorem RdT.rd {H : Hp} {a : Addr} {xs : List V} (h : RdT H a xs) : Rd H a (.tup xs) := h.casesOn fun h => .inl h
theorem RdT.at {H : Hp} {a : Addr} {xs : List V} (h : RdT H a xs) : H a = some (.tup xs) := h.casesOn fun h => h
theorem sx_rt {M : Ms} {H H' : Hp} {a : Addr} {u : List V} (s : Sx M H H') (n : ¬ M a) (h : RdT H a u) : RdT H' a u := .inl (s a _ n h.at)
mutual
inductive Rp (M : Ms) (H : Hp) : V → PyData → Prop
  | non : Rp M H .non .none
  | bl (b : Bool) : Rp M H (.bl b) (.bool b)
  | int (i : Int) : Rp M H (.int i) (.int i)
  | str (x : Str) : Rp M H (.str x) (.str x)
  | lst {a : Addr} {xs : List V} {ds : List PyData} : ¬ M a → Rd H a (.lst xs) → RpAll M H xs ds → Rp M H (.ref a) (.list ds)
  | tup {a : Addr} {xs : List V} {ds : List PyData} : ¬ M a → RdT H a xs → RpAll M H xs ds → Rp M H (.ref a) (.tuple ds)
inductive RpAll (M : Ms) (H : Hp) : List V → List PyData → Prop
  | nil : RpAll M H [] []
  | cons {v : V} {vs : List V} {d : PyData} {ds : List PyData} : Rp M H v d → RpAll M H vs ds → RpAll M H (v :: vs) (d :: ds)
end
section
variable {K : PySem.W.Frag} {M N : Ms} {H H' : Hp}
mutual
theorem Rp.imp (f : ∀ a u, ¬ M a → Rd H a u → ¬ N a) (fl : ∀ a u, ¬ M a → Rd H a u → Rd H' a u) (ft : ∀ a xs, ¬ M a → RdT H a xs → RdT H' a xs) : ∀ (d : PyData) (v : V), Rp M H v d → Rp N H' v d
  | .none, _, h => by cases h; exact .non
  | .bool b, _, h => by cases h; exact .bl b
  | .int i, _, h => by cases h; exact .int i
  | .str x, _, h => by cases h; exact .str x
  | .list ds, _, h => by
    cases h with
    | lst n s r => exact .lst (f _ _ n s) (fl _ _ n s) (RpAll.imp f fl ft ds _ r)
  | .tuple ds, _, h => by
    cases h with
    | tup n s r => exact .tup (f _ _ n s.rd) (ft _ _ n s) (RpAll.imp f fl ft ds _ r)
  | .dict _, _, h => by cases h
theorem RpAll.imp (f : ∀ a u, ¬ M a → Rd H a u → ¬ N a) (fl : ∀ a u, ¬ M a → Rd H a u → Rd H' a u) (ft : ∀ a xs, ¬ M a → RdT H a xs → RdT H' a xs) : ∀ (ds : List PyData) (vs : List V), RpAll M H vs ds → RpAll N H' vs ds
  | [], _, h => by cases h; exact .nil
  | d :: ds, _, h => by
    cases h with
    | cons h1 h2 => exact .cons (Rp.imp f fl ft d _ h1) (RpAll.imp f fl ft ds _ h2)
end
theorem Rp.sx {v : V} {d : PyData} (s : Sx M H H') (h : Rp M H v d) : Rp M H' v d := Rp.imp (fun _ _ n _ => n) (fun _ _ n q => sx_rd s n q) (fun _ _ n q => sx_rt s n q) d v h
theorem RpAll.sx {vs : List V} {ds : List PyData} (s : Sx M H H') (h : RpAll M H vs ds) : RpAll M H' vs ds := RpAll.imp (fun _ _ n _ => n) (fun _ _ n q => sx_rd s n q) (fun _ _ n q => sx_rt s n q) ds vs h
/-- fewer that may be written -/
theorem Rp.less {v : V} {d : PyData} (f : ∀ a, N a → M a) (h : Rp M H v d) : Rp N H v d := Rp.imp (fun a _ n _ m => n (f a m)) (fun _ _ _ q => q) (fun _ _ _ q => q) d v h
theorem RpAll.less {vs : List V} {ds : List PyData} (f : ∀ a, N a → M a) (h : RpAll M H vs ds) : RpAll N H vs ds := RpAll.imp (fun a _ n _ m => n (f a m)) (fun _ _ _ q => q) (fun _ _ _ q => q) ds vs h

/-- an address that no datum reads: nothing stands there -/
theorem sql_kept {a p : Addr} {xs : List V} {o : HO} (h : SqL K H a xs) (n : H p = none) : SqL K (upd H p o) a xs := sx_l (M := fun _ => False) (Sx.new n) (fun z => z) h
theorem sqt_kept {a p : Addr} {xs : List V} {o : HO} (h : SqT K H a xs) (n : H p = none) : SqT K (upd H p o) a xs := sx_t (M := fun _ => False) (Sx.new n) (fun z => z) h

mutual
theorem Rp.dp : ∀ (d : PyData) (v : V), Rp M H v d → Dp K H v d
  | .none, _, h => by cases h; exact .non
  | .bool b, _, h => by cases h; exact .bl b
  | .int i, _, h => by cases h; exact .int i
  | .str x, _, h => by cases h; exact .str x
  | .list ds, _, h => by
    cases h with
    | lst n s r => exact .lst (.inl s) (RpAll.dp ds _ r)
  | .tuple ds, _, h => by
    cases h with
    | tup n s r => exact .tup (.inl s.rd) (RpAll.dp ds _ r)
  | .dict _, _, h => by cases h
theorem RpAll.dp : ∀ (ds : List PyData) (vs : List V), RpAll M H vs ds → DpAll K H vs ds
  | [], _, h => by cases h; exact .nil
  | d :: ds, _, h => by
    cases h with
    | cons h1 h2 => exact .cons (Rp.dp d _ h1) (RpAll.dp ds _ h2)
end
theorem RpAll.length : ∀ {ds : List PyData} {vs : List V}, RpAll M H vs ds → vs.length = ds.length
  | [], _, h => by cases h; rfl
  | d :: ds, _, h => by
    cases h with
    | cons _ h2 =>
      rw [List.length_cons, List.length_cons, RpAll.length h2]
theorem RpAll.get : ∀ {ds : List PyData} {vs : List V} {i : Nat} {v : V}, RpAll M H vs ds → vs[i]? = some v → ∃ d, ds[i]? = some d ∧ Rp M H v d
  | [], _, i, v, h, e => by cases h; simp at e
  | d :: ds, _, 0, v, h, e => by
    cases h with
    | cons h1 _ =>
      have e1 := Option.some.inj e
      subst e1
      exact ⟨d, rfl, h1⟩
  | d :: ds, _, i + 1, v, h, e => by
    cases h with
    | cons _ h2 => exact RpAll.get (i := i) h2 e
theorem RpAll.getD : ∀ {ds : List PyData} {vs : List V} {i : Nat} {d : PyData}, RpAll M H vs ds → ds[i]? = some d → ∃ v, vs[i]? = some v ∧ Rp M H v d
  | [], _, i, v, h, e => by simp at e
  | d :: ds, _, 0, v, h, e => by
    cases h with
    | cons h1 _ =>
      have e1 := Option.some.inj e
      subst e1
      exact ⟨_, rfl, h1⟩
  | d :: ds, _, i + 1, v, h, e => by
    cases h with
    | cons _ h2 => exact RpAll.getD (i := i) h2 e
theorem RpAll.append : ∀ {ds es : List PyData} {vs us : List V}, RpAll M H vs ds → RpAll M H us es → RpAll M H (vs ++ us) (ds ++ es)
  | [], _, _, _, h, g => by cases h; exact g
  | d :: ds, _, _, _, h, g => by
    cases h with
    | cons h1 h2 => exact .cons h1 (RpAll.append h2 g)
theorem RpAll.take : ∀ (n : Nat) {ds : List PyData} {vs : List V}, RpAll M H vs ds → RpAll M H (vs.take n) (ds.take n)
  | 0, _, _, _ => .nil
  | n + 1, [], _, h => by cases h; exact .nil
  | n + 1, d :: ds, _, h => by
    cases h with
    | cons h1 h2 => exact .cons h1 (RpAll.take n h2)
theorem RpAll.drop : ∀ (n : Nat) {ds : List PyData} {vs : List V}, RpAll M H vs ds → RpAll M H (vs.drop n) (ds.drop n)
  | 0, _, _, h => h
  | n + 1, [], _, h => by cases h; exact .nil
  | n + 1, d :: ds, _, h => by
    cases h with
    | cons h1 h2 => exact RpAll.drop n h2
theorem RpAll.one {v : V} {d : PyData} (h : Rp M H v d) : RpAll M H [v] [d] := .cons h .nil
theorem RpAll.eraseIdx : ∀ (n : Nat) {ds : List PyData} {vs : List V}, RpAll M H vs ds → RpAll M H (vs.eraseIdx n) (ds.eraseIdx n)
  | _, [], _, h => by cases h; exact .nil
  | 0, d :: ds, _, h => by
    cases h with
    | cons h1 h2 => exact h2
  | n + 1, d :: ds, _, h => by
    cases h with
    | cons h1 h2 => exact .cons h1 (RpAll.eraseIdx n h2)
theorem RpAll.ints : ∀ (ns : List Int), RpAll M H (ns.map V.int) (ns.map PyData.int)
  | [] => .nil
  | n :: r => .cons (.int n) (RpAll.ints r)
theorem RpAll.ofInts : ∀ {ns : List Int} {vs : List V}, RpAll M H vs (ns.map PyData.int) → vs = ns.map V.int
  | [], _, h => by cases h; rfl
  | n :: r, _, h => by
    cases h with
    | cons h1 h2 =>
      cases h1
      rw [RpAll.ofInts h2]
      rfl
end

/-- a fresh address may be written from now on -/
theorem rd_ne {H : Hp} {a p : Addr} {u : HO} (h : Rd H a u) (n : H p = none) : a ≠ p := fun e => by
  subst e
  rcases h with h | ⟨o, h⟩ <;> rw [n] at h <;> cases h
theorem Rp.fresh {M : Ms} {H : Hp} {p : Addr} (hp : H p = none) : ∀ {d : PyData} {v : V}, Rp M H v d → Rp (also M p) H v d := fun {d v} h => Rp.imp (fun a u n r z => z.elim n fun e => rd_ne r hp e) (fun _ _ _ q => q) (fun _ _ _ q => q) d v h
theorem RpAll.fresh {M : Ms} {H : Hp} {p : Addr} (hp : H p = none) {ds : List PyData} {vs : List V} (h : RpAll M H vs ds) : RpAll (also M p) H vs ds := RpAll.imp (fun a u n r z => z.elim n fun e => rd_ne r hp e) (fun _ _ _ q => q) (fun _ _ _ q => q) ds vs h
theorem also_le {M : Ms} {p : Addr} : ∀ a, M a → also M p a := fun _ h => .inl h

/-! ### the bag of a script's numbers -/
structure Bag (K : PySem.W.Frag) (M : Ms) (H : Hp) (b : Addr) : Prop where
  w : M b
  h : ∃ (n : Addr) (ns : List Int) (p r t s : Int), H b = some (.lst [.ref n, .int p, .int r, .int t, .int s]) ∧ ¬ M n ∧ Rd H n (.lst (ns.map V.int)) ∧ 0 ≤ p ∧ 0 ≤ r
/-- only the object at b has changed -/
def At (b : Addr) (H H' : Hp) : Prop := ∀ a, a ≠ b → H' a = H a
theorem At.upd {b : Addr} {H : Hp} {o : HO} : At b H (upd H b o) := fun _ n => upd_ne n
theorem At.sx {b : Addr} {H H' : Hp} (h : At b H H') : Sx (one b) H H' := fun a o n e => (h a n).trans e
theorem Bag.there {K : PySem.W.Frag} {M : Ms} {H : Hp} {b : Addr} (h : Bag K M H b) : H b ≠ none := by
  obtain ⟨_, n, ns, p, r, t, s, e, _⟩ := h
  exact ne_none e
/-- other things are written, new ones made -/
theorem Bag.keep {K : PySem.W.Frag} {M N : Ms} {H H' : Hp} {b : Addr} (h : Bag K M H b) (s : Sx N H H') (nb : ¬ N b) (le : ∀ a, N a → M a) : Bag K M H' b := by
  obtain ⟨w, n, ns, p, r, t, sd, e, hn, rd, q⟩ := h
  exact ⟨w, n, ns, p, r, t, sd, s _ _ nb e, hn, sx_rd s (fun z => hn (le _ z)) rd, q⟩
theorem Bag.more {K : PySem.W.Frag} {M : Ms} {H : Hp} {b p : Addr} (h : Bag K M H b) (hp : H p = none) : Bag K (also M p) H b := by
  obtain ⟨w, n, ns, q, r, t, sd, e, hn, rd, z⟩ := h
  exact ⟨.inl w, n, ns, q, r, t, sd, e, fun m => m.elim hn fun e => rd_ne rd hp e, rd, z⟩
theorem Bag.less {K : PySem.W.Frag} {M N : Ms} {H : Hp} {b : Addr} (h : Bag K M H b) (w : N b) (f : ∀ a, N a → M a) : Bag K N H b := by
  obtain ⟨_, n, ns, q, r, t, sd, e, hn, rd, z⟩ := h
  exact ⟨w, n, ns, q, r, t, sd, e, fun m => hn (f _ m), rd, z⟩
theorem one_le {M : Ms} {b : Addr} (w : M b) : ∀ a, one b a → M a := fun a e => by
  have e' : a = b := e
  rw [e']
  exact w
/-- a draw: behind it the bag stands, all else too -/
def Dr (K : PySem.W.Frag) (M : Ms) (b : Addr) (H : Hp) (R : PyData → Prop) (Q : VK) : Prop := ∀ v H' d, Sx (one b) H H' → Gr H H' → Bag K M H' b → Rp M H' v d → R d → Q v H'
/-- a def that writes nothing -/
def Pu (M : Ms) (H : Hp) (R : PyData → Prop) (Q : VK) : Prop := ∀ v H' d, Same H H' → Rp M H' v d → R d → Q v H'

/-! ### loops that the layer has no short rule for -/
theorem for_enum {K : PySem.W.Frag} {a : Addr} {xs : List V} {g : TG} {tb : TS} {D : Ends} {σ : L2.St} {H : Hp} (Pv : Nat → L2.St → Hp → Prop) (h0 : Pv 0 σ H) (hl : ∀ i σ H, i ≤ xs.length → Pv i σ H → SqL K H a xs)
    (hs : ∀ i x T σ H, xs[i]? = some x → H T = none → Pv i σ H → g (.ref T) σ (upd H T (.tup [.int (i : Nat), x])) fun σ2 H2 => tb { D with nx := Pv (i + 1), ct := Pv (i + 1), bk := D.nx } σ2 H2) (hd : ∀ σ H, Pv xs.length σ H → D.nx σ H) :
    ∃ W : Nat → Nat → L2.St → Hp → Prop, (∃ m, W 0 m σ H) ∧ ∀ i m σ H, W i m σ H →
      ((Ite K a).stop i H ∧ D.nx σ H) ∨ ((Ite K a).go i H ∧ ∃ N : L2.St → Hp → Prop, (∀ σ' H', N σ' H' → ∃ m', m' < m ∧ W (i + 1) m' σ' H') ∧ ∀ x H', (Ite K a).yld i H x H' → g x σ H' fun σ2 H2 => tb { D with nx := N, ct := N, bk := D.nx } σ2 H2) := by
  refine ⟨fun i m σ H => m = xs.length - i ∧ i ≤ xs.length ∧ Pv i σ H, ⟨xs.length, by simp, Nat.zero_le _, h0⟩, ?_⟩
  rintro i m σ H ⟨rfl, hi, p⟩
  have q := hl i σ H hi p
  by_cases hlt : i < xs.length
  · refine .inr ⟨⟨xs, xs[i], q, by simp [hlt]⟩, Pv (i + 1), fun σ' H' p' => ⟨xs.length - (i + 1), by omega, rfl, hlt, p'⟩, fun x H' y => ?_⟩
    obtain ⟨T, z, rfl, hT, rfl, hz⟩ := y
    exact hs i z T σ _ (hz xs q) hT p
  · have e : i = xs.length := by omega
    subst e
    exact .inl ⟨⟨xs, q, Nat.le_refl _⟩, hd σ H p⟩

theorem seqIx {j n : Nat} (h : j < n) : seqIndex? (j : Int) n = some j := by
  unfold seqIndex?
  have h1 : ¬ ((j : Int) < 0) := by omega
  have h2 : (0 : Int) ≤ (j : Int) := by omega
  have h3 : (j : Int) < (n : Int) := by omega
  simp only [if_neg h1, decide_eq_true h2, decide_eq_true h3, Bool.and_self, if_true, Int.toNat_natCast]
theorem small1000000 {n : Nat} (h : n ≤ 1000000) : n < sizeLine := Nat.lt_of_le_of_lt h (by decide)
theorem At.gr {b : Addr} {H H' : Hp} (h : At b H H') (hb : H' b ≠ none) : Gr H H' := fun a n => by
  by_cases e : a = b
  · rw [e]
    exact hb
  · rw [h a e]
    exact n

/-- what did not stand needs no leave -/
theorem Sx.cut {M : Ms} {H H' : Hp} {p : Addr} (s : Sx (also M p) H H') (n : H p = none) : Sx M H H' := fun a o m e => s a o (fun z => z.elim m fun z => by
  rw [z, n] at e
  cases e) e

theorem str_len (x y : Str) : (x ++ y).length = x.length + y.length := by
  show (x.cps ++ y.cps).size = _
  rw [Array.size_append]
  rfl

theorem log2_10 {v : Int} (h0 : 0 ≤ v) (h1 : v < 10) : v.natAbs.log2 < 1920 := Nat.lt_of_le_of_lt (Nat.log2_le_self _) (by omega)
theorem dig_len {v : Int} (h0 : 0 ≤ v) (h1 : v < 10) : (Str.ofString (toString v)).length = 1 := by
  have h : v = 0 ∨ v = 1 ∨ v = 2 ∨ v = 3 ∨ v = 4 ∨ v = 5 ∨ v = 6 ∨ v = 7 ∨ v = 8 ∨ v = 9 := by omega
  rcases h with rfl | rfl | rfl | rfl | rfl | rfl | rfl | rfl | rfl | rfl <;> decide +kernel
def isLab : V → Bool
  | .str z => decide (z.length ≤ 30)
  | _ => false
theorem lab_all (xs : List V) (h : xs.all isLab = true) : ∀ v ∈ xs, ∃ z : Str, v = V.str z ∧ z.length ≤ 30 := fun v hv => by
  have h1 := List.all_eq_true.mp h v hv
  cases v with
  | str z => exact ⟨z, rfl, of_decide_eq_true h1⟩
  | _ => cases h1

theorem sz2 {x y : V} : [x, y].length ≤ sizeLine := by show 2 ≤ sizeLine; decide
/-! ### sizes of nodes -/
def mx (ns : List Int) : Int := ns.foldl (fun a b => if a < b then b else a) 0
theorem foldmx : ∀ (ns : List Int) (a : Int), a ≤ ns.foldl (fun a b => if a < b then b else a) a ∧ (∀ n ∈ ns, n ≤ ns.foldl (fun a b => if a < b then b else a) a) ∧ (ns.foldl (fun a b => if a < b then b else a) a = a ∨ ns.foldl (fun a b => if a < b then b else a) a ∈ ns)
  | [], a => ⟨Int.le_refl _, (fun _ h => nomatch h), .inl rfl⟩
  | n :: r, a => by
    have ih := foldmx r (if a < n then n else a)
    simp only [List.foldl_cons]
    obtain ⟨h1, h2, h3⟩ := ih
    refine ⟨?_, fun m hm => ?_, ?_⟩
    · split at h1 <;> split <;> omega
    · rcases List.mem_cons.mp hm with rfl | hm
      · split at h1 <;> split <;> omega
      · exact h2 m hm
    · rcases h3 with h3 | h3
      · by_cases c : a < n
        · right
          rw [if_pos c] at h3 ⊢
          rw [h3]
          exact List.mem_cons_self
        · left
          rw [if_neg c] at h3 ⊢
          exact h3
      · exact .inr (List.mem_cons_of_mem _ h3)
theorem mx_of {ns : List Int} {m : Int} (h0 : ∀ n ∈ ns, 0 ≤ n) (hm : m ∈ ns) (hle : ∀ y, y ∈ ns → y ≤ m) : m = mx ns := by
  obtain ⟨h1, h2, h3⟩ := foldmx ns 0
  have a := h2 m hm
  have b := h0 m hm
  unfold mx
  rcases h3 with h3 | h3
  · omega
  · have c := hle _ h3
    omega
theorem mx_take {ns : List Int} {i : Nat} {z : Int} (h : ns[i]? = some z) : mx (ns.take (i + 1)) = if mx (ns.take i) < z then z else mx (ns.take i) := by
  unfold mx
  rw [List.take_add_one, h, List.foldl_append]
  rfl
def sRow : Str := "row"
def sCol : Str := "col"
def szf (z : Str) (ps : List (Int × Int)) : Int × Int :=
  if ps = [] then (if z = sRow ∨ z = sCol then (0, 0) else ((z.length : Int), 1))
  else if z = sRow then ((ps.map (·.1)).sum, mx (ps.map (·.2))) else (mx (ps.map (·.1)), (ps.map (·.2)).sum)
/-- pairs -/
def pD (p : Int × Int) : PyData := .tuple [.int p.1, .int p.2]
theorem Rp.pair {M : Ms} {H : Hp} {v : V} {p : Int × Int} (h : Rp M H v (pD p)) : ∃ t, v = .ref t ∧ Rd H t (.tup [.int p.1, .int p.2]) := by
  cases h with
  | @tup a xs _ n s r =>
    cases r with
    | cons h1 h2 =>
      cases h2 with
      | cons h3 h4 =>
        cases h1
        cases h3
        cases h4
        exact ⟨a, rfl, s.rd⟩
theorem RpAll.pair {M : Ms} {H : Hp} {vs : List V} {ps : List (Int × Int)} {i : Nat} {v : V} (h : RpAll M H vs (ps.map pD)) (hv : vs[i]? = some v) : ∃ p t, ps[i]? = some p ∧ v = .ref t ∧ Rd H t (.tup [.int p.1, .int p.2]) := by
  obtain ⟨d, hd, hr⟩ := h.get hv
  rw [List.getElem?_map] at hd
  obtain ⟨p, hp, rfl⟩ := Option.map_eq_some_iff.mp hd
  obtain ⟨t, e, r⟩ := hr.pair
  exact ⟨p, t, hp, e, r⟩
theorem same_rd {H H' : Hp} {a : Addr} {u : HO} (s : Same H H') (h : Rd H a u) : Rd H' a u := sx_rd (M := fun _ => False) (Sx.same s) (fun z => z) h

/-! ### the layer's rules with the written part named, for comprehensions -/
section
variable {X : Cx} {K : PySem.W.Frag}
theorem ix_listK (h : X.K = K) : IxR X (rIxL K) := by subst h; exact ix_list
theorem ix_tupK (h : X.K = K) : IxR X (rIxT K) := by subst h; exact ix_tup
theorem sl_listK (h : X.K = K) : SlR X (rSlL K) := by subst h; exact sl_list
theorem sl_tupK (h : X.K = K) : SlR X (rSlA K) := by subst h; exact sl_tupA
theorem op_in_seqK (h : X.K = K) : OpR X (compareOp .In) (rIn K false) := by subst h; exact op_in_seq
theorem op_notIn_seqK (h : X.K = K) : OpR X (compareOp .NotIn) (rIn K true) := by subst h; exact op_notIn_seq
theorem op_catAK (h : X.K = K) : OpR X (binaryOp .Add) (rCatA K) := by subst h; exact op_catA
theorem op_eqDK (h : X.K = K) (hu : X.A.units + 64 < cLine) : OpR X (compareOp .Eq) (rEqD K) := by subst h; exact op_eqD hu
theorem op_neDK (h : X.K = K) (hu : X.A.units + 64 < cLine) : OpR X (compareOp .NotEq) (rNeD K) := by subst h; exact op_neD hu
def rLenS (K : PySem.W.Frag) : List V → Hp → VK → Prop := fun xs H Q => ∃ p ys, xs = [.ref p] ∧ (SqL K H p ys ∨ SqT K H p ys) ∧ Q (.int ys.length) H
theorem call_lenK (h : X.K = K) : CallR X (.builtin "len") (rLenS K) := by subst h; exact call_len_seq
def rListS (K : PySem.W.Frag) : List V → Hp → VK → Prop := fun xs H Q => ∃ p ys, xs = [.ref p] ∧ (SqL K H p ys ∨ SqT K H p ys) ∧ ∀ l, H l = none → Q (.ref l) (upd H l (.lst ys))
theorem call_listK (h : X.K = K) : CallR X (.type "list") (rListS K) := by subst h; exact call_list_of
def rTupS (K : PySem.W.Frag) : List V → Hp → VK → Prop := fun xs H Q => ∃ p ys, xs = [.ref p] ∧ ((SqL K H p ys ∧ ∀ l, H l = none → Q (.ref l) (upd H l (.tup ys))) ∨ (SqT K H p ys ∧ Q (.ref p) H))
theorem call_tupleK (h : X.K = K) : CallR X (.type "tuple") (rTupS K) := by subst h; exact call_tuple_of
theorem cr_sumK (h : X.K = K) (hc : X.calm = true) : CallR X (.builtin "sum") (rSum K) := by subst h; exact cr_sum hc
theorem cr_maxK (h : X.K = K) (hc : X.calm = true) : CallR X (.builtin "max") (rMax K) := by subst h; exact cr_max hc
theorem cr_minK (h : X.K = K) (hc : X.calm = true) : CallR X (.builtin "min") (rMin K) := by subst h; exact cr_min hc
theorem cr_anyK (h : X.K = K) (hc : X.calm = true) : CallR X (.builtin "any") (rAny K) := by subst h; exact cr_any hc
theorem cr_allK (h : X.K = K) (hc : X.calm = true) : CallR X (.builtin "all") (rAll K) := by subst h; exact cr_all hc
theorem call_isi1K (h : X.K = K) : CallR X (.builtin "isinstance") (rIsi K) := by subst h; exact call_isi
theorem call_isiTK (h : X.K = K) : CallR X (.builtin "isinstance") (rIsiT K) := by subst h; exact call_isiT
def tTruth (K : PySem.W.Frag) (ta : TE) : TT := fun σ H Q => ta σ H fun x H' => ∃ k, TruV K x H' k ∧ Q k H'
theorem pt_truthK {a : Expr} {ta : TE} (h : X.K = K) (ha : PE X a ta) (he : ∀ whole, isTrue a X.env whole = (do let v ← whole; standAt a.pos; holding [v] (truthy v))) : PT X a (tTruth K ta) := by subst h; exact pt_truth ha he
theorem pe_fldK {e : Expr} {f : Str} {pos : Pos} {ta : TE} (h : X.K = K) (he : PE X e ta) (hb : attributeBase e f X.env (eval e X.env) = eval e X.env) : PE X (.Attribute e f pos) (tFld K ta f) := by subst h; exact pe_fld he hb
theorem pi_listK {tg l : Expr} {tl : TE} (h : X.K = K) (hl : PE X l tl) : PI X tg l (iList K tl) := by subst h; exact pi_list hl
theorem pi_tupK {tg l : Expr} {tl : TE} (h : X.K = K) (hl : PE X l tl) : PI X tg l (iTup K tl) := by subst h; exact pi_tup hl
theorem pg_tupK {es : List Expr} {k : Nat} {t : TGs} {n : Nat} {pos : Pos} (hK : X.K = K) (hc : X.calm = true) (h : PGs X es t)
    (hn : (assignEach es X.env).length = n := by rfl) (hst : (assignEach es X.env).findIdx? (·.1) = none := by rfl) : PG X (.Tuple es k pos) (gTup K n t) := by subst hK; exact pg_tup hc h hn hst
theorem pi_enumK {e : Expr} {ta : TA} {p pos tpos : Pos} {elts : List Expr} {kk : Nat} (hK : X.K = K) (hg : Gl X "enumerate") (hm : X.mg "enumerate" = none) (ha : PA X [e] ta) (hs : starEach [e] X.env = [(false, eval e X.env)] := by rfl) :
    PI X (.Tuple elts kk tpos) (.Call (.Name "enumerate" p) [e] [] pos) (iEnum K ta) := by subst hK; exact pi_enum hg hm ha hs
theorem pi_zipK {e e2 : Expr} {ta : TA} {p pos tpos : Pos} {elts : List Expr} {kk : Nat} (hK : X.K = K) (hg : Gl X "zip") (hm : X.mg "zip" = none) (ha : PA X [e, e2] ta)
    (hs : starEach [e, e2] X.env = (false, eval e X.env) :: starEach [e2] X.env := by rfl) (hpl : (backTo pos (starEach [e2] X.env)).any (·.1) = false := by rfl) :
    PI X (.Tuple elts kk tpos) (.Call (.Name "zip" p) [e, e2] [] pos) (iZip K ta) := by subst hK; exact pi_zip hg hm ha hs hpl
end

/-- a comprehension over a list whose elements make nothing -/
theorem lc_vals {K : PySem.W.Frag} {a : Addr} {xs ys : List V} {g : TG} {tt : TT} {te : TE} {vs : List Nat} {σ : L2.St} {H : Hp} {D : Addr} {Qd : Hp → Prop} (hD : H D = none) (hS : SqL K H a xs) (hn : ys.length = xs.length) (hz : xs.length ≤ 1000000)
    (hs : ∀ (i : Nat) (x y : V) (H' : Hp) (C : VK) (N : Hp → Prop), xs[i]? = some x → ys[i]? = some y → Same H H' → C y H' → g x (wipe σ vs) H' fun σ2 H2 => wipe σ2 vs = wipe σ vs ∧ tt σ2 H2 fun b H3 => if b = true then te σ2 H3 C else N H3)
    (hd : ∀ H', Same H H' → H' D = some (.lst ys) → Qd H') :
    ∃ W : Nat → Nat → Hp → Prop, (∃ m, W 0 m (upd H D (.lst []))) ∧ ∀ i m H, W i m H →
      ((Itl K a).stop i H ∧ Qd H) ∨ ((Itl K a).go i H ∧ ∃ Nx : Hp → Prop, (∀ H', Nx H' → ∃ m', m' < m ∧ W (i + 1) m' H') ∧ ∀ x H', (Itl K a).yld i H x H' → g x (wipe σ vs) H' fun σ2 H2 => wipe σ2 vs = wipe σ vs ∧ tt σ2 H2 fun b H3 =>
        if b = true then te σ2 H3 fun y H4 => ∃ acc, H4 D = some (.lst acc) ∧ acc.length < sizeLine ∧ Nx (upd H4 D (.lst (acc ++ [y]))) else Nx H3) := by
  refine lc_list (K := K) (a := a) (xs := xs) (fun i H' => Same H H' ∧ H' D = some (.lst (ys.take i))) ⟨same_new hD, by rw [upd_same]; rfl⟩ (fun i H' _ p => p.1.seq hS) (fun i x H' hx p => ?_) (fun H' p => ?_)
  · have hi : i < ys.length := by
      rw [hn]
      exact (List.getElem?_eq_some_iff.mp hx).1
    refine hs i x ys[i] H' _ _ hx (List.getElem?_eq_getElem hi) p.1 ⟨_, p.2, ?_, fun c o e => ?_, ?_⟩
    · rw [List.length_take]
      exact small1000000 (by omega)
    · rw [upd_ne (ne_of_none e hD)]
      exact p.1 c o e
    · rw [upd_same, List.take_add_one, List.getElem?_eq_getElem hi]
      rfl
  · refine hd H' p.1 ?_
    have e := p.2
    rw [← hn, List.take_length] at e
    exact e
theorem same_sqt {K : PySem.W.Frag} {H H' : Hp} {a : Addr} {xs : List V} (s : Same H H') (h : SqT K H a xs) : SqT K H' a xs := sx_t (M := fun _ => False) (Sx.same s) (fun z => z) h
/-- a comprehension over a tuple whose elements make nothing -/
theorem lc_valsT {K : PySem.W.Frag} {a : Addr} {xs ys : List V} {g : TG} {tt : TT} {te : TE} {vs : List Nat} {σ : L2.St} {H : Hp} {D : Addr} {Qd : Hp → Prop} (hD : H D = none) (hS : SqT K H a xs) (hn : ys.length = xs.length) (hz : xs.length ≤ 1000000)
    (hs : ∀ (i : Nat) (x y : V) (H' : Hp) (C : VK) (N : Hp → Prop), xs[i]? = some x → ys[i]? = some y → Same H H' → C y H' → g x (wipe σ vs) H' fun σ2 H2 => wipe σ2 vs = wipe σ vs ∧ tt σ2 H2 fun b H3 => if b = true then te σ2 H3 C else N H3)
    (hd : ∀ H', Same H H' → H' D = some (.lst ys) → Qd H') :
    ∃ W : Nat → Nat → Hp → Prop, (∃ m, W 0 m (upd H D (.lst []))) ∧ ∀ i m H, W i m H →
      ((Itt K a).stop i H ∧ Qd H) ∨ ((Itt K a).go i H ∧ ∃ Nx : Hp → Prop, (∀ H', Nx H' → ∃ m', m' < m ∧ W (i + 1) m' H') ∧ ∀ x H', (Itt K a).yld i H x H' → g x (wipe σ vs) H' fun σ2 H2 => wipe σ2 vs = wipe σ vs ∧ tt σ2 H2 fun b H3 =>
        if b = true then te σ2 H3 fun y H4 => ∃ acc, H4 D = some (.lst acc) ∧ acc.length < sizeLine ∧ Nx (upd H4 D (.lst (acc ++ [y]))) else Nx H3) := by
  refine lc_tup (K := K) (a := a) (xs := xs) (fun i H' => Same H H' ∧ H' D = some (.lst (ys.take i))) ⟨same_new hD, by rw [upd_same]; rfl⟩ (fun i H' _ p => same_sqt p.1 hS) (fun i x H' hx p => ?_) (fun H' p => ?_)
  · have hi : i < ys.length := by
      rw [hn]
      exact (List.getElem?_eq_some_iff.mp hx).1
    refine hs i x ys[i] H' _ _ hx (List.getElem?_eq_getElem hi) p.1 ⟨_, p.2, ?_, fun c o e => ?_, ?_⟩
    · rw [List.length_take]
      exact small1000000 (by omega)
    · rw [upd_ne (ne_of_none e hD)]
      exact p.1 c o e
    · rw [upd_same, List.take_add_one, List.getElem?_eq_getElem hi]
      rfl
  · refine hd H' p.1 ?_
    have e := p.2
    rw [← hn, List.take_length] at e
    exact e

/-- two ways meet behind an if without else -/
theorem join2 {b : Bool} {A : Prop} {N : L2.St → Hp → Prop} {σ : L2.St} {H : Hp} (Pv : L2.St → Hp → Prop) (h1 : b = true → (∀ σ H, Pv σ H → N σ H) → A) (h2 : b = false → Pv σ H) (hN : ∀ σ H, Pv σ H → N σ H) : if b = true then A else N σ H := by
  cases b with
  | true =>
    rw [if_pos rfl]
    exact h1 rfl hN
  | false =>
    rw [if_neg Bool.false_ne_true]
    exact hN _ _ (h2 rfl)


theorem RpAll.rep {M : Ms} {H : Hp} {xs : List V} {ds : List PyData} (h : RpAll M H xs ds) : ∀ n : Nat, RpAll M H (List.replicate n xs).flatten (List.replicate n ds).flatten
  | 0 => .nil
  | n + 1 => by
    rw [List.replicate_succ, List.replicate_succ, List.flatten_cons, List.flatten_cons]
    exact h.append (RpAll.rep h n)
theorem Bag.same {K : PySem.W.Frag} {M : Ms} {H H' : Hp} {b : Addr} (h : Bag K M H b) (s : Same H H') : Bag K M H' b := h.keep (N := fun _ => False) (Sx.same s) (fun z => z) (fun _ z => z.elim)
/-- a list of data that may still be written -/
def Ld (M : Ms) (H : Hp) (a : Addr) (ds : List PyData) : Prop := ¬ M a ∧ ∃ xs, H a = some (.lst xs) ∧ RpAll M H xs ds
theorem Ld.rp {M : Ms} {H : Hp} {a : Addr} {ds : List PyData} (h : Ld M H a ds) : Rp M H (.ref a) (.list ds) := by
  obtain ⟨n, xs, e, r⟩ := h
  exact .lst n (.inl e) r
theorem Ld.sx {M : Ms} {H H' : Hp} {a : Addr} {ds : List PyData} (h : Ld M H a ds) (s : Sx M H H') : Ld M H' a ds := by
  obtain ⟨n, xs, e, r⟩ := h
  exact ⟨n, xs, s _ _ n e, r.sx s⟩
theorem Ld.new {M : Ms} {H : Hp} {a : Addr} {xs : List V} {ds : List PyData} (m : Mk M H) (h : H a = none) (r : RpAll M H xs ds) : Ld M (upd H a (.lst xs)) a ds := ⟨m.out h, xs, upd_same, r.sx (Sx.new h)⟩
/-- a comprehension over a list: each element a datum, made on the way -/
theorem lc_data {K : PySem.W.Frag} {a : Addr} {xs : List V} {ys : List PyData} {g : TG} {tt : TT} {te : TE} {vs : List Nat} {σ : L2.St} {H : Hp} {D : Addr} {Qd : Hp → Prop} (M : Ms) (hM : Mk M H) (hD : H D = none) (hS : SqL K H a xs) (hn : ys.length = xs.length) (hz : xs.length ≤ 1000000)
    (hs : ∀ (i : Nat) (x : V) (y : PyData) (H' : Hp) (C : VK) (N : Hp → Prop), xs[i]? = some x → ys[i]? = some y → Same H H' → Mk (also M D) H' → (∀ v H2, Same H' H2 → Rp (also M D) H2 v y → C v H2) → g x (wipe σ vs) H' fun σ2 H2 => wipe σ2 vs = wipe σ vs ∧ tt σ2 H2 fun b H3 => if b = true then te σ2 H3 C else N H3)
    (hd : ∀ H', Same H H' → Ld M H' D ys → Qd H') :
    ∃ W : Nat → Nat → Hp → Prop, (∃ m, W 0 m (upd H D (.lst []))) ∧ ∀ i m H, W i m H →
      ((Itl K a).stop i H ∧ Qd H) ∨ ((Itl K a).go i H ∧ ∃ Nx : Hp → Prop, (∀ H', Nx H' → ∃ m', m' < m ∧ W (i + 1) m' H') ∧ ∀ x H', (Itl K a).yld i H x H' → g x (wipe σ vs) H' fun σ2 H2 => wipe σ2 vs = wipe σ vs ∧ tt σ2 H2 fun b H3 =>
        if b = true then te σ2 H3 fun y H4 => ∃ acc, H4 D = some (.lst acc) ∧ acc.length < sizeLine ∧ Nx (upd H4 D (.lst (acc ++ [y]))) else Nx H3) := by
  refine lc_list (K := K) (a := a) (xs := xs) (fun i H' => Same H H' ∧ ∃ acc, H' D = some (.lst acc) ∧ RpAll (also M D) H' acc (ys.take i)) ⟨same_new hD, [], upd_same, by rw [List.take_zero]; exact .nil⟩ (fun i H' _ p => p.1.seq hS) (fun i x H' hx p => ?_) (fun H' p => ?_)
  · obtain ⟨s, acc, e, r⟩ := p
    have hi : i < ys.length := by
      rw [hn]
      exact (List.getElem?_eq_some_iff.mp hx).1
    have hl := r.length
    rw [List.length_take] at hl
    refine hs i x ys[i] H' _ _ hx (List.getElem?_eq_getElem hi) s ((hM.gr (Gr.same s)).also (ne_none e)) fun v H2 s2 rv => ?_
    refine ⟨acc, s2 _ _ e, small1000000 (by omega), fun c o q => ?_, acc ++ [v], upd_same, ?_⟩
    · rw [upd_ne (ne_of_none q hD)]
      exact s2 _ _ (s c o q)
    · rw [List.take_add_one, List.getElem?_eq_getElem hi]
      exact ((r.sx (Sx.same s2)).append (.one rv)).sx (Sx.put (.inr rfl))
  · obtain ⟨s, acc, e, r⟩ := p
    rw [← hn, List.take_length] at r
    exact hd H' s ⟨hM.out hD, acc, e, r.less also_le⟩

theorem cut_hi (xs : List V) (n : Nat) : cutV xs none (some (n : Int)) = xs.take n := by
  unfold cutV
  rw [show HT.sIx xs.length 0 none = 0 from HT.sIx_none .., show HT.sIx xs.length xs.length (some (n : Int)) = min n xs.length from HT.sIx_nat _ _ n, List.drop_zero, Nat.sub_zero]
  rw [List.take_eq_take_iff]
  omega

theorem szK {n : Nat} (h : Nat.ble n 1000 = true) : n ≤ sizeLine := Nat.le_of_lt (small1000 (Nat.le_of_ble_eq_true h))

/-- what holds behind a statement, said once for all its ways -/
theorem seq_join {t u : TS} {D : Ends} {σ : L2.St} {H : Hp} (Pv : L2.St → Hp → Prop) (h : (∀ σ H, Pv σ H → u D σ H) → t { D with nx := u D } σ H) (hN : ∀ σ H, Pv σ H → u D σ H) : tSeq t u D σ H := h hN

theorem lc_str {z : Str} {g : TG} {tt : TT} {te : TE} {vs : List Nat} {σ : L2.St} {H1 : Hp} {D : Addr} {Qd : Hp → Prop} (Pv : Nat → Hp → Prop) (h0 : Pv 0 (upd H1 D (.lst [])))
    (hs : ∀ i c H, z.cps[i]? = some c → Pv i H → g (.str ⟨#[c]⟩) (wipe σ vs) H fun σ2 H2 => wipe σ2 vs = wipe σ vs ∧ tt σ2 H2 fun b H3 =>
      if b = true then te σ2 H3 fun y H4 => ∃ acc, H4 D = some (.lst acc) ∧ acc.length < sizeLine ∧ Pv (i + 1) (upd H4 D (.lst (acc ++ [y]))) else Pv (i + 1) H3) (hd : ∀ H, Pv z.cps.size H → Qd H) :
    ∃ W : Nat → Nat → Hp → Prop, (∃ m, W 0 m (upd H1 D (.lst []))) ∧ ∀ i m H, W i m H →
      ((Its z).stop i H ∧ Qd H) ∨ ((Its z).go i H ∧ ∃ Nx : Hp → Prop, (∀ H', Nx H' → ∃ m', m' < m ∧ W (i + 1) m' H') ∧ ∀ x H', (Its z).yld i H x H' → g x (wipe σ vs) H' fun σ2 H2 => wipe σ2 vs = wipe σ vs ∧ tt σ2 H2 fun b H3 =>
        if b = true then te σ2 H3 fun y H4 => ∃ acc, H4 D = some (.lst acc) ∧ acc.length < sizeLine ∧ Nx (upd H4 D (.lst (acc ++ [y]))) else Nx H3) := by
  refine ⟨fun i m H => m = z.cps.size - i ∧ i ≤ z.cps.size ∧ Pv i H, ⟨_, rfl, Nat.zero_le _, h0⟩, ?_⟩
  rintro i m H ⟨rfl, hi, p⟩
  by_cases hlt : i < z.cps.size
  · refine .inr ⟨hlt, Pv (i + 1), fun H' p' => ⟨z.cps.size - (i + 1), by omega, rfl, hlt, p'⟩, fun x H' y => ?_⟩
    obtain ⟨e, c, hc, rfl⟩ := y
    subst e
    exact hs i c _ hc p
  · have e : i = z.cps.size := by omega
    subst e
    exact .inl ⟨Nat.le_refl _, hd H p⟩
/-- a comprehension over a text whose elements make nothing -/
theorem lc_valsS {z : Str} {ys : List V} {g : TG} {tt : TT} {te : TE} {vs : List Nat} {σ : L2.St} {H : Hp} {D : Addr} {Qd : Hp → Prop} (hD : H D = none) (hn : ys.length = z.cps.size) (hz : z.cps.size ≤ 1000000)
    (hs : ∀ (i : Nat) (c : Nat) (y : V) (H' : Hp) (C : VK) (N : Hp → Prop), z.cps[i]? = some c → ys[i]? = some y → Same H H' → C y H' → g (.str ⟨#[c]⟩) (wipe σ vs) H' fun σ2 H2 => wipe σ2 vs = wipe σ vs ∧ tt σ2 H2 fun b H3 => if b = true then te σ2 H3 C else N H3)
    (hd : ∀ H', Same H H' → H' D = some (.lst ys) → Qd H') :
    ∃ W : Nat → Nat → Hp → Prop, (∃ m, W 0 m (upd H D (.lst []))) ∧ ∀ i m H, W i m H →
      ((Its z).stop i H ∧ Qd H) ∨ ((Its z).go i H ∧ ∃ Nx : Hp → Prop, (∀ H', Nx H' → ∃ m', m' < m ∧ W (i + 1) m' H') ∧ ∀ x H', (Its z).yld i H x H' → g x (wipe σ vs) H' fun σ2 H2 => wipe σ2 vs = wipe σ vs ∧ tt σ2 H2 fun b H3 =>
        if b = true then te σ2 H3 fun y H4 => ∃ acc, H4 D = some (.lst acc) ∧ acc.length < sizeLine ∧ Nx (upd H4 D (.lst (acc ++ [y]))) else Nx H3) := by
  refine lc_str (z := z) (fun i H' => Same H H' ∧ H' D = some (.lst (ys.take i))) ⟨same_new hD, by rw [upd_same]; rfl⟩ (fun i c H' hc p => ?_) (fun H' p => ?_)
  · have hi : i < ys.length := by
      rw [hn]
      exact (Array.getElem?_eq_some_iff.mp hc).1
    refine hs i c ys[i] H' _ _ hc (List.getElem?_eq_getElem hi) p.1 ⟨_, p.2, ?_, fun c o e => ?_, ?_⟩
    · rw [List.length_take]
      exact small1000000 (by omega)
    · rw [upd_ne (ne_of_none e hD)]
      exact p.1 c o e
    · rw [upd_same, List.take_add_one, List.getElem?_eq_getElem hi]
      rfl
  · refine hd H' p.1 ?_
    have e := p.2
    rw [← hn, List.take_length] at e
    exact e

theorem cut1 (y : V) (r : List V) : cutV (y :: r) (some 1) none = r := by
  unfold cutV
  rw [show HT.sIx (y :: r).length 0 (some 1) = min 1 (y :: r).length from HT.sIx_nat (y :: r).length 0 1, HT.sIx_none]
  rw [show min 1 (y :: r).length = 1 by
      rw [List.length_cons]
      omega]
  show List.take ((y :: r).length - 1) r = r
  rw [List.length_cons, Nat.add_sub_cancel]
  exact List.take_length

theorem rd_ty {K : PySem.W.Frag} {H : Hp} {a : Addr} {xs : List V} (h : Rd H a (.tup xs)) : TyX K H (.ref a) (.type "tuple") := by
  rcases h with h | ⟨o, h⟩
  · exact .base (.tup h)
  · exact .fTuple h
/-- a comprehension over a tuple: each element a datum, made on the way -/
theorem lc_dataT {K : PySem.W.Frag} {a : Addr} {xs : List V} {ys : List PyData} {g : TG} {tt : TT} {te : TE} {vs : List Nat} {σ : L2.St} {H : Hp} {D : Addr} {Qd : Hp → Prop} (M : Ms) (hM : Mk M H) (hD : H D = none) (hS : SqT K H a xs) (hn : ys.length = xs.length) (hz : xs.length ≤ 1000000)
    (hs : ∀ (i : Nat) (x : V) (y : PyData) (H' : Hp) (C : VK) (N : Hp → Prop), xs[i]? = some x → ys[i]? = some y → Same H H' → Mk (also M D) H' → (∀ v H2, Same H' H2 → Rp (also M D) H2 v y → C v H2) → g x (wipe σ vs) H' fun σ2 H2 => wipe σ2 vs = wipe σ vs ∧ tt σ2 H2 fun b H3 => if b = true then te σ2 H3 C else N H3)
    (hd : ∀ H', Same H H' → Ld M H' D ys → Qd H') :
    ∃ W : Nat → Nat → Hp → Prop, (∃ m, W 0 m (upd H D (.lst []))) ∧ ∀ i m H, W i m H →
      ((Itt K a).stop i H ∧ Qd H) ∨ ((Itt K a).go i H ∧ ∃ Nx : Hp → Prop, (∀ H', Nx H' → ∃ m', m' < m ∧ W (i + 1) m' H') ∧ ∀ x H', (Itt K a).yld i H x H' → g x (wipe σ vs) H' fun σ2 H2 => wipe σ2 vs = wipe σ vs ∧ tt σ2 H2 fun b H3 =>
        if b = true then te σ2 H3 fun y H4 => ∃ acc, H4 D = some (.lst acc) ∧ acc.length < sizeLine ∧ Nx (upd H4 D (.lst (acc ++ [y]))) else Nx H3) := by
  refine lc_tup (K := K) (a := a) (xs := xs) (fun i H' => Same H H' ∧ ∃ acc, H' D = some (.lst acc) ∧ RpAll (also M D) H' acc (ys.take i)) ⟨same_new hD, [], upd_same, by rw [List.take_zero]; exact .nil⟩ (fun i H' _ p => same_sqt p.1 hS) (fun i x H' hx p => ?_) (fun H' p => ?_)
  · obtain ⟨s, acc, e, r⟩ := p
    have hi : i < ys.length := by
      rw [hn]
      exact (List.getElem?_eq_some_iff.mp hx).1
    have hl := r.length
    rw [List.length_take] at hl
    refine hs i x ys[i] H' _ _ hx (List.getElem?_eq_getElem hi) s ((hM.gr (Gr.same s)).also (ne_none e)) fun v H2 s2 rv => ?_
    refine ⟨acc, s2 _ _ e, small1000000 (by omega), fun c o q => ?_, acc ++ [v], upd_same, ?_⟩
    · rw [upd_ne (ne_of_none q hD)]
      exact s2 _ _ (s c o q)
    · rw [List.take_add_one, List.getElem?_eq_getElem hi]
      exact ((r.sx (Sx.same s2)).append (.one rv)).sx (Sx.put (.inr rfl))
  · obtain ⟨s, acc, e, r⟩ := p
    rw [← hn, List.take_length] at r
    exact hd H' s ⟨hM.out hD, acc, e, r.less also_le⟩


/-- a list that is made beside stays away -/
theorem same_put {H H' : Hp} {p : Addr} {o : HO} (s : Same H H') (h : H p = none) : Same H (upd H' p o) := fun a u e => by
  rw [upd_ne (ne_of_none e h)]
  exact s a u e
end D

namespace D
open PySem PySem.Spec PyProof.Rows L2
/-! ### forms -/
inductive Fm where
  | is (n : Int) | get (x : Str) | sum (f g : Fm) | same (f g : Fm) | pick (f g h : Fm)
def sIs : Str := "is"
def sGet : Str := "get"
def sSum : Str := "sum"
def sSame : Str := "same"
def sPick : Str := "pick"
namespace Fm
def word : Fm → Str
  | .is _ => sIs | .get _ => sGet | .sum _ _ => sSum | .same _ _ => sSame | .pick _ _ _ => sPick
def enc : Fm → PyData
  | .is n => .tuple [.str sIs, .int n]
  | .get x => .tuple [.str sGet, .str x]
  | .sum f g => .tuple [.str sSum, f.enc, g.enc]
  | .same f g => .tuple [.str sSame, f.enc, g.enc]
  | .pick f g h => .tuple [.str sPick, f.enc, g.enc, h.enc]
def subs : Fm → List Fm
  | .is _ => [] | .get _ => [] | .sum f g => [f, g] | .same f g => [f, g] | .pick f g h => [f, g, h]
def dep : Fm → Nat
  | .is _ => 1 | .get _ => 1
  | .sum f g => max f.dep g.dep + 1 | .same f g => max f.dep g.dep + 1
  | .pick f g h => max f.dep (max g.dep h.dep) + 1
def size : Fm → Nat
  | .is _ => 1 | .get _ => 1
  | .sum f g => f.size + g.size + 1 | .same f g => f.size + g.size + 1
  | .pick f g h => f.size + g.size + h.size + 1
def val (ρ : Str → Int) : Fm → Int
  | .is n => n | .get x => ρ x
  | .sum f g => (f.val ρ + g.val ρ) % 10
  | .same f g => if f.val ρ = g.val ρ then 1 else 0
  | .pick f g h => if f.val ρ = 0 then h.val ρ else g.val ρ
def ok (nm : Str → Prop) : Fm → Prop
  | .is n => 0 ≤ n ∧ n ≤ 9 | .get x => nm x
  | .sum f g => f.ok nm ∧ g.ok nm | .same f g => f.ok nm ∧ g.ok nm
  | .pick f g h => f.ok nm ∧ g.ok nm ∧ h.ok nm
theorem dep_pos : ∀ f : Fm, 1 ≤ f.dep
  | .is _ => Nat.le_refl _ | .get _ => Nat.le_refl _
  | .sum f g => by show 1 ≤ max f.dep g.dep + 1; omega
  | .same f g => by show 1 ≤ max f.dep g.dep + 1; omega
  | .pick f g h => by show 1 ≤ max f.dep (max g.dep h.dep) + 1; omega
theorem val_range {ρ : Str → Int} {nm : Str → Prop} (h : ∀ x, nm x → 0 ≤ ρ x ∧ ρ x ≤ 9) : ∀ f : Fm, f.ok nm → 0 ≤ f.val ρ ∧ f.val ρ ≤ 9
  | .is n, o => o
  | .get x, o => h x o
  | .sum f g, o => by
    show 0 ≤ (f.val ρ + g.val ρ) % 10 ∧ (f.val ρ + g.val ρ) % 10 ≤ 9
    omega
  | .same f g, o => by
    show 0 ≤ (if f.val ρ = g.val ρ then (1 : Int) else 0) ∧ (if f.val ρ = g.val ρ then (1 : Int) else 0) ≤ 9
    split <;> decide
  | .pick f g k, o => by
    show 0 ≤ (if f.val ρ = 0 then k.val ρ else g.val ρ) ∧ (if f.val ρ = 0 then k.val ρ else g.val ρ) ≤ 9
    split
    · exact val_range h k o.2.2
    · exact val_range h g o.2.1
end Fm
section
variable {M : Ms} {H : Hp} {v : V}
theorem Rp.tupN {ds : List PyData} (h : Rp M H v (.tuple ds)) : ∃ a xs, v = .ref a ∧ ¬ M a ∧ Rd H a (.tup xs) ∧ RpAll M H xs ds := by
  cases h with
  | @tup a xs _ n s r => exact ⟨a, xs, rfl, n, s.rd, r⟩
theorem Rp.tupX {ds : List PyData} (h : Rp M H v (.tuple ds)) : ∃ a xs, v = .ref a ∧ ¬ M a ∧ H a = some (.tup xs) ∧ RpAll M H xs ds := by
  cases h with
  | @tup a xs _ n s r => exact ⟨a, xs, rfl, n, s.at, r⟩
theorem Rp.lstN {ds : List PyData} (h : Rp M H v (.list ds)) : ∃ a xs, v = .ref a ∧ ¬ M a ∧ Rd H a (.lst xs) ∧ RpAll M H xs ds := by
  cases h with
  | @lst a xs _ n s r => exact ⟨a, xs, rfl, n, s, r⟩
theorem Rp.int_inv {i : Int} (h : Rp M H v (.int i)) : v = .int i := by cases h; rfl
theorem Rp.str_inv {x : Str} (h : Rp M H v (.str x)) : v = .str x := by cases h; rfl
theorem RpAll.inv1 {xs : List V} {d1 : PyData} (h : RpAll M H xs [d1]) : ∃ v1, xs = [v1] ∧ Rp M H v1 d1 := by
  cases h with | cons h1 h2 => cases h2; exact ⟨_, rfl, h1⟩
theorem RpAll.inv2 {xs : List V} {d1 d2 : PyData} (h : RpAll M H xs [d1, d2]) : ∃ v1 v2, xs = [v1, v2] ∧ Rp M H v1 d1 ∧ Rp M H v2 d2 := by
  cases h with | cons h1 h2 => obtain ⟨v2, rfl, r2⟩ := h2.inv1; exact ⟨_, _, rfl, h1, r2⟩
theorem RpAll.inv3 {xs : List V} {d1 d2 d3 : PyData} (h : RpAll M H xs [d1, d2, d3]) : ∃ v1 v2 v3, xs = [v1, v2, v3] ∧ Rp M H v1 d1 ∧ Rp M H v2 d2 ∧ Rp M H v3 d3 := by
  cases h with | cons h1 h2 => obtain ⟨v2, v3, rfl, r2, r3⟩ := h2.inv2; exact ⟨_, _, _, rfl, h1, r2, r3⟩
theorem RpAll.inv4 {xs : List V} {d1 d2 d3 d4 : PyData} (h : RpAll M H xs [d1, d2, d3, d4]) : ∃ v1 v2 v3 v4, xs = [v1, v2, v3, v4] ∧ Rp M H v1 d1 ∧ Rp M H v2 d2 ∧ Rp M H v3 d3 ∧ Rp M H v4 d4 := by
  cases h with | cons h1 h2 => obtain ⟨v2, v3, v4, rfl, r2, r3, r4⟩ := h2.inv3; exact ⟨_, _, _, _, rfl, h1, r2, r3, r4⟩
/-- what stands of a form -/
inductive FmAt (M : Ms) (H : Hp) : Fm → List V → Prop
  | is (n : Int) : FmAt M H (.is n) [.str sIs, .int n]
  | get (x : Str) : FmAt M H (.get x) [.str sGet, .str x]
  | sum {f g : Fm} {u w : V} (a : Rp M H u f.enc) (b : Rp M H w g.enc) : FmAt M H (.sum f g) [.str sSum, u, w]
  | same {f g : Fm} {u w : V} (a : Rp M H u f.enc) (b : Rp M H w g.enc) : FmAt M H (.same f g) [.str sSame, u, w]
  | pick {f g h : Fm} {u w z : V} (a : Rp M H u f.enc) (b : Rp M H w g.enc) (c : Rp M H z h.enc) : FmAt M H (.pick f g h) [.str sPick, u, w, z]
theorem Rp.form {f : Fm} (h : Rp M H v f.enc) : ∃ a xs, v = .ref a ∧ ¬ M a ∧ Rd H a (.tup xs) ∧ FmAt M H f xs := by
  cases f with
  | is n =>
    obtain ⟨a, xs, rfl, n, s, r⟩ := Rp.tupN h
    obtain ⟨v1, v2, rfl, r1, r2⟩ := r.inv2
    cases r1; cases r2
    exact ⟨a, _, rfl, n, s, .is _⟩
  | get x =>
    obtain ⟨a, xs, rfl, n, s, r⟩ := Rp.tupN h
    obtain ⟨v1, v2, rfl, r1, r2⟩ := r.inv2
    cases r1; cases r2
    exact ⟨a, _, rfl, n, s, .get _⟩
  | sum f g =>
    obtain ⟨a, xs, rfl, n, s, r⟩ := Rp.tupN h
    obtain ⟨v1, v2, v3, rfl, r1, r2, r3⟩ := r.inv3
    cases r1
    exact ⟨a, _, rfl, n, s, .sum r2 r3⟩
  | same f g =>
    obtain ⟨a, xs, rfl, n, s, r⟩ := Rp.tupN h
    obtain ⟨v1, v2, v3, rfl, r1, r2, r3⟩ := r.inv3
    cases r1
    exact ⟨a, _, rfl, n, s, .same r2 r3⟩
  | pick f g k =>
    obtain ⟨a, xs, rfl, n, s, r⟩ := Rp.tupN h
    obtain ⟨v1, v2, v3, v4, rfl, r1, r2, r3, r4⟩ := r.inv4
    cases r1
    exact ⟨a, _, rfl, n, s, .pick r2 r3 r4⟩
theorem FmAt.rp {f : Fm} {xs : List V} {a : Addr} (h : FmAt M H f xs) (n : ¬ M a) (s : RdT H a xs) : Rp M H (.ref a) f.enc := by
  cases h with
  | is k => exact .tup n s (.cons (.str _) (.one (.int _)))
  | get x => exact .tup n s (.cons (.str _) (.one (.str _)))
  | sum a b => exact .tup n s (.cons (.str _) (.cons a (.one b)))
  | same a b => exact .tup n s (.cons (.str _) (.cons a (.one b)))
  | pick a b c => exact .tup n s (.cons (.str _) (.cons a (.cons b (.one c))))
end

/-! ### names -/
def isNm (x : Str) : Prop := 1 ≤ x.length ∧ x.length ≤ 8 ∧ ∀ c ∈ x.cps.toList, 97 ≤ c ∧ c ≤ 122
def addN (acc : List Str) (n : Str) : List Str := if n ∈ acc then acc else acc ++ [n]
def Fm.names : Fm → List Str
  | .is _ => [] | .get x => [x]
  | .sum f g => g.names.foldl addN (f.names.foldl addN [])
  | .same f g => g.names.foldl addN (f.names.foldl addN [])
  | .pick f g h => h.names.foldl addN (g.names.foldl addN (f.names.foldl addN []))
theorem addN_mem {acc : List Str} {n x : Str} (h : x ∈ addN acc n) : x ∈ acc ∨ x = n := by
  unfold addN at h
  split at h
  · exact .inl h
  · rcases List.mem_append.mp h with h | h
    · exact .inl h
    · exact .inr (List.mem_singleton.mp h)
theorem addsN_mem : ∀ (ns acc : List Str) (x : Str), x ∈ ns.foldl addN acc → x ∈ acc ∨ x ∈ ns
  | [], acc, x, h => .inl h
  | n :: r, acc, x, h => by
    rcases addsN_mem r (addN acc n) x h with h | h
    · rcases addN_mem h with h | h
      · exact .inl h
      · exact .inr (by rw [h]; exact List.mem_cons_self)
    · exact .inr (List.mem_cons_of_mem _ h)
theorem Fm.names_ok {nm : Str → Prop} : ∀ f : Fm, f.ok nm → ∀ x ∈ f.names, nm x
  | .is _, _, x, h => nomatch h
  | .get y, o, x, h => by rw [List.mem_singleton.mp h]; exact o
  | .sum f g, o, x, h => by
    rcases addsN_mem _ _ _ h with h | h
    · rcases addsN_mem _ _ _ h with h | h
      · exact nomatch h
      · exact f.names_ok o.1 x h
    · exact g.names_ok o.2 x h
  | .same f g, o, x, h => by
    rcases addsN_mem _ _ _ h with h | h
    · rcases addsN_mem _ _ _ h with h | h
      · exact nomatch h
      · exact f.names_ok o.1 x h
    · exact g.names_ok o.2 x h
  | .pick f g k, o, x, h => by
    rcases addsN_mem _ _ _ h with h | h
    · rcases addsN_mem _ _ _ h with h | h
      · rcases addsN_mem _ _ _ h with h | h
        · exact nomatch h
        · exact f.names_ok o.1 x h
      · exact g.names_ok o.2.1 x h
    · exact k.names_ok o.2.2 x h
theorem addN_len (acc : List Str) (n : Str) : (addN acc n).length ≤ acc.length + 1 := by
  unfold addN
  split
  · omega
  · rw [List.length_append]
    exact Nat.le_refl _
theorem addsN_len : ∀ (ns acc : List Str), (ns.foldl addN acc).length ≤ acc.length + ns.length
  | [], acc => Nat.le_refl _
  | n :: r, acc => by
    have h1 := addsN_len r (addN acc n)
    have h2 := addN_len acc n
    show (r.foldl addN (addN acc n)).length ≤ acc.length + (r.length + 1)
    omega
theorem Fm.names_len : ∀ f : Fm, f.names.length ≤ f.size
  | .is _ => Nat.zero_le _
  | .get _ => Nat.le_refl _
  | .sum f g => by
    have h1 := f.names_len; have h2 := g.names_len; have h3 := addsN_len f.names []; have h4 := addsN_len g.names (f.names.foldl addN [])
    show (g.names.foldl addN (f.names.foldl addN [])).length ≤ f.size + g.size + 1
    rw [List.length_nil] at h3
    omega
  | .same f g => by
    have h1 := f.names_len; have h2 := g.names_len; have h3 := addsN_len f.names []; have h4 := addsN_len g.names (f.names.foldl addN [])
    show (g.names.foldl addN (f.names.foldl addN [])).length ≤ f.size + g.size + 1
    rw [List.length_nil] at h3
    omega
  | .pick f g k => by
    have h1 := f.names_len; have h2 := g.names_len; have h3 := addsN_len f.names []; have h4 := addsN_len g.names (f.names.foldl addN [])
    have h5 := k.names_len; have h6 := addsN_len k.names (g.names.foldl addN (f.names.foldl addN []))
    show (k.names.foldl addN (g.names.foldl addN (f.names.foldl addN []))).length ≤ f.size + g.size + k.size + 1
    rw [List.length_nil] at h3
    omega
theorem Fm.size_le : ∀ (d : Nat) (f : Fm), f.dep ≤ d → f.size ≤ 4 ^ d
  | 0, f, h => absurd f.dep_pos (by omega)
  | d + 1, .is _, _ => Nat.pow_pos (by decide)
  | d + 1, .get _, _ => Nat.pow_pos (by decide)
  | d + 1, .sum f g, h => by
    have h0 : max f.dep g.dep + 1 ≤ d + 1 := h
    have h1 := Fm.size_le d f (by omega)
    have h2 := Fm.size_le d g (by omega)
    have h3 : 1 ≤ 4 ^ d := Nat.pow_pos (by decide)
    show f.size + g.size + 1 ≤ 4 ^ d * 4
    omega
  | d + 1, .same f g, h => by
    have h0 : max f.dep g.dep + 1 ≤ d + 1 := h
    have h1 := Fm.size_le d f (by omega)
    have h2 := Fm.size_le d g (by omega)
    have h3 : 1 ≤ 4 ^ d := Nat.pow_pos (by decide)
    show f.size + g.size + 1 ≤ 4 ^ d * 4
    omega
  | d + 1, .pick f g k, h => by
    have h0 : max f.dep (max g.dep k.dep) + 1 ≤ d + 1 := h
    have h1 := Fm.size_le d f (by omega)
    have h2 := Fm.size_le d g (by omega)
    have h4 := Fm.size_le d k (by omega)
    have h3 : 1 ≤ 4 ^ d := Nat.pow_pos (by decide)
    show f.size + g.size + k.size + 1 ≤ 4 ^ d * 4
    omega
theorem in_strs (n : Str) (acc : List Str) : inV (.str n) (acc.map V.str) = decide (n ∈ acc) := by
  unfold inV
  rw [List.any_map, Bool.eq_iff_iff, List.any_eq_true, decide_eq_true_iff]
  constructor
  · rintro ⟨x, hx, e⟩
    have e' : (x == n) = true := e
    rw [beq_iff_eq] at e'
    rw [← e']
    exact hx
  · intro h
    exact ⟨n, h, by show (n == n) = true; exact beq_self_eq_true n⟩
theorem flat_strs (acc : List Str) : (acc.map V.str).all flatV = true := by
  rw [List.all_map, List.all_eq_true]
  intro x _
  rfl
theorem RpAll.strs {M : Ms} {H : Hp} : ∀ (ns : List Str), RpAll M H (ns.map V.str) (ns.map PyData.str)
  | [] => .nil
  | n :: r => .cons (.str n) (RpAll.strs r)
theorem RpAll.ofStrs {M : Ms} {H : Hp} : ∀ {ns : List Str} {vs : List V}, RpAll M H vs (ns.map PyData.str) → vs = ns.map V.str
  | [], _, h => by cases h; rfl
  | n :: r, _, h => by
    cases h with
    | cons h1 h2 =>
      cases h1
      rw [RpAll.ofStrs h2]
      rfl

theorem sign_lo {c : Nat} (h : 97 ≤ c) : decide (({ cps := #[c] } : Str).cps.toList < (Str.ofString "a").cps.toList) = false := by
  rw [show (Str.ofString "a").cps.toList = [97] by decide +kernel, decide_eq_false_iff_not]
  show ¬ [c] < [97]
  rw [List.cons_lt_cons_iff]
  rintro (h1 | ⟨_, h1⟩)
  · omega
  · exact absurd h1 (by decide)
theorem sign_hi {c : Nat} (h : c ≤ 122) : decide ((Str.ofString "z").cps.toList < ({ cps := #[c] } : Str).cps.toList) = false := by
  rw [show (Str.ofString "z").cps.toList = [122] by decide +kernel, decide_eq_false_iff_not]
  show ¬ [122] < [c]
  rw [List.cons_lt_cons_iff]
  rintro (h1 | ⟨_, h1⟩)
  · omega
  · exact absurd h1 (by decide)

/-- a form with its level -/
def lvD (p : Fm × Nat) : PyData := .tuple [p.1.enc, .int (p.2 : Int)]
def szs (ps : List (Fm × Nat)) : Nat := (ps.map fun p => p.1.size).sum
theorem szs_app (ps qs : List (Fm × Nat)) : szs (ps ++ qs) = szs ps + szs qs := by
  unfold szs
  rw [List.map_append, List.sum_append_nat]
theorem szs_rev (ps : List (Fm × Nat)) : szs ps.reverse = szs ps := by
  unfold szs
  rw [List.map_reverse, List.sum_reverse]
theorem subs_size (f : Fm) (n : Nat) : szs (f.subs.map fun g => (g, n)) + 1 = f.size := by
  cases f <;> simp [szs, Fm.subs, Fm.size] <;> omega
theorem subs_ok {nm : Str → Prop} {f g : Fm} (h : f.ok nm) (hg : g ∈ f.subs) : g.ok nm := by
  cases f <;> simp [Fm.subs] at hg <;> simp [Fm.ok] at h
  all_goals (first | (rcases hg with rfl | rfl | rfl <;> simp_all) | (rcases hg with rfl | rfl <;> simp_all))
theorem subs_dep {f g : Fm} (hg : g ∈ f.subs) : g.dep + 1 ≤ f.dep := by
  cases f <;> simp [Fm.subs] at hg <;> simp [Fm.dep]
  all_goals (first | (rcases hg with rfl | rfl | rfl <;> omega) | (rcases hg with rfl | rfl <;> omega))
theorem subs_len (f : Fm) : f.subs.length ≤ 3 := by cases f <;> simp [Fm.subs]
theorem RpAll.reverse {M : Ms} {H : Hp} : ∀ {vs : List V} {ds : List PyData}, RpAll M H vs ds → RpAll M H vs.reverse ds.reverse
  | _, [], h => by cases h; exact .nil
  | _, d :: ds, h => by
    cases h with
    | cons h1 h2 =>
      rw [List.reverse_cons, List.reverse_cons]
      exact (RpAll.reverse h2).append (.one h1)
theorem RpAll.last {M : Ms} {H : Hp} {vs : List V} {ds : List PyData} {d : PyData} (h : RpAll M H vs (ds ++ [d])) : ∃ us v, vs = us ++ [v] ∧ RpAll M H us ds ∧ Rp M H v d := by
  have h1 := h.reverse
  rw [List.reverse_append] at h1
  generalize hv : vs.reverse = ws at h1
  cases h1 with
  | @cons v us _ _ a b =>
    have e : vs = us.reverse ++ [v] := by
      rw [← List.reverse_reverse vs, hv, List.reverse_cons]
    refine ⟨us.reverse, v, e, ?_, a⟩
    have b' : RpAll M H us ds.reverse := b
    have := b'.reverse
    rw [List.reverse_reverse] at this
    exact this

theorem Fm.size_pos : ∀ f : Fm, 1 ≤ f.size
  | .is _ => Nat.le_refl _ | .get _ => Nat.le_refl _
  | .sum f g => by show 1 ≤ f.size + g.size + 1; omega
  | .same f g => by show 1 ≤ f.size + g.size + 1; omega
  | .pick f g h => by show 1 ≤ f.size + g.size + h.size + 1; omega
theorem szs_len : ∀ ps : List (Fm × Nat), ps.length ≤ szs ps
  | [] => Nat.le_refl _
  | p :: r => by
    have h1 := szs_len r
    have h2 := p.1.size_pos
    show r.length + 1 ≤ ((p :: r).map fun p => p.1.size).sum
    rw [List.map_cons, List.sum_cons]
    unfold szs at h1
    omega

def stepN (acc : List Str) (s : Fm) : List Str := s.names.foldl addN acc
theorem names_fold (f : Fm) (h : ∀ x, f ≠ .get x) : f.names = f.subs.foldl stepN [] := by
  cases f with
  | get x => exact absurd rfl (h x)
  | _ => rfl
theorem fold_take {α β : Type} (g : β → α → β) (b : β) (l : List α) (i : Nat) (x : α) (h : l[i]? = some x) : (l.take (i + 1)).foldl g b = g ((l.take i).foldl g b) x := by
  rw [List.take_add_one, h, List.foldl_append]
  rfl
end D

namespace D
open PySem PySem.Spec PyProof.Rows L2
theorem sub_len {α : Type} [DecidableEq α] : ∀ (l2 l1 : List α), l1.Nodup → (∀ x ∈ l1, x ∈ l2) → l1.length ≤ l2.length ∧ (l1.length = l2.length → l2.Nodup)
  | [], l1, _, h => by
    cases l1 with
    | nil => exact ⟨Nat.le_refl _, fun _ => .nil⟩
    | cons x r => exact nomatch h x List.mem_cons_self
  | y :: r, l1, nd, h => by
    by_cases hy : y ∈ l1
    · have nd1 : (l1.erase y).Nodup := nd.erase y
      have h1 : ∀ x ∈ l1.erase y, x ∈ r := fun x hx => by
        have hx' := (nd.mem_erase_iff).mp hx
        rcases List.mem_cons.mp (h x hx'.2) with e | e
        · exact absurd e hx'.1
        · exact e
      obtain ⟨a, b⟩ := sub_len r (l1.erase y) nd1 h1
      have le := List.length_erase_of_mem hy
      have pos : 0 < l1.length := List.length_pos_of_mem hy
      refine ⟨by rw [List.length_cons]; omega, fun e => ?_⟩
      rw [List.length_cons] at e
      refine List.nodup_cons.mpr ⟨fun hr => ?_, b (by omega)⟩
      have h2 : ∀ x ∈ l1, x ∈ r := fun x hx => by
        rcases List.mem_cons.mp (h x hx) with e | e
        · rw [e]; exact hr
        · exact e
      have := (sub_len r l1 nd h2).1
      omega
    · have h2 : ∀ x ∈ l1, x ∈ r := fun x hx => by
        rcases List.mem_cons.mp (h x hx) with e | e
        · rw [e] at hx; exact absurd hx hy
        · exact e
      have := (sub_len r l1 nd h2).1
      refine ⟨by rw [List.length_cons]; omega, fun e => ?_⟩
      rw [List.length_cons] at e
      omega
section
variable {X : Cx}
def tLenSetT (K : PySem.W.Frag) (ta : TE) : TE := fun σ H Q => ta σ H fun x H1 => ∃ (l : Addr) (ns : List Int), x = V.ref l ∧ SqT K H1 l (ns.map V.int) ∧ ns.length ≤ 1000 ∧ ∀ c : Nat, (c = ns.length ↔ ns.Nodup) → Q (.int c) H1
theorem pe_lenSetT {K : PySem.W.Frag} {a : Expr} {ta : TE} {p p2 q pos : Pos} (hK : X.K = K) (hc : X.calm = true) (hg : Gl X "len") (hm : X.mg "len" = none) (hg2 : Gl X "set") (hm2 : X.mg "set" = none) (ha : PE X a ta)
    (na : starEach [a] X.env = (false, eval a X.env) :: starEach [] X.env := by rfl) : PE X (.Call (.Name "len" p) [.Call (.Name "set" p2) [a] [] q] [] pos) (tLenSetT K ta) := by
  subst hK
  refine ⟨fun pins s σ H Q I h => ?_⟩
  refine Call_ (ld_blt I hg hm PySem.boot_len ?_)
  refine PyProof.Rows.callWith_builtin1 (PyProof.Rows.args_cons ?_ rfl) rfl rfl
  refine Call_ (ld_blt I hg2 hm2 PyProof.Rows.boot_set ?_)
  refine PyProof.Rows.callWith_type1 (PyProof.Rows.args_cons (thn (ha.run pins s σ H _ I h) fun v s1 ⟨x, H1, I1, r1, q1⟩ => PyProof.Rows.args_nil ?_) na) na rfl
  obtain ⟨l, ns, rfl, hq, h1, q1⟩ := q1
  cases r1
  obtain ⟨its, rv, pt, hz⟩ := I1.tuple hq
  have hi : IntsAre its.toArray.toList ns := ints_of_vals rv
  refine call_set_tupI ns (I1.ok.hd hc) (show s1.heap.IsTuple l its.toArray from pt) hi (by unfold scanBound; omega) fun h' tk c R1 hcn k => ?_
  obtain ⟨o, es, ep, t, ho, hex, hdt, g, nd, hm2, hb, hf, hn, hr, hl2⟩ := R1
  refine PyProof.Rows.args_nil ?_
  have I2 : Inv X pins σ H1 { s1 with heap := h', toks := tk } := I1.kept k
  have hsub : ∀ x ∈ es.toList.map keyOf, x ∈ ns := fun x hx => of_decide_eq_true ((hm2 x).mpr hx)
  have hsup : ∀ x ∈ ns, x ∈ es.toList.map keyOf := fun x hx => (hm2 x).mp (decide_eq_true hx)
  have hlen : (es.toList.map keyOf).length = es.size := by rw [List.length_map, Array.length_toList]
  have hc2 : es.size = ns.length ↔ ns.Nodup := by
    obtain ⟨a1, a2⟩ := sub_len ns _ nd hsub
    refine ⟨fun e => a2 (by rw [hlen, e]), fun hnd => ?_⟩
    have b1 := (sub_len (es.toList.map keyOf) ns hnd hsup).1
    omega
  exact call_len_set ho hex hdt hf (by unfold scanBound at hb; omega) ⟨.int es.size, H1, I2.tok _, ⟨_, rfl⟩, q1 es.size hc2⟩
end
end D

namespace D
open PySem PySem.Spec PyProof.Rows L2
section
variable {X : Cx} {C g : Addr} {n : Nat} {CX : CXT} {sp : Sp} {E : XK} {fd : FuncData} {ps : List Str}
/-- x op y, two instances of one class with its own def for op -/
def rOwnI (C : Addr) (sp : Sp) (E : XK) : R2 := fun x y H Q => ∃ a dx fs b dy gs, x = .ref a ∧ y = .ref b ∧ H a = some (.ins C dx fs) ∧ H b = some (.ins C dy gs) ∧ sp [x, y] H Q E
theorem op_ownI {op : CmpOp} (hop : ∀ a b, compareOp op a b = richCompare op a b) (hs : PySem.W.findIn X.K (.ref C) (cmpInfo op).2.1 = some (some (.ref g))) (hf : PySem.W.isFn X.K (.ref g) = true) (hn : PySem.W.notFirst X.K C (.ref C) = true)
    (F : FnOk X.prog X.w X.K X.mg X.base CX n g fd ps sp) (hb : Binds X.K fd ps []) (hr : Room n X.A) (hx : Passes CX X E) : OpR X (compareOp op) (rOwnI C sp E) := by
  intro pins s σ H x y v u Q I rx ry h
  obtain ⟨a, dx, fs, b, dy, gs, rfl, rfl, ha, hb2, q⟩ := h
  cases (show v = Value.ref a from rx)
  cases (show u = Value.ref b from ry)
  obtain ⟨mA, O, _⟩ := ins_get I.hok ha
  obtain ⟨od, J, _⟩ := O.look
  obtain ⟨mA', O', _⟩ := ins_get I.hok hb2
  obtain ⟨od', J', _⟩ := O'.look
  obtain ⟨m, hF⟩ := I.fr
  rw [hop]
  refine PySem.W.cmp_K (op := op) (tb := .ref C) hr.units0 hF I.ok.mod.kin J J'.type hn hs hf ?_
  refine wpAny_mono (run_fn (us := [.ref a, .ref b]) (vs := [.ref a, .ref b]) F hr hb .nil hx I (.cons rfl (.cons rfl .nil)) q) (fun w s' z => ?_) fun _ _ x => x
  obtain ⟨z', H', I', rz, qz⟩ := z
  exact SlX.cmpback rz ⟨z', H', I', rz, qz⟩
/-- an instance is called -/
def tCallOI (C : Addr) (sp : Sp) (E : XK) (tf : TE) (t : TA) : TE := fun σ H Q => tf σ H fun y H1 => ∃ a dx fs, y = V.ref a ∧ t σ H1 fun vs H2 => H2 a = some (.ins C dx fs) ∧ sp (V.ref a :: vs) H2 Q E
theorem pe_callOI {fe e : Expr} {es : List Expr} {pos : Pos} {tf : TE} {t : TA} (c : StX.CallO X.K C g) (F : FnOk X.prog X.w X.K X.mg X.base CX n g fd ps sp) (hb : Binds X.K fd ps []) (hr : Room n X.A) (hx : Passes CX X E) (hf : PE X fe tf) (ha : PA X (e :: es) t)
    (ht : eval (.Call fe (e :: es) [] pos) X.env = (do callWith pos (← eval fe X.env) [] (backTo pos (starEach (e :: es) X.env)) (backToKw pos (keywordEach [] X.env))) := by rfl)
    (he : starEach (e :: es) X.env = (false, eval e X.env) :: starEach es X.env := by rfl) (hpl : (backTo pos (starEach es X.env)).any (·.1) = false := by rfl) : PE X (.Call fe (e :: es) [] pos) (tCallOI C sp E tf t) := by
  refine ⟨fun pins s σ H Q I h => ?_⟩
  refine Call_ (thn (hf.run pins s σ H _ I h) fun u s1 ⟨y, H1, I1, ry, a, dx, fs, ey, q⟩ => ?_) ht
  subst ey
  cases (show u = Value.ref a from ry)
  refine StX.callO_with (thn (ha.run pos pins s1 σ H1 _ I1 q) fun us s2 ⟨vs, H2, I2, r, hi, q2⟩ => ?_) he hpl
  obtain ⟨ox, od, J, hd⟩ := StX.insC_at I2 (.inr ⟨dx, fs, hi⟩)
  exact ⟨⟨C, ox, od, J, hd⟩, StX.run_callO c (F.raw hb .nil) hr hx I2 (.inr ⟨dx, fs, hi⟩) r (by rw [List.append_nil]; exact q2)⟩
/-- isinstance of an own class -/
def rIsC (C : Addr) : List V → Hp → VK → Prop := fun xs H Q => ∃ a dx fs, xs = [.ref a, .ref C] ∧ H a = some (.ins C dx fs) ∧ Q (.bl true) H
theorem call_isCK (c : C8.InsC X.K C) : CallR X (.builtin "isinstance") (rIsC C) := C8.call_isC c
end
end D

namespace PySem
theorem meets_enumerate_newT (l : Addr) (items : Array Value) :
    Meets (Builtin.«enumerate.__new__» ⟨[.type "enumerate", .ref l], []⟩) (fun _ R s => s.heap.IsTuple l items ∧
      R (.ok (.ret (.ref (s.heap.push { cls := .type "tuple_iterator", data := .fields #[.ref l, .int 0 0] }).objs.size)))
        { s with heap := (s.heap.push { cls := .type "tuple_iterator", data := .fields #[.ref l, .int 0 0] }).push { cls := .type "enumerate", data := .fields #[.none, .bool false, .ref s.heap.objs.size, rawInt 0, .none, .none] } }) :=
  .of_wp fun prog w A R s h => by
    obtain ⟨hp, g, d, tk, os⟩ := s; obtain ⟨hL, h⟩ := h
    have hsub := sub_enumerate
    wp_walk
    refine wpAny_stack_any fun st => wpAny_pure ?_
    split
    · rename_i c _ _ _ _ _
      cases (c == Value.type "enumerate")
      · wp_walk using wpAny_pyIter_tuple hL
        exact ⟨_, rfl, h⟩
      · wp_walk using wpAny_pyIter_tuple hL
        exact ⟨_, rfl, h⟩
    · wp_walk using wpAny_pyIter_tuple hL
      exact ⟨_, rfl, h⟩
section
variable {prog : Program} {w : World} {A : Around} {E : Value → Shared → Prop} {s : Shared}
theorem call_enumerate_tuple {l : Addr} {items : Array Value} {Q : Value → Shared → Prop} (hL : s.heap.IsTuple l items)
    (h : ∀ h', IsEnum h' (s.heap.objs.size + 1) s.heap.objs.size 0 .none → h'.IsTupleIter s.heap.objs.size l 0 → h'.objs.size = s.heap.objs.size + 2 →
      (∀ b o, s.heap.get? b = some o → h'.get? b = some o) → Q (.ref (s.heap.objs.size + 1)) { s with heap := h' }) :
    wpAny (model prog w) A (call (.type "enumerate") [.ref l]) Q E s := by
  refine callType_new F.called_enumerate (by decide) (F.typeCall_enumerate_1 _) (F.newCall_enumerate_1 _) (fun obj => F.args_object_init_2 obj _) F.entry_enumerate_new
    (meets_enumerate_newT l items) ⟨hL, ?_⟩
  have hz : (s.heap.push { cls := .type "tuple_iterator", data := .fields #[.ref l, .int 0 0] }).objs.size = s.heap.objs.size + 1 := Heap.size_push ..
  show _ ∧ _
  rw [hz]
  have he : IsEnum ((s.heap.push { cls := .type "tuple_iterator", data := .fields #[.ref l, .int 0 0] }).push
      { cls := .type "enumerate", data := .fields #[.none, .bool false, .ref s.heap.objs.size, rawInt 0, .none, .none] }) (s.heap.objs.size + 1) s.heap.objs.size 0 .none := by
    have := Heap.get?_push_size (s.heap.push { cls := .type "tuple_iterator", data := .fields #[.ref l, .int 0 0] })
      (o := { cls := .type "enumerate", data := .fields #[.none, .bool false, .ref s.heap.objs.size, rawInt 0, .none, .none] }) rfl
    rw [hz] at this; exact this
  refine ⟨⟨_, he, rfl⟩, h _ he ⟨_, Heap.get?_push_of_some _ (Heap.get?_push_size _ rfl), rfl, rfl⟩ (by rw [Heap.size_push, hz]) fun b o x => Heap.get?_push_of_some _ (Heap.get?_push_of_some _ x)⟩
end
end PySem
namespace D
open PySem PySem.Spec PyProof.Rows L2
/-- the tuple at a, each item in a new pair with its place -/
def Itet (K : PySem.W.Frag) (a : Addr) : It :=
  ⟨fun i H => ∃ (xs : List V) (x : V), SqT K H a xs ∧ xs[i]? = some x, fun i H v H' => ∃ T x, v = .ref T ∧ H T = none ∧ H' = upd H T (.tup [.int (i : Nat), x]) ∧ ∀ xs, SqT K H a xs → xs[i]? = some x, fun i H => ∃ xs : List V, SqT K H a xs ∧ xs.length = i⟩
theorem turn_enumT {P : Program} {w : World} {K : PySem.W.Frag} {elts : List Expr} {kk : Nat} {tpos : Pos} (a e it : Addr) :
    Turn P w K (.Tuple elts kk tpos) (Itet K a) [e, it] e (fun i h => (∃ old, IsEnum h e it ((i : Nat) : Int) old) ∧ h.IsTupleIter it a i ∧ e ≠ it) where
  mem := by simp
  obj := fun i h st b hb => by
    obtain ⟨⟨old, he⟩, ⟨o, ho, hc, hd⟩, _⟩ := st
    have e' : b = e ∨ b = it := by simpa using hb
    rcases e' with z | z
    · rw [z]; exact ⟨_, he, fun v q => nomatch q⟩
    · rw [z]; exact ⟨o, ho, fun v q => by rw [hd] at q; cases q⟩
  keep := fun i h h' st k => let ⟨⟨old, he⟩, hi, hne⟩ := st; ⟨⟨old, k e (by simp) _ he⟩, hi.at fun o q => k it (by simp) o q, hne⟩
  item := by
    intro X hP hw hK hc i pins s σ H E I hf st hg
    subst hP hw hK
    obtain ⟨⟨old, he⟩, hit, hne⟩ := st
    obtain ⟨xs, x, hq, hx⟩ := hg
    obtain ⟨its, rv, p, hz⟩ := I.tuple hq
    have p2 : s.heap.IsTuple a its.toArray := p
    obtain ⟨u, hu, ru⟩ := rv.get hx
    have hel : e < s.heap.objs.size := Heap.lt_size he
    have hil : it < s.heap.objs.size := by obtain ⟨_, q, _⟩ := hit; exact Heap.lt_size q
    have hai : a ≠ it := fun z => by
      obtain ⟨o1, q1, c1, _⟩ := hit
      obtain ⟨o2, q2, c2, _⟩ := p2
      rw [z, q1] at q2
      cases q2
      rw [c1] at c2
      exact absurd c2 (by decide)
    have hea : e ≠ a := fun z => by
      obtain ⟨o2, q2, c2, _⟩ := p2
      rw [← z, he] at q2
      cases q2
      exact absurd (show Value.type "enumerate" = Value.type "tuple" from c2) (by decide)
    have hlt : i < its.toArray.size := by
      have := (List.getElem?_eq_some_iff.mp hu).1
      simpa using this
    refine wpAny_pyNext_enum_itemD (Draws.tuple (A := X.A.in1) (I.ok.hd hc) it a hai its.toArray) he ⟨hit, p2⟩ hlt hne (fun z => by
      rcases List.mem_cons.mp z with z | z
      · exact hne z
      · exact hea (List.mem_singleton.mp z)) fun x' h' tk hP ho hst' hT hsz hk => ?_
    obtain rfl : x' = u := by
      have h1 : its.toArray[i]? = some x' := hP
      rw [List.getElem?_toArray, hu] at h1
      exact (Option.some.inj h1).symm
    refine ⟨_, rfl, wpAny_letOwnedTupleGo_enum (s := { s with heap := h', toks := tk + 1 }) ho fun h'' he' sb => ?_⟩
    have hT2 : h''.get? s.heap.objs.size = some { cls := .type "tuple", data := .seq #[.int i tk, x'] } := (sb.2 _ (Nat.ne_of_gt hel)).trans hT
    have new : ObjOk X.prog X.w (upd H s.heap.objs.size (.tup [.int (i : Nat), x])) h'' s.heap.objs.size (.tup [.int (i : Nat), x]) :=
      ⟨by show 2 ≤ sizeLine; decide, [.int i tk, x'], .cons ⟨_, rfl⟩ (.cons ru .nil), ⟨_, hT2, rfl, _, rfl⟩⟩
    have I1 : Inv X pins σ (upd H s.heap.objs.size (.tup [.int (i : Nat), x])) { s with heap := h'', toks := tk + 1 } :=
      I.turnedNew (ch := [e, it]) (fun b ob hb q => (sb.2 b (fun z => hb (by simp [z]))).trans (hk b ob (fun z => hb (by simp [z])) (fun z => hb (by simp [z])) q)) hf (Nat.le_refl _) new
    refine ⟨.ref s.heap.objs.size, _, I1, rfl, ⟨_, x, rfl, I.hok.fresh (Nat.le_refl _), rfl, fun ys hy => by rw [I.tuple_inj hy hq]; exact hx⟩, ⟨⟨x', ?_⟩, hst'.1.at fun o q => (sb.2 it (Ne.symm hne)).trans q, hne⟩, fun b hb => ?_⟩
    · have e1 : ((i + 1 : Nat) : Int) = (i : Int) + 1 := by omega
      rw [e1]; exact he'
    · have hb' : b < s.heap.objs.size := by
        have e' : b = e ∨ b = it := by simpa using hb
        rcases e' with z | z
        · rw [z]; exact hel
        · rw [z]; exact hil
      rw [upd_ne (Nat.ne_of_lt hb')]
      exact (hf b hb).1
  done := by
    intro X hP hw hK hc i pins s σ H E I hf st hg
    subst hP hw hK
    obtain ⟨⟨old, he⟩, hit, hne⟩ := st
    obtain ⟨xs, hq, hx⟩ := hg
    obtain ⟨its, rv, p, hz⟩ := I.tuple hq
    have p2 : s.heap.IsTuple a its.toArray := p
    obtain ⟨f0, f1, f2, f3, f4, f5⟩ := hf it (by simp)
    have hl := rv.length
    have hai : a ≠ it := fun z => by
      obtain ⟨o1, q1, c1, _⟩ := hit
      obtain ⟨o2, q2, c2, _⟩ := p2
      rw [z, q1] at q2
      cases q2
      rw [c1] at c2
      exact absurd c2 (by decide)
    have en : i = its.toArray.size := by
      rw [List.size_toArray]
      omega
    exact wpAny_pyNext_enum_endD (Draws.tuple (A := X.A.in1) (I.ok.hd hc) it a hai its.toArray) he (show _ ∧ _ from ⟨by rw [← en]; exact hit, p2⟩) fun h' eb => ⟨rfl, I.turned (t' := s.toks) (fun b o hb q => eb b o hb q) f0 f1 f3 f4 f5⟩
  self := fun A i s Q E st h => let ⟨⟨_, he⟩, _⟩ := st; wpAny_pyIter_enum he h
def iEnumT (K : PySem.W.Frag) (ta : TA) : TI := fun σ H R => ta σ H fun vs H1 => ∃ a xs, vs = [.ref a] ∧ SqT K H1 a xs ∧ R (Itet K a) H1
theorem pi_enumTK {K : PySem.W.Frag} {X : Cx} {e : Expr} {ta : TA} {p pos tpos : Pos} {elts : List Expr} {kk : Nat} (hK : X.K = K) (hg : Gl X "enumerate") (hm : X.mg "enumerate" = none) (ha : PA X [e] ta) (hs : starEach [e] X.env = [(false, eval e X.env)] := by rfl) :
    PI X (.Tuple elts kk tpos) (.Call (.Name "enumerate" p) [e] [] pos) (iEnumT K ta) := by
  subst hK
  refine ⟨fun pins s σ H R I h => ?_⟩
  refine Call_ (ld_blt I hg hm boot_enumerate (PyProof.Rows.callWith_type1 (thn (ha.run pos pins s σ H _ I h) fun us s1 ⟨vs, H1, I1, r1, q1⟩ => ?_) hs rfl))
  obtain ⟨a, xs, ex, hq, q⟩ := q1
  subst ex
  cases r1 with
  | cons r rr =>
    cases rr
    cases r
    obtain ⟨its, rv, p', hz⟩ := I1.tuple hq
    refine call_enumerate_tuple (show s1.heap.IsTuple a its.toArray from p') fun h' he hit hsz hk => wpAny_pyIter_enum he ?_
    have I2 : Inv X pins σ H1 { s1 with heap := h' } := I1.kept (t' := s1.toks) hk
    refine ⟨s1.heap.objs.size + 1, [s1.heap.objs.size + 1, s1.heap.objs.size], _, _, H1, rfl, I2, turn_enumT a (s1.heap.objs.size + 1) s1.heap.objs.size, ⟨⟨.none, he⟩, hit, Nat.succ_ne_self _⟩, fun b hb => ?_, q⟩
    have e' : b = s1.heap.objs.size + 1 ∨ b = s1.heap.objs.size := by simpa using hb
    have hle : s1.heap.objs.size ≤ b := by
      rcases e' with z | z
      · rw [z]; exact Nat.le_add_right _ _
      · rw [z]; exact Nat.le_refl _
    exact I1.fpOk hle (I1.hok.fresh hle)
theorem for_enumT {K : PySem.W.Frag} {a : Addr} {xs : List V} {g : TG} {tb : TS} {D : Ends} {σ : L2.St} {H : Hp} (Pv : Nat → L2.St → Hp → Prop) (h0 : Pv 0 σ H) (hl : ∀ i σ H, i ≤ xs.length → Pv i σ H → SqT K H a xs)
    (hs : ∀ i x T σ H, xs[i]? = some x → H T = none → Pv i σ H → g (.ref T) σ (upd H T (.tup [.int (i : Nat), x])) fun σ2 H2 => tb { D with nx := Pv (i + 1), ct := Pv (i + 1), bk := D.nx } σ2 H2) (hd : ∀ σ H, Pv xs.length σ H → D.nx σ H) :
    ∃ W : Nat → Nat → L2.St → Hp → Prop, (∃ m, W 0 m σ H) ∧ ∀ i m σ H, W i m σ H →
      ((Itet K a).stop i H ∧ D.nx σ H) ∨ ((Itet K a).go i H ∧ ∃ N : L2.St → Hp → Prop, (∀ σ' H', N σ' H' → ∃ m', m' < m ∧ W (i + 1) m' σ' H') ∧ ∀ x H', (Itet K a).yld i H x H' → g x σ H' fun σ2 H2 => tb { D with nx := N, ct := N, bk := D.nx } σ2 H2) := by
  refine ⟨fun i m σ H => m = xs.length - i ∧ i ≤ xs.length ∧ Pv i σ H, ⟨xs.length, by simp, Nat.zero_le _, h0⟩, ?_⟩
  rintro i m σ H ⟨rfl, hi, p⟩
  have q := hl i σ H hi p
  by_cases hlt : i < xs.length
  · refine .inr ⟨⟨xs, xs[i], q, by simp [hlt]⟩, Pv (i + 1), fun σ' H' p' => ⟨xs.length - (i + 1), by omega, rfl, hlt, p'⟩, fun x H' y => ?_⟩
    obtain ⟨T, z, rfl, hT, rfl, hz⟩ := y
    exact hs i z T σ _ (hz xs q) hT p
  · have e : i = xs.length := by omega
    subst e
    exact .inl ⟨⟨xs, q, rfl⟩, hd σ H p⟩
/-- comprehensions over enumerate -/
theorem lc_enum {K : PySem.W.Frag} {a : Addr} {xs : List V} {g : TG} {tt : TT} {te : TE} {vs : List Nat} {σ : L2.St} {H1 : Hp} {D : Addr} {Qd : Hp → Prop} (Pv : Nat → Hp → Prop) (h0 : Pv 0 (upd H1 D (.lst []))) (hl : ∀ i H, i ≤ xs.length → Pv i H → SqL K H a xs)
    (hs : ∀ i x T H, xs[i]? = some x → H T = none → Pv i H → g (.ref T) (wipe σ vs) (upd H T (.tup [.int (i : Nat), x])) fun σ2 H2 => wipe σ2 vs = wipe σ vs ∧ tt σ2 H2 fun b H3 =>
      if b = true then te σ2 H3 fun y H4 => ∃ acc, H4 D = some (.lst acc) ∧ acc.length < sizeLine ∧ Pv (i + 1) (upd H4 D (.lst (acc ++ [y]))) else Pv (i + 1) H3) (hd : ∀ H, Pv xs.length H → Qd H) :
    ∃ W : Nat → Nat → Hp → Prop, (∃ m, W 0 m (upd H1 D (.lst []))) ∧ ∀ i m H, W i m H →
      ((Ite K a).stop i H ∧ Qd H) ∨ ((Ite K a).go i H ∧ ∃ Nx : Hp → Prop, (∀ H', Nx H' → ∃ m', m' < m ∧ W (i + 1) m' H') ∧ ∀ x H', (Ite K a).yld i H x H' → g x (wipe σ vs) H' fun σ2 H2 => wipe σ2 vs = wipe σ vs ∧ tt σ2 H2 fun b H3 =>
        if b = true then te σ2 H3 fun y H4 => ∃ acc, H4 D = some (.lst acc) ∧ acc.length < sizeLine ∧ Nx (upd H4 D (.lst (acc ++ [y]))) else Nx H3) := by
  refine ⟨fun i m H => m = xs.length - i ∧ i ≤ xs.length ∧ Pv i H, ⟨xs.length, by simp, Nat.zero_le _, h0⟩, ?_⟩
  rintro i m H ⟨rfl, hi, p⟩
  have q := hl i H hi p
  by_cases hlt : i < xs.length
  · refine .inr ⟨⟨xs, xs[i], q, by simp [hlt]⟩, Pv (i + 1), fun H' p' => ⟨xs.length - (i + 1), by omega, rfl, hlt, p'⟩, fun x H' y => ?_⟩
    obtain ⟨T, z, rfl, hT, rfl, hz⟩ := y
    exact hs i z T _ (hz xs q) hT p
  · have e : i = xs.length := by omega
    subst e
    exact .inl ⟨⟨xs, q, Nat.le_refl _⟩, hd H p⟩
theorem lc_enumT {K : PySem.W.Frag} {a : Addr} {xs : List V} {g : TG} {tt : TT} {te : TE} {vs : List Nat} {σ : L2.St} {H1 : Hp} {D : Addr} {Qd : Hp → Prop} (Pv : Nat → Hp → Prop) (h0 : Pv 0 (upd H1 D (.lst []))) (hl : ∀ i H, i ≤ xs.length → Pv i H → SqT K H a xs)
    (hs : ∀ i x T H, xs[i]? = some x → H T = none → Pv i H → g (.ref T) (wipe σ vs) (upd H T (.tup [.int (i : Nat), x])) fun σ2 H2 => wipe σ2 vs = wipe σ vs ∧ tt σ2 H2 fun b H3 =>
      if b = true then te σ2 H3 fun y H4 => ∃ acc, H4 D = some (.lst acc) ∧ acc.length < sizeLine ∧ Pv (i + 1) (upd H4 D (.lst (acc ++ [y]))) else Pv (i + 1) H3) (hd : ∀ H, Pv xs.length H → Qd H) :
    ∃ W : Nat → Nat → Hp → Prop, (∃ m, W 0 m (upd H1 D (.lst []))) ∧ ∀ i m H, W i m H →
      ((Itet K a).stop i H ∧ Qd H) ∨ ((Itet K a).go i H ∧ ∃ Nx : Hp → Prop, (∀ H', Nx H' → ∃ m', m' < m ∧ W (i + 1) m' H') ∧ ∀ x H', (Itet K a).yld i H x H' → g x (wipe σ vs) H' fun σ2 H2 => wipe σ2 vs = wipe σ vs ∧ tt σ2 H2 fun b H3 =>
        if b = true then te σ2 H3 fun y H4 => ∃ acc, H4 D = some (.lst acc) ∧ acc.length < sizeLine ∧ Nx (upd H4 D (.lst (acc ++ [y]))) else Nx H3) := by
  refine ⟨fun i m H => m = xs.length - i ∧ i ≤ xs.length ∧ Pv i H, ⟨xs.length, by simp, Nat.zero_le _, h0⟩, ?_⟩
  rintro i m H ⟨rfl, hi, p⟩
  have q := hl i H hi p
  by_cases hlt : i < xs.length
  · refine .inr ⟨⟨xs, xs[i], q, by simp [hlt]⟩, Pv (i + 1), fun H' p' => ⟨xs.length - (i + 1), by omega, rfl, hlt, p'⟩, fun x H' y => ?_⟩
    obtain ⟨T, z, rfl, hT, rfl, hz⟩ := y
    exact hs i z T _ (hz xs q) hT p
  · have e : i = xs.length := by omega
    subst e
    exact .inl ⟨⟨xs, q, rfl⟩, hd H p⟩
/-- the same where each element is a value that is known: new things may be made on the way -/
theorem lc_enumV {K : PySem.W.Frag} {a : Addr} {xs ys : List V} {g : TG} {tt : TT} {te : TE} {vs : List Nat} {σ : L2.St} {H : Hp} {D : Addr} {Qd : Hp → Prop} (hD : H D = none) (hS : SqL K H a xs) (hn : ys.length = xs.length) (hz : xs.length ≤ 1000000)
    (hs : ∀ (i : Nat) (x y : V) (T : Addr) (H' : Hp) (C : VK) (N : Hp → Prop), xs[i]? = some x → ys[i]? = some y → H' T = none → Same H H' → H' D ≠ none → (∀ H2, Same (upd H' T (.tup [.int (i : Nat), x])) H2 → C y H2) → g (.ref T) (wipe σ vs) (upd H' T (.tup [.int (i : Nat), x])) fun σ2 H2 => wipe σ2 vs = wipe σ vs ∧ tt σ2 H2 fun b H3 => if b = true then te σ2 H3 C else N H3)
    (hd : ∀ H', Same H H' → H' D = some (.lst ys) → Qd H') :
    ∃ W : Nat → Nat → Hp → Prop, (∃ m, W 0 m (upd H D (.lst []))) ∧ ∀ i m H, W i m H →
      ((Ite K a).stop i H ∧ Qd H) ∨ ((Ite K a).go i H ∧ ∃ Nx : Hp → Prop, (∀ H', Nx H' → ∃ m', m' < m ∧ W (i + 1) m' H') ∧ ∀ x H', (Ite K a).yld i H x H' → g x (wipe σ vs) H' fun σ2 H2 => wipe σ2 vs = wipe σ vs ∧ tt σ2 H2 fun b H3 =>
        if b = true then te σ2 H3 fun y H4 => ∃ acc, H4 D = some (.lst acc) ∧ acc.length < sizeLine ∧ Nx (upd H4 D (.lst (acc ++ [y]))) else Nx H3) := by
  refine lc_enum (K := K) (a := a) (xs := xs) (fun i H' => Same H H' ∧ H' D = some (.lst (ys.take i))) ⟨same_new hD, by rw [upd_same]; rfl⟩ (fun i H' _ p => p.1.seq hS) (fun i x T H' hx hT p => ?_) (fun H' p => ?_)
  · have hi : i < ys.length := by
      rw [hn]
      exact (List.getElem?_eq_some_iff.mp hx).1
    refine hs i x ys[i] T H' _ _ hx (List.getElem?_eq_getElem hi) hT p.1 (ne_none p.2) fun H2 s2 => ⟨_, s2 _ _ (same_new hT _ _ p.2), ?_, ?_, ?_⟩
    · rw [List.length_take]
      exact small1000000 (by omega)
    · exact same_put (p.1.trans ((same_new hT).trans s2)) hD
    · rw [upd_same, List.take_add_one, List.getElem?_eq_getElem hi]
      rfl
  · refine hd H' p.1 ?_
    have e := p.2
    rw [← hn, List.take_length] at e
    exact e
theorem lc_enumTV {K : PySem.W.Frag} {a : Addr} {xs ys : List V} {g : TG} {tt : TT} {te : TE} {vs : List Nat} {σ : L2.St} {H : Hp} {D : Addr} {Qd : Hp → Prop} (hD : H D = none) (hS : SqT K H a xs) (hn : ys.length = xs.length) (hz : xs.length ≤ 1000000)
    (hs : ∀ (i : Nat) (x y : V) (T : Addr) (H' : Hp) (C : VK) (N : Hp → Prop), xs[i]? = some x → ys[i]? = some y → H' T = none → Same H H' → H' D ≠ none → (∀ H2, Same (upd H' T (.tup [.int (i : Nat), x])) H2 → C y H2) → g (.ref T) (wipe σ vs) (upd H' T (.tup [.int (i : Nat), x])) fun σ2 H2 => wipe σ2 vs = wipe σ vs ∧ tt σ2 H2 fun b H3 => if b = true then te σ2 H3 C else N H3)
    (hd : ∀ H', Same H H' → H' D = some (.lst ys) → Qd H') :
    ∃ W : Nat → Nat → Hp → Prop, (∃ m, W 0 m (upd H D (.lst []))) ∧ ∀ i m H, W i m H →
      ((Itet K a).stop i H ∧ Qd H) ∨ ((Itet K a).go i H ∧ ∃ Nx : Hp → Prop, (∀ H', Nx H' → ∃ m', m' < m ∧ W (i + 1) m' H') ∧ ∀ x H', (Itet K a).yld i H x H' → g x (wipe σ vs) H' fun σ2 H2 => wipe σ2 vs = wipe σ vs ∧ tt σ2 H2 fun b H3 =>
        if b = true then te σ2 H3 fun y H4 => ∃ acc, H4 D = some (.lst acc) ∧ acc.length < sizeLine ∧ Nx (upd H4 D (.lst (acc ++ [y]))) else Nx H3) := by
  refine lc_enumT (K := K) (a := a) (xs := xs) (fun i H' => Same H H' ∧ H' D = some (.lst (ys.take i))) ⟨same_new hD, by rw [upd_same]; rfl⟩ (fun i H' _ p => same_sqt p.1 hS) (fun i x T H' hx hT p => ?_) (fun H' p => ?_)
  · have hi : i < ys.length := by
      rw [hn]
      exact (List.getElem?_eq_some_iff.mp hx).1
    refine hs i x ys[i] T H' _ _ hx (List.getElem?_eq_getElem hi) hT p.1 (ne_none p.2) fun H2 s2 => ⟨_, s2 _ _ (same_new hT _ _ p.2), ?_, ?_, ?_⟩
    · rw [List.length_take]
      exact small1000000 (by omega)
    · exact same_put (p.1.trans ((same_new hT).trans s2)) hD
    · rw [upd_same, List.take_add_one, List.getElem?_eq_getElem hi]
      rfl
  · refine hd H' p.1 ?_
    have e := p.2
    rw [← hn, List.take_length] at e
    exact e
/-- elements are data that are made on the way -/
theorem lc_enumD {K : PySem.W.Frag} {a : Addr} {xs : List V} {ys : List PyData} {g : TG} {tt : TT} {te : TE} {vs : List Nat} {σ : L2.St} {H : Hp} {D : Addr} {Qd : Hp → Prop} (M : Ms) (hM : Mk M H) (hD : H D = none) (hS : SqL K H a xs) (hn : ys.length = xs.length) (hz : xs.length ≤ 1000000)
    (hs : ∀ (i : Nat) (x : V) (y : PyData) (T : Addr) (H' : Hp) (C : VK) (N : Hp → Prop), xs[i]? = some x → ys[i]? = some y → H' T = none → Same H H' → Mk (also M D) (upd H' T (.tup [.int (i : Nat), x])) → (∀ v H2, Same (upd H' T (.tup [.int (i : Nat), x])) H2 → Rp (also M D) H2 v y → C v H2) → g (.ref T) (wipe σ vs) (upd H' T (.tup [.int (i : Nat), x])) fun σ2 H2 => wipe σ2 vs = wipe σ vs ∧ tt σ2 H2 fun b H3 => if b = true then te σ2 H3 C else N H3)
    (hd : ∀ H', Same H H' → Ld M H' D ys → Qd H') :
    ∃ W : Nat → Nat → Hp → Prop, (∃ m, W 0 m (upd H D (.lst []))) ∧ ∀ i m H, W i m H →
      ((Ite K a).stop i H ∧ Qd H) ∨ ((Ite K a).go i H ∧ ∃ Nx : Hp → Prop, (∀ H', Nx H' → ∃ m', m' < m ∧ W (i + 1) m' H') ∧ ∀ x H', (Ite K a).yld i H x H' → g x (wipe σ vs) H' fun σ2 H2 => wipe σ2 vs = wipe σ vs ∧ tt σ2 H2 fun b H3 =>
        if b = true then te σ2 H3 fun y H4 => ∃ acc, H4 D = some (.lst acc) ∧ acc.length < sizeLine ∧ Nx (upd H4 D (.lst (acc ++ [y]))) else Nx H3) := by
  refine lc_enum (K := K) (a := a) (xs := xs) (fun i H' => Same H H' ∧ ∃ acc, H' D = some (.lst acc) ∧ RpAll (also M D) H' acc (ys.take i)) ⟨same_new hD, [], upd_same, by rw [List.take_zero]; exact .nil⟩ (fun i H' _ p => p.1.seq hS) (fun i x T H' hx hT p => ?_) (fun H' p => ?_)
  · obtain ⟨s, acc, e, r⟩ := p
    have hi : i < ys.length := by
      rw [hn]
      exact (List.getElem?_eq_some_iff.mp hx).1
    have hl := r.length
    rw [List.length_take] at hl
    have s1 : Same H' (upd H' T (.tup [.int (i : Nat), x])) := same_new hT
    refine hs i x ys[i] T H' _ _ hx (List.getElem?_eq_getElem hi) hT s (((hM.gr (Gr.same s)).also (ne_none e)).gr (Gr.same s1)) fun v H2 s2 rv => ?_
    refine ⟨acc, s2 _ _ (s1 _ _ e), small1000000 (by omega), ?_, acc ++ [v], upd_same, ?_⟩
    · exact same_put (s.trans (s1.trans s2)) hD
    · rw [List.take_add_one, List.getElem?_eq_getElem hi]
      exact ((r.sx (Sx.same (s1.trans s2))).append (.one rv)).sx (Sx.put (.inr rfl))
  · obtain ⟨s, acc, e, r⟩ := p
    rw [← hn, List.take_length] at r
    exact hd H' s ⟨hM.out hD, acc, e, r.less also_le⟩
end D
namespace D
open PySem PySem.Spec PyProof.Rows L2
theorem mt_lcountK {K : PySem.W.Frag} {X : Cx} (hK : X.K = K) : MtR X "list.count" (rCntI K) := by subst hK; exact mt_lcount
end D
namespace D
open PySem PySem.Spec PyProof.Rows L2
section
variable {X : Cx} {K : PySem.W.Frag} {o e : Expr} {es : List Expr} {to : TE} {t : TA} {name : Str} {apos cpos : Pos} {T id : String} {r : V → List V → Hp → VK → Prop}
theorem pe_bm0K2 (hK : X.K = K) (pa : PlainAttrs T) (slot : Slot T name id) (hty : typeOf (.builtin id) = pure (.type "method_descriptor")) (hm : MtR X id r) (ho : PE X o to)
    (hbase : attributeBase o name X.env (eval o X.env) = eval o X.env := by rfl) (hline : (apos.endLine == cpos.line) = true := by rfl) : PE X (.Call (.Attribute o name apos) [] [] cpos) (tBM0 K T r to) := by
  subst hK
  exact pe_bm0 pa slot hty hm ho hbase hline
theorem pe_bmK2 (hK : X.K = K) (pa : PlainAttrs T) (slot : Slot T name id) (hty : typeOf (.builtin id) = pure (.type "method_descriptor")) (hm : MtR X id r) (ho : PE X o to) (ha : PA X (e :: es) t)
    (hbase : attributeBase o name X.env (eval o X.env) = eval o X.env := by rfl)
    (hfew : ((backTo cpos (starEach (e :: es) X.env)).all (fun x => !x.1) && (backToKw cpos (keywordEach [] X.env)).all (fun x => x.1.isSome)
      && decide ((e :: es).length + ([] : List Keyword).length + (if ([] : List Keyword).isEmpty then 0 else 1) < 30)) = true := by rfl)
    (hline : (apos.endLine == cpos.line) = true := by rfl) (hs : starEach (e :: es) X.env = (false, eval e X.env) :: starEach es X.env := by rfl) (hplain : (backTo cpos (starEach es X.env)).any (·.1) = false := by rfl) :
    PE X (.Call (.Attribute o name apos) (e :: es) [] cpos) (tBM K T r to t) := by
  subst hK
  exact pe_bm pa slot hty hm ho ha hbase hfew hline hs hplain
end
end D

namespace D
open PySem PySem.Spec PyProof.Rows L2
/-- comprehensions' loops, whatever their bodies -/
theorem rng_loop {n : Nat} {lo : Int} {Qd : Hp → Prop} {H0 : Hp} {B : V → Hp → (Hp → Prop) → Prop} (Pv : Nat → Hp → Prop) (h0 : Pv 0 H0) (hs : ∀ i H, i < n → Pv i H → B (.int (lo + (i : Nat))) H (Pv (i + 1))) (hd : ∀ H, Pv n H → Qd H) :
    ∃ W : Nat → Nat → Hp → Prop, (∃ m, W 0 m H0) ∧ ∀ i m H, W i m H → ((Itr lo n).stop i H ∧ Qd H) ∨ ((Itr lo n).go i H ∧ ∃ Nx : Hp → Prop, (∀ H', Nx H' → ∃ m', m' < m ∧ W (i + 1) m' H') ∧ ∀ x H', (Itr lo n).yld i H x H' → B x H' Nx) := by
  refine ⟨fun i m H => m = n - i ∧ i ≤ n ∧ Pv i H, ⟨_, rfl, Nat.zero_le _, h0⟩, ?_⟩
  rintro i m H ⟨rfl, hi, p⟩
  by_cases hlt : i < n
  · refine .inr ⟨hlt, Pv (i + 1), fun H' p' => ⟨n - (i + 1), by omega, rfl, hlt, p'⟩, fun x H' y => ?_⟩
    obtain ⟨rfl, rfl⟩ := y
    exact hs i _ hlt p
  · have e : i = n := by omega
    subst e
    exact .inl ⟨Nat.le_refl _, hd H p⟩
theorem list_loop {K : PySem.W.Frag} {a : Addr} {xs : List V} {Qd : Hp → Prop} {H0 : Hp} {B : V → Hp → (Hp → Prop) → Prop} (Pv : Nat → Hp → Prop) (h0 : Pv 0 H0) (hl : ∀ i H, i ≤ xs.length → Pv i H → SqL K H a xs) (hs : ∀ i x H, xs[i]? = some x → Pv i H → B x H (Pv (i + 1))) (hd : ∀ H, Pv xs.length H → Qd H) :
    ∃ W : Nat → Nat → Hp → Prop, (∃ m, W 0 m H0) ∧ ∀ i m H, W i m H → ((Itl K a).stop i H ∧ Qd H) ∨ ((Itl K a).go i H ∧ ∃ Nx : Hp → Prop, (∀ H', Nx H' → ∃ m', m' < m ∧ W (i + 1) m' H') ∧ ∀ x H', (Itl K a).yld i H x H' → B x H' Nx) := by
  refine ⟨fun i m H => m = xs.length - i ∧ i ≤ xs.length ∧ Pv i H, ⟨_, rfl, Nat.zero_le _, h0⟩, ?_⟩
  rintro i m H ⟨rfl, hi, p⟩
  have q := hl i H hi p
  by_cases hlt : i < xs.length
  · refine .inr ⟨⟨xs, xs[i], q, by simp [hlt]⟩, Pv (i + 1), fun H' p' => ⟨xs.length - (i + 1), by omega, rfl, hlt, p'⟩, fun x H' y => ?_⟩
    obtain ⟨e, y⟩ := y
    subst e
    exact hs i x _ (y xs q) p
  · have e : i = xs.length := by omega
    subst e
    exact .inl ⟨⟨xs, q, Nat.le_refl _⟩, hd H p⟩
theorem tup_loop {K : PySem.W.Frag} {a : Addr} {xs : List V} {Qd : Hp → Prop} {H0 : Hp} {B : V → Hp → (Hp → Prop) → Prop} (Pv : Nat → Hp → Prop) (h0 : Pv 0 H0) (hl : ∀ i H, i ≤ xs.length → Pv i H → SqT K H a xs) (hs : ∀ i x H, xs[i]? = some x → Pv i H → B x H (Pv (i + 1))) (hd : ∀ H, Pv xs.length H → Qd H) :
    ∃ W : Nat → Nat → Hp → Prop, (∃ m, W 0 m H0) ∧ ∀ i m H, W i m H → ((Itt K a).stop i H ∧ Qd H) ∨ ((Itt K a).go i H ∧ ∃ Nx : Hp → Prop, (∀ H', Nx H' → ∃ m', m' < m ∧ W (i + 1) m' H') ∧ ∀ x H', (Itt K a).yld i H x H' → B x H' Nx) := by
  refine ⟨fun i m H => m = xs.length - i ∧ i ≤ xs.length ∧ Pv i H, ⟨_, rfl, Nat.zero_le _, h0⟩, ?_⟩
  rintro i m H ⟨rfl, hi, p⟩
  have q := hl i H hi p
  by_cases hlt : i < xs.length
  · refine .inr ⟨⟨xs, xs[i], q, by simp [hlt]⟩, Pv (i + 1), fun H' p' => ⟨xs.length - (i + 1), by omega, rfl, hlt, p'⟩, fun x H' y => ?_⟩
    obtain ⟨e, y⟩ := y
    subst e
    exact hs i x _ (y xs q) p
  · have e : i = xs.length := by omega
    subst e
    exact .inl ⟨⟨xs, q, Nat.le_refl _⟩, hd H p⟩
/-- a dict made of pairs of whole numbers -/
def toldK (ps : List (Int × Int)) : List (Key × V) := ps.foldl (fun k p => putK k (.inl p.2) (.int p.1)) []
theorem putK_le (c : List (Key × V)) (k : Key) (x : V) : (putK c k x).length ≤ c.length + 1 := by
  unfold putK
  split
  · rw [List.length_map]; omega
  · rw [List.length_append]; exact Nat.le_refl _
theorem toldK_snoc (ps : List (Int × Int)) (p : Int × Int) : toldK (ps ++ [p]) = putK (toldK ps) (.inl p.2) (.int p.1) := by
  unfold toldK
  rw [List.foldl_append]
  rfl
theorem told_all (ps : List (Int × Int)) : ∀ qs : List (Int × Int), (∀ p ∈ qs, p ∈ ps) → ∀ s w, valV (toldK qs) (.inl s) = some w → ∃ v, w = .int v ∧ (v, s) ∈ ps := by
  suffices h : ∀ (qs : List (Int × Int)) (c : List (Key × V)), (∀ p ∈ qs, p ∈ ps) → (∀ s w, valV c (.inl s) = some w → ∃ v, w = .int v ∧ (v, s) ∈ ps) → ∀ s w, valV (qs.foldl (fun k p => putK k (.inl p.2) (.int p.1)) c) (.inl s) = some w → ∃ v, w = .int v ∧ (v, s) ∈ ps from fun qs hq => h qs [] hq (fun s w e => nomatch e)
  intro qs
  induction qs with
  | nil => intro c _ hc; exact hc
  | cons q r ih =>
    intro c hq hc
    refine ih _ (fun p hp => hq p (List.mem_cons_of_mem _ hp)) (fun s w e => ?_)
    rw [valV_put] at e
    split at e
    · rename_i e2
      cases e2
      cases e
      exact ⟨_, rfl, hq q List.mem_cons_self⟩
    · exact hc s w e
theorem told_mem : ∀ (qs : List (Int × Int)) (p : Int × Int), p ∈ qs → ∃ w, valV (toldK qs) (.inl p.2) = some w := by
  suffices h : ∀ (qs : List (Int × Int)) (c : List (Key × V)) (s : Int), ((∃ p ∈ qs, p.2 = s) ∨ ∃ w, valV c (.inl s) = some w) → ∃ w, valV (qs.foldl (fun k p => putK k (.inl p.2) (.int p.1)) c) (.inl s) = some w from fun qs p hp => h qs [] p.2 (.inl ⟨p, hp, rfl⟩)
  intro qs
  induction qs with
  | nil =>
    intro c s h
    rcases h with ⟨_, h, _⟩ | h
    · exact nomatch h
    · exact h
  | cons q r ih =>
    intro c s h
    refine ih _ s ?_
    rcases h with ⟨p, hp, e⟩ | ⟨w, e⟩
    · rcases List.mem_cons.mp hp with rfl | hp
      · exact .inr ⟨_, by rw [valV_put, if_pos (by rw [e])]⟩
      · exact .inl ⟨p, hp, e⟩
    · right
      rw [valV_put]
      split
      · exact ⟨_, rfl⟩
      · exact ⟨w, e⟩
/-- what such a dict tells of a pair -/
theorem told_get {ps : List (Int × Int)} {p : Int × Int} (h : p ∈ ps) : ∃ v, valV (toldK ps) (.inl p.2) = some (.int v) ∧ (v, p.2) ∈ ps := by
  obtain ⟨w, e⟩ := told_mem ps p h
  obtain ⟨v, rfl, hv⟩ := told_all ps ps (fun _ h => h) _ _ e
  exact ⟨v, e, hv⟩
end D

namespace D
open PySem PySem.Spec PyProof.Rows L2
/-! ### dict comprehensions whose keys are tuples (after the layer's own for ints and texts) -/
theorem d_dictSetT {X : Cx} {pins : List (Addr × Obj)} {σ : L2.St} {H : Hp} {s : Shared} {E : Value → Shared → Prop} {D : Addr} {kvs : List (List Key × V)} {k : List Key} {b : Addr} {v : V} {u r : Value} {Q : Unit → Shared → Prop} (hu : X.A.units + 1 < cLine) (I : Inv X pins σ H s) (hD : H D = some (.dT kvs)) (hz : kvs.length < sizeLine)
    (eb : H b = some (.tup (k.map kV))) (ry : RelV (.ref b) u) (rv : RelV v r) (h : ∀ s', Inv X pins σ (upd H D (.dT (putK kvs k v))) s' → Q () s') : wpAny (model X.prog X.w) X.A (dictSet D u r) Q E s := by
  cases (show u = Value.ref b from ry)
  obtain ⟨z, hd, xs, rel, dd⟩ := dt_of I.hok hD
  have hz' : xs.length ≤ sizeLine := by rw [← Paired.length rel]; exact z
  have hl : (putK kvs k v).length ≤ sizeLine := by have := length_putK kvs k v; omega
  refine wpAny_dictSet_heap (hsz := hz') (show (tupleKind (mixKind X.prog X.w)).room X.A from Nat.lt_of_succ_lt hu) (key_of I.hok eb) dd fun h' dd' hs => h _ ?_
  obtain ⟨q, es, ep, hq, h2, h3, h4, _, h5⟩ := dd'
  refine d_write I (by rw [hD]; exact True.intro) hs ⟨q, hq⟩ ⟨hl, hd, _, (rel.put k eb rv).keeps fun c ys ec => ?_, q, es, ep, hq, h2, h3, h4, h5⟩
  rw [upd_ne (ne_of ec hD (fun z => nomatch z))]
  exact ec
theorem key_rd {P : Program} {w : World} {H : Hp} {h : Heap} {a : Addr} {ks : List Key} (ok : HOk P w H h) (e : Rd H a (.tup (ks.map kV))) : (tupleKind (mixKind P w)).is h ks a := by
  obtain ⟨_, its, r, o, h1, h2, n, h3⟩ := (show ObjOk P w H h a (.tup (ks.map kV)) from rd_of ok e)
  exact ⟨o, its.toArray, n, h1, h2, h3, by simpa using items_are r⟩
section
variable {X : Cx}
/-- something holds of all contexts that a block may have -/
abbrev InBlk (X : Cx) (sc : Scope) (F : Cx → Prop) : Prop := ∀ (t : Shared) (G : Hp) (L : Addr) (cells : List (Str × Addr)) (feet : List Addr), F (X.blk t G sc (compEnvC sc cells L X.env) feet)
/-- what a comprehension does with a new dict at D: O what stands there, Put the storing of a pair -/
def tDcG (O : Addr → HO) (Put : Addr → (Hp → Prop) → V → V → Hp → Prop) (walk : TI) (g : TG) (tt : TT) (tk tv : TE) (own : List Nat) : TE := fun σ H Q => walk σ H fun J H1 => ∀ D, H1 D = none → ∃ W : Nat → Nat → Hp → Prop, (∃ m, W 0 m (upd H1 D (O D))) ∧ ∀ i m G, W i m G →
  (J.stop i G ∧ Q (.ref D) G) ∨ (J.go i G ∧ ∃ N : Hp → Prop, (∀ G', N G' → ∃ m', m' < m ∧ W (i + 1) m' G') ∧
    ∀ x G', J.yld i G x G' → g x (wipe σ own) G' fun σ2 G2 => wipe σ2 own = wipe σ own ∧ tt σ2 G2 fun b G3 => if b = true then tk σ2 G3 fun y G4 => tv σ2 G4 fun z G5 => Put D N y z G5 else N G3)
/-- the pair is put into the dict at D -/
def PutT (D : Addr) (N : Hp → Prop) (y z : V) (G : Hp) : Prop := ∃ kvs k b, y = .ref b ∧ G b = some (.tup (k.map kV)) ∧ G D = some (.dT kvs) ∧ kvs.length < sizeLine ∧ N (upd G D (.dT (putK kvs k z)))
/-- what a storing must be -/
def Stores (X : Cx) (Put : Addr → (Hp → Prop) → V → V → Hp → Prop) : Prop := ∀ (B : Cx) (pins : List (Addr × Obj)) (σ : L2.St) (G : Hp) (t : Shared) (D : Addr) (N : Hp → Prop) (y z : V) (u r : Value) (Q : Unit → Shared → Prop) (E : Value → Shared → Prop),
  B.prog = X.prog → B.w = X.w → B.A = X.A → B.K = X.K → Inv B pins σ G t → Put D N y z G → RelV y u → RelV z r → (∀ t' G', Inv B pins σ G' t' → N G' → Q () t') → wpAny (model B.prog B.w) B.A (dictSet D u r) Q E t
theorem pe_dcG {O : Addr → HO} {Put : Addr → (Hp → Prop) → V → V → Hp → Prop} {kx vx tgt it : Expr} {ifs : List Expr} {sc : Scope} {own : List (Str × Nat)} {pos : Pos} {walk : TI} {g : TG} {tt : TT} {tk tv : TE} (mk0 : ∀ (H : Hp) (h : Heap), sysModules < h.objs.size → ObjOk X.prog X.w H (h.push { cls := .type "dict", data := .dict #[] }) h.objs.size (O h.objs.size)) (store : Stores X Put) (calm : X.calm = true) (nod : X.N.Nodup)
    (pi : PI X tgt it walk) (bo : BlkOk X.N X.env.scope sc own) (pg : InBlk X sc fun B => PG B tgt g) (pt : InBlk X sc fun B => PTs B ifs tt) (pk : InBlk X sc fun B => PE B kx tk) (pv : InBlk X sc fun B => PE B vx tv)
    (plain : ∀ x, foldedSetIterable it X.env x = pure x := by intro _; rfl) : PE X (.DictComp kx vx [⟨tgt, it, ifs, 0⟩] sc pos) (tDcG O Put walk g tt tk tv (own.map (·.2))) := ⟨fun pins s σ H Q I h => by
  rw [arm_eval_DictComp]
  have free : ∀ y ∈ sc.names, y.2 = .free → ∃ c, X.env.cells.lookup y.1 = some c := fun y hy e => (bo.free y hy e).elim (fun k => I.ok.has _ (.inl k)) fun k => I.ok.has _ (.inr k)
  refine wpAny_comprehension_free (use := none) rfl plain (closure_ok free) bo.kind (fun y hy e => by rw [bo.uniq y hy, e]) ?_
  -- what is walked, then the empty dict
  refine thn (pi.run pins s σ H _ I h) fun xv s1 hx => thn hx ?_
  rintro itv s2 ⟨ad, feet, tn, J, H2, rfl, I2, T, at2, ft2, q⟩
  refine wpAny_newObj_type (newEnv_comp ?_)
  have fresh : H2 s2.heap.objs.size = none := I2.hok.fresh (Nat.le_refl _)
  obtain ⟨W, ⟨m0, w0⟩, turn⟩ := q _ fresh
  let s3 : Shared := { s2 with heap := s2.heap.push { cls := .type "dict", data := .dict #[] } }
  let D : Addr := s2.heap.objs.size
  let H3 : Hp := upd H2 D (O D)
  let L : Addr := s3.heap.objs.size
  let e3 : Env := compEnvC sc (cellsFrom (L + 1) sc.names (cloFrom X.env.cells sc.names [])) L X.env
  let s4 : Shared := { s3 with heap := pushCells (s3.heap.push { cls := .type "dict", data := .dict #[] }) sc.names }
  have I3 : Inv X pins σ H3 s3 := I2.laid (t' := s2.toks) (fun _ _ e => Heap.get?_push_of_some _ e) (Nat.le_refl _) (mk0 _ s2.heap I2.big)
  have grown : ∀ b o, s2.heap.get? b = some o → s3.heap.get? b = some o := fun _ _ e => Heap.get?_push_of_some _ e
  have low : ∀ b ∈ feet, b < s2.heap.objs.size := fun b hb => Heap.lt_size (T.obj _ _ at2 b hb).choose_spec.1
  have ft3 : ∀ b ∈ feet, FpOk X pins H3 b ∧ b < s3.heap.objs.size := fun b hb => ⟨⟨(upd_ne (Nat.ne_of_lt (low b hb))).trans (ft2 b hb).1, (ft2 b hb).2⟩, by show b < (s2.heap.push _).objs.size; rw [Heap.size_push]; exact Nat.lt_succ_of_lt (low b hb)⟩
  have at3 : tn 0 s3.heap := T.keep _ _ _ at2 fun b _ o e => grown b o e
  have I4 : Inv (X.blk s3 H3 sc e3 feet) [] (wipe σ (own.map (·.2))) H3 s4 := block_start I3 bo nod ft3
  have at4 : tn 0 s4.heap := T.keep _ _ _ at3 fun b _ o e => pushCells_keeps _ _ _ _ (Heap.get?_push_of_some _ e)
  -- the walker's own objects in the block's context
  have foot : ∀ {σ' : L2.St} {G : Hp} {t : Shared}, Inv (X.blk s3 H3 sc e3 feet) [] σ' G t → (∀ b ∈ feet, G b = none) → ∀ b ∈ feet, FpOk (X.blk s3 H3 sc e3 feet) [] G b := by
    intro σ' G t J' none b hb
    refine ⟨none b hb, (J'.ok.exf b hb).1, J'.ok.exfs b hb, .inl hb, fun x c e => (J'.ok.exf b hb).2 x c e, ?_⟩
    intro p hp
    exact nomatch (show p ∈ ([] : List (Addr × Obj)) from by simpa using hp)
  have loop : codeAny (model X.prog X.w) X.A (.compLoop (.DictComp kx vx [⟨tgt, it, ifs, 0⟩] sc pos) 0 (.ref ad) (.ref D) e3) (compPost (model X.prog X.w) X.A X.xe none (fun v t => ∃ x G, Inv X pins σ G t ∧ RelV x v ∧ Q x G) (.ref D) L) s4 := by
    refine compLoop_anyD (fun n t => ∃ i G, Inv (X.blk s3 H3 sc e3 feet) [] (wipe σ (own.map (·.2))) G t ∧ tn i t.heap ∧ (∀ b ∈ feet, G b = none) ∧ W i n G) ?_ m0 ⟨0, H3, I4, at4, fun b hb => (ft3 b hb).1.1, w0⟩
    rintro n t ⟨i, G, IG, atG, nG, wG⟩
    obtain ⟨stop, fin⟩ | ⟨go, N, less, step⟩ := turn i n G wG
    · refine thnF (T.done (X.blk s3 H3 sc e3 feet) rfl rfl rfl calm i [] t _ G (fun _ _ => False) IG (foot IG nG) atG stop) ?_
      rintro r t6 ⟨rfl, I6⟩
      have I7 : Inv X pins σ G t6 := I3.call' (ch := feet) I6.os I6.base I6.hok I6.bare fun b hb => let z := (ft3 b hb).1.2; ⟨z.2.2.1, z.1, z.2.2.2.1, z.2.2.2.2⟩
      obtain ⟨m, names, _⟩ := I6.loc
      obtain ⟨a0, a1, a2, a3, a4, a5⟩ := I3.fpOk (Nat.le_refl _) (show G L = none from I6.free)
      exact ⟨m, names, fun h'' kept => ⟨.ref D, G, I7.turned (t' := t6.toks) (fun b o hb e => (kept.2 b hb).trans e) a0 a1 a3 a4 a5, rfl, fin⟩⟩
    · refine thnF (T.item (X.blk s3 H3 sc e3 feet) rfl rfl rfl calm i [] t _ G (fun _ _ => False) IG (foot IG nG) atG go) ?_
      rintro r t6 ⟨u, rfl, h6⟩
      refine thnF h6 ?_
      rintro _ t7 ⟨x, G7, I7, r7, y7, at7, n7⟩
      refine thnF ((pg _ _ _ _ _).run _ t7 _ G7 x u _ (I7.pinned (foot I7 n7) (T.obj _ _ at7)) r7 (step x G7 y7)) ?_
      rintro _ t8 ⟨σ8, G8, I8, wp8, q8⟩
      refine thnF ((pt _ _ _ _ _).run _ t8 σ8 G8 _ I8 q8) ?_
      rintro b t9 ⟨G9, I9, q9⟩
      have back : ∀ {t' : Shared} {G' : Hp}, Inv (X.blk s3 H3 sc e3 feet) ([] ++ pinsAt feet t7.heap) σ8 G' t' → N G' → ∃ m, m < n ∧ ∃ i G, Inv (X.blk s3 H3 sc e3 feet) [] (wipe σ (own.map (·.2))) G t' ∧ tn i t'.heap ∧ (∀ b ∈ feet, G b = none) ∧ W i m G := by
        intro t' G' I' nx
        obtain ⟨m', lt, w'⟩ := less G' nx
        have held : ∀ b ∈ feet, ∀ o, t7.heap.get? b = some o → t'.heap.get? b = some o ∧ G' b = none := fun b hb o e => let z := I'.pin (b, o) (List.mem_append_right _ (List.mem_append_right _ (mem_pinsAt hb e))); ⟨z.1, z.2.1⟩
        refine ⟨m', lt, i + 1, G', I'.unpinned.weak (by rw [← wp8, wipe_length]) fun j v e => ?_, T.keep _ _ _ at7 fun b hb o e => (held b hb o e).1, fun b hb => ?_, w'⟩
        · exact (wipe_some (wp8 ▸ e)).1
        · obtain ⟨o, e, _⟩ := T.obj _ _ at7 b hb
          exact (held b hb o e).2
      by_cases yes : b = true
      · subst yes
        refine thnF ((pk _ _ _ _ _).run _ t9 σ8 G9 _ I9 q9) ?_
        rintro ku t10 ⟨ky, G10, I10, r10, q10⟩
        refine thnF ((pv _ _ _ _ _).run _ t10 σ8 G10 _ I10 q10) ?_
        rintro vu t11 ⟨vy, G11, I11, r11, putting⟩
        exact store (X.blk s3 H3 sc e3 feet) _ _ _ _ _ _ _ _ _ _ _ _ rfl rfl rfl rfl I11 putting r10 r11 fun t12 G12 I12 nx => back I12 nx
      · have no : b = false := by cases b with | true => exact absurd rfl yes | false => rfl
        subst no
        exact back I9 q9
  exact codeAny_compStart_dict loop (T.self X.A 0 _ _ _ at4 loop)⟩
/-- keys that are tuples of ints and texts -/
abbrev tDcT (walk : TI) (g : TG) (tt : TT) (tk tv : TE) (own : List Nat) : TE := tDcG (fun _ => .dT []) PutT walk g tt tk tv own
theorem stores_T (hu : X.A.units + 1 < cLine) : Stores X PutT := by
  rintro B pins σ G t D N y z u r Q E e1 e2 e3 e4 I ⟨kvs, k, kb, rfl, tup, dict, room, nx⟩ ry rz h
  exact d_dictSetT (by rw [e3]; exact hu) I dict room tup ry rz fun t' I' => h t' _ I' nx
theorem pe_dcT {kx vx tgt it : Expr} {ifs : List Expr} {sc : Scope} {own : List (Str × Nat)} {pos : Pos} {walk : TI} {g : TG} {tt : TT} {tk tv : TE} (hu : X.A.units + 1 < cLine) (calm : X.calm = true) (nod : X.N.Nodup)
    (pi : PI X tgt it walk) (bo : BlkOk X.N X.env.scope sc own) (pg : InBlk X sc fun B => PG B tgt g) (pt : InBlk X sc fun B => PTs B ifs tt) (pk : InBlk X sc fun B => PE B kx tk) (pv : InBlk X sc fun B => PE B vx tv)
    (plain : ∀ x, foldedSetIterable it X.env x = pure x := by intro _; rfl) : PE X (.DictComp kx vx [⟨tgt, it, ifs, 0⟩] sc pos) (tDcT walk g tt tk tv (own.map (·.2))) :=
  pe_dcG (fun _ h b => dt_empty h b) (stores_T hu) calm nod pi bo pg pt pk pv plain
/-! ### dicts whose keys are tuples that may be known to their objects -/
/-- the dict at a: kvs its pairs, ks its keys with the tuples that stand for them -/
def KX (kvs : List (List Key × V)) (ks : List (List Key × Addr)) (xs : List (List Key × Addr × Value)) : Prop := Paired (fun (p : List Key × V) (q : List Key × Addr × Value) => p.1 = q.1 ∧ RelV p.2 q.2.2) kvs xs ∧ xs.map (fun q => (q.1, q.2.1)) = ks
def dXo (P : Program) (w : World) (a : Addr) (kvs : List (List Key × V)) (ks : List (List Key × Addr)) : HO := .ext fun h => kvs.length ≤ sizeLine ∧ (a == sysModules) = false ∧ ∃ xs, KX kvs ks xs ∧ (∃ o es ep, h.get? a = some o ∧ o.ExactDict ∧ o.data = .dict es ep ∧ es.toList = xs.map (entryOfKey (tupleKind (mixKind P w)))) ∧ (xs.map (·.1)).Nodup
theorem dXo_ok {P : Program} {w : World} {H : Hp} {h : Heap} {a : Addr} {kvs : List (List Key × V)} {ks : List (List Key × Addr)} {xs : List (List Key × Addr × Value)} {o : Obj} {es : Array DictEntry} {ep : Nat} (l : kvs.length ≤ sizeLine) (n : (a == sysModules) = false) (r : KX kvs ks xs) (g : h.get? a = some o) (x : o.ExactDict) (d : o.data = .dict es ep)
    (e : es.toList = xs.map (entryOfKey (tupleKind (mixKind P w)))) (nd : (xs.map (·.1)).Nodup) : ObjOk P w H h a (dXo P w a kvs ks) := by
  refine ⟨⟨l, n, xs, r, ⟨o, es, ep, g, x, d, e⟩, nd⟩, ⟨o, g⟩, ?_⟩
  rintro h1 h2 ⟨l1, n1, xs1, r1, ⟨o1, es1, ep1, g1, x1, d1, e1⟩, nd1⟩ same
  exact ⟨l1, n1, xs1, r1, ⟨o1, es1, ep1, same o1 g1, x1, d1, e1⟩, nd1⟩
/-- the tuples stand -/
def KsAt (H : Hp) (ks : List (List Key × Addr)) : Prop := ∀ p ∈ ks, Rd H p.2 (.tup (p.1.map kV))
theorem dXo_at {P : Program} {w : World} {H : Hp} {h : Heap} {a : Addr} {kvs : List (List Key × V)} {ks : List (List Key × Addr)} (ok : HOk P w H h) (e : H a = some (dXo P w a kvs ks)) (t : KsAt H ks) :
    kvs.length ≤ sizeLine ∧ (a == sysModules) = false ∧ ∃ xs, KX kvs ks xs ∧ h.DictOfH (tupleKind (mixKind P w)) a xs := by
  obtain ⟨⟨l, n, xs, r, ⟨o, es, ep, g, x, d, e1⟩, nd⟩, _⟩ := ok a _ e
  refine ⟨l, n, xs, r, o, es, ep, g, x, d, e1, fun q hq => ?_, nd⟩
  have hk : (q.1, q.2.1) ∈ ks := by rw [← r.2]; exact List.mem_map.mpr ⟨q, hq, rfl⟩
  exact key_rd ok (t _ hk)
theorem paired_keys {F : (List Key × V) → (List Key × Addr × Value) → Prop} (hF : ∀ p q, F p q → p.1 = q.1) : ∀ {kvs : List (List Key × V)} {xs : List (List Key × Addr × Value)}, Paired F kvs xs → kvs.map (·.1) = xs.map (·.1) := by
  intro kvs xs r
  induction r with
  | nil => rfl
  | cons h t ih => rw [List.map_cons, List.map_cons, ih, hF _ _ h]
theorem kx_val {kvs : List (List Key × V)} {ks : List (List Key × Addr)} {xs : List (List Key × Addr × Value)} (r : KX kvs ks xs) (k : List Key) : RelO (valV kvs k) ((atKey xs k).map (·.2)) := by
  replace r := r.1
  induction r with
  | nil => exact True.intro
  | @cons p q ps qs h t ih =>
    by_cases c : p.1 = k
    · have c' : q.1 = k := h.1.symm.trans c
      rw [valV_pos c, show atKey (q :: qs) k = some q.2 by simp [atKey, List.find?_cons, c']]
      exact h.2
    · have c' : ¬ q.1 = k := fun z => c (h.1.trans z)
      rw [valV_neg c, show atKey (q :: qs) k = atKey qs k by simp [atKey, List.find?_cons, c']]
      exact ih
/-- the keys behind a storing -/
def ksPut (kvs : List (List Key × V)) (ks : List (List Key × Addr)) (k : List Key) (b : Addr) : List (List Key × Addr) := if (valV kvs k).isSome = true then ks else ks ++ [(k, b)]
theorem kx_put {kvs : List (List Key × V)} {ks : List (List Key × Addr)} {xs : List (List Key × Addr × Value)} (r : KX kvs ks xs) (k : List Key) (b : Addr) {y : V} {u : Value} (ry : RelV y u) : KX (putK kvs k y) (ksPut kvs ks k b) (storedH xs k b u) := by
  have e : (valV kvs k).isSome = (atKey xs k).isSome := by rw [(kx_val r k).isSome_eq, Option.isSome_map]
  obtain ⟨r, rk⟩ := r
  unfold putK storedH ksPut
  rw [valV_any, e]
  by_cases c : (atKey xs k).isSome = true
  · rw [if_pos c, if_pos c, if_pos c]
    refine ⟨?_, ?_⟩
    · clear rk e c
      induction r with
      | nil => exact .nil
      | @cons p q ps qs h t ih =>
        refine .cons ?_ ih
        show (if p.1 = k then (p.1, y) else p).1 = (putAt k u q).1 ∧ RelV (if p.1 = k then (p.1, y) else p).2 (putAt k u q).2.2
        unfold putAt
        by_cases d : p.1 = k
        · rw [if_pos d, if_pos (h.1.symm.trans d)]
          exact ⟨h.1, ry⟩
        · rw [if_neg d, if_neg (fun z => d (h.1.trans z))]
          exact h
    · rw [← rk, List.map_map]
      refine List.map_congr_left fun q _ => ?_
      show ((putAt k u q).1, (putAt k u q).2.1) = _
      unfold putAt
      split <;> rfl
  · rw [if_neg c, if_neg c, if_neg c]
    exact ⟨Paired.snoc r ⟨rfl, ry⟩, by rw [List.map_append, rk]; rfl⟩
def PutX (P : Program) (w : World) (D : Addr) (N : Hp → Prop) (y z : V) (G : Hp) : Prop := ∃ kvs ks k b, y = .ref b ∧ Rd G b (.tup (k.map kV)) ∧ G D = some (dXo P w D kvs ks) ∧ KsAt G ks ∧ kvs.length < sizeLine ∧ N (upd G D (dXo P w D (putK kvs k z) (ksPut kvs ks k b)))
theorem stores_X (hu : X.A.units + 1 < cLine) : Stores X (PutX X.prog X.w) := by
  rintro B pins σ G t D N y z u r Q E e1 e2 e3 e4 I ⟨kvs, ks, k, kb, rfl, tup, dict, kat, room, nx⟩ ry rz h
  cases (show u = Value.ref kb from ry)
  rw [← e1, ← e2] at dict nx
  obtain ⟨l, n, xs, rel, dd⟩ := dXo_at I.hok dict kat
  have lx : xs.length = kvs.length := (Paired.length rel.1).symm
  refine wpAny_dictSet_heap (hsz := by omega) (show (tupleKind (mixKind B.prog B.w)).room B.A from by rw [e3]; exact Nat.lt_of_succ_lt hu) (key_rd I.hok tup) dd fun h' dd' same => h _ _ ?_ nx
  obtain ⟨o, es, ep, g, x, d, e5, _, nd⟩ := dd'
  exact d_write I (by rw [dict]; exact True.intro) same ⟨o, g⟩ (dXo_ok (Nat.le_trans (length_putK kvs k z) room) n (kx_put rel k kb rz) g x d e5 nd)
theorem dXo_empty {P : Program} {w : World} (H : Hp) (h : Heap) (b : sysModules < h.objs.size) : ObjOk P w H (h.push { cls := .type "dict", data := .dict #[] }) h.objs.size (dXo P w h.objs.size [] []) :=
  dXo_ok (xs := []) (Nat.zero_le _) (beq_eq_false_iff_ne.mpr (Ne.symm (Nat.ne_of_lt b))) ⟨.nil, rfl⟩ (Heap.get?_push_size _ rfl) ⟨rfl, rfl, rfl⟩ rfl rfl List.nodup_nil
abbrev tDcX (P : Program) (w : World) (walk : TI) (g : TG) (tt : TT) (tk tv : TE) (own : List Nat) : TE := tDcG (fun D => dXo P w D [] []) (PutX P w) walk g tt tk tv own
theorem pe_dcX {P : Program} {w : World} (hP : X.prog = P) (hw : X.w = w) {kx vx tgt it : Expr} {ifs : List Expr} {sc : Scope} {own : List (Str × Nat)} {pos : Pos} {walk : TI} {g : TG} {tt : TT} {tk tv : TE} (hu : X.A.units + 1 < cLine) (calm : X.calm = true) (nod : X.N.Nodup)
    (pi : PI X tgt it walk) (bo : BlkOk X.N X.env.scope sc own) (pg : InBlk X sc fun B => PG B tgt g) (pt : InBlk X sc fun B => PTs B ifs tt) (pk : InBlk X sc fun B => PE B kx tk) (pv : InBlk X sc fun B => PE B vx tv)
    (plain : ∀ x, foldedSetIterable it X.env x = pure x := by intro _; rfl) : PE X (.DictComp kx vx [⟨tgt, it, ifs, 0⟩] sc pos) (tDcX P w walk g tt tk tv (own.map (·.2))) := by
  subst hP hw
  exact pe_dcG (fun H h b => dXo_empty H h b) (stores_X hu) calm nod pi bo pg pt pk pv plain
/-- d[k] of such a dict -/
def tXGet (P : Program) (w : World) (td ty : TE) : TE := fun σ H Q => td σ H fun x H1 => ty σ H1 fun y H2 => ∃ a kvs ks k b v, x = .ref a ∧ y = .ref b ∧ H2 a = some (dXo P w a kvs ks) ∧ KsAt H2 ks ∧ Rd H2 b (.tup (k.map kV)) ∧ valV kvs k = some v ∧ Q v H2
theorem pe_xget {P : Program} {w : World} (hP : X.prog = P) (hw : X.w = w) (hu : X.A.units + 1 < cLine) {o i : Expr} {td ty : TE} {pos : Pos} (ho : PE X o td) (hi : PE X i ty) (hs : NoSl i) : PE X (.Subscript o i pos) (tXGet P w td ty) := by
  subst hP hw
  refine ⟨fun pins s σ H Q I h => ?_⟩
  refine subD_of PySem.F.slot_dict_getitem.lookup hs (thn (ho.run pins s σ H _ I h) fun ov s1 ⟨x, H1, I1, rx, q1⟩ => thn (hi.run pins s1 σ H1 _ I1 q1) ?_)
  rintro iv s2 ⟨y, H2, I2, ry, a, kvs, ks, k, b, v, rfl, rfl, dict, kat, tup, has, q2⟩
  obtain rfl : ov = Value.ref a := rx
  cases (show iv = Value.ref b from ry)
  obtain ⟨l, n, xs, rel, dd⟩ := dXo_at I2.hok dict kat
  have rv := kx_val rel k
  rw [has] at rv
  obtain ⟨u, hp, ru⟩ := RelO.some_of rv
  obtain ⟨p, hp', rfl⟩ := Option.map_eq_some_iff.mp hp
  refine ⟨?_, wpAny_getItem_heap (tupleKind_room_in1 hu) (key_rd I2.hok tup) dd hp' ?_⟩
  · obtain ⟨o', es, ep, g, x, _⟩ := dd
    exact ⟨o', g, x.1⟩
  · exact ⟨v, H2, I2.tok _, ru, q2⟩
/-- deep membership, in lists and in tuples -/
def rInDT (K : PySem.W.Frag) : R2 := fun x y H Q => ∃ d ds, Dp K H x d ∧ Dp K H y (.tuple ds) ∧ SeqAt.shaped d = true ∧ SeqAt.shaped (.tuple ds) = true ∧ Q (.bl (ds.any fun z => PyData.eqv z d)) H
def rNotInDT (K : PySem.W.Frag) : R2 := fun x y H Q => ∃ d ds, Dp K H x d ∧ Dp K H y (.tuple ds) ∧ SeqAt.shaped d = true ∧ SeqAt.shaped (.tuple ds) = true ∧ Q (.bl (!ds.any fun z => PyData.eqv z d)) H
theorem op_inDT {K : PySem.W.Frag} (hK : X.K = K) (hu : X.A.units + 65 < cLine) : OpR X (compareOp .In) (rInDT K) := by
  subst hK
  intro pins s σ H x y v u Q I rx ry h
  obtain ⟨d, ds, hd, he, sd, se, q⟩ := h
  obtain ⟨as, r1⟩ := Dp.reads I d x v hd rx
  obtain ⟨bs, r2⟩ := Dp.reads I (.tuple ds) y u he ry
  exact SeqAt.in_tuple_reads r2 r1 (SeqAt.canLay_of_shaped se) (SeqAt.canLay_of_shaped sd) (room_in_shaped sd hu) ⟨.bl _, H, I, rfl, q⟩
theorem op_notInDT {K : PySem.W.Frag} (hK : X.K = K) (hu : X.A.units + 65 < cLine) : OpR X (compareOp .NotIn) (rNotInDT K) := by
  subst hK
  intro pins s σ H x y v u Q I rx ry h
  obtain ⟨d, ds, hd, he, sd, se, q⟩ := h
  obtain ⟨as, r1⟩ := Dp.reads I d x v hd rx
  obtain ⟨bs, r2⟩ := Dp.reads I (.tuple ds) y u he ry
  exact SeqAt.notIn_tuple_reads r2 r1 (SeqAt.canLay_of_shaped se) (SeqAt.canLay_of_shaped sd) (room_in_shaped sd hu) ⟨.bl _, H, I, rfl, q⟩
theorem op_inDK {K : PySem.W.Frag} (hK : X.K = K) (hu : X.A.units + 65 < cLine) : OpR X (compareOp .In) (rInD K) := by subst hK; exact op_inD hu
theorem op_notInDK {K : PySem.W.Frag} (hK : X.K = K) (hu : X.A.units + 65 < cLine) : OpR X (compareOp .NotIn) (rNotInD K) := by subst hK; exact op_notInD hu
/-- t.index(n), the first place, of a tuple of ints -/
def rTIdx (K : PySem.W.Frag) : V → List V → Hp → VK → Prop := fun x xs H Q => ∃ p, ∃ ys : List Int, ∃ z j, x = .ref p ∧ xs = [.int z] ∧ SqT K H p (ys.map V.int) ∧ ys[j]? = some z ∧ (∀ m, m < j → ys[m]? ≠ some z) ∧ Q (.int (j : Nat)) H
theorem flat_ints (ys : List Int) : (ys.map V.int).all flatV = true := by induction ys <;> simp_all [flatV]
theorem mt_tup_indexI {K : PySem.W.Frag} (hK : X.K = K) : MtR X "tuple.index" (rTIdx K) := by
  subst hK
  rintro pins s σ H _ _ v us Q I rx rs ⟨p, ys, z, j, rfl, rfl, reads, found, first, q⟩
  cases rx
  obtain ⟨_, rfl, tk, rfl⟩ := vals1 rs
  obtain ⟨its, vals, ⟨⟨_, dd, _, sl⟩, stands, rfl, n, rfl⟩, _⟩ := I.tuple reads
  have size : its.length = ys.length := by simpa using vals.length.symm
  have item : ∀ m : Nat, m < ys.length → ∃ t', its[m]? = some (Value.int (ys.getD m 0) t') := by
    intro m hm
    obtain ⟨w, hw, t', rfl⟩ := vals.get (i := m) (x := V.int (ys.getD m 0)) (by simp [hm])
    exact ⟨t', hw⟩
  have eqs : ∀ (m : Nat) (hm : m < its.toArray.size), eqU (V.int z) its.toArray[m] = decide (ys.getD m 0 = z) := by
    intro m hm
    obtain ⟨t', e⟩ := item m (by simpa [size] using hm)
    have e' : its.toArray[m] = Value.int (ys.getD m 0) t' := by
      have := (List.getElem?_eq_some_iff.mp e).2
      simpa using this
    rw [e']
    rfl
  have inside := (List.getElem?_eq_some_iff.mp found).1
  have jz : ys.getD j 0 = z := by rw [List.getD_eq_getElem?_getD, found]; rfl
  have answer := TI.tuple_indexAt p its.toArray n dd sl (.int z tk) (eqU (.int z)) j (by simpa [size] using inside) (by rw [eqs, jz]; exact decide_eq_true rfl) (fun m hm lt => by
    rw [eqs]
    refine decide_eq_false fun e => first m lt ?_
    have inm : m < ys.length := by simpa [size] using hm
    rw [List.getElem?_eq_getElem inm, ← e, List.getD_eq_getElem?_getD, List.getElem?_eq_getElem inm]
    rfl)
  exact call_meets PySem.F.slot_tuple_index ⟨_, stands, rfl⟩ PySem.F.entry_tuple_index (PySem.F.args_tuple_index_2 _ _) answer
    ⟨stands, fun w hw => mem_eqAt (x := .int z) ⟨tk, rfl⟩ rfl vals (flat_ints ys) w (by simpa using hw), ⟨.int (j : Nat), H, I.tok _, ⟨_, rfl⟩, q⟩⟩
end
/-! ### loops over enumerate and zip, whatever their bodies -/
theorem enumL_loop {K : PySem.W.Frag} {a : Addr} {xs : List V} {Qd : Hp → Prop} {H0 : Hp} {B : V → Hp → (Hp → Prop) → Prop} (Pv : Nat → Hp → Prop) (h0 : Pv 0 H0) (hl : ∀ i H, i ≤ xs.length → Pv i H → SqL K H a xs) (hs : ∀ i x T H, xs[i]? = some x → H T = none → Pv i H → B (.ref T) (upd H T (.tup [.int (i : Nat), x])) (Pv (i + 1))) (hd : ∀ H, Pv xs.length H → Qd H) :
    ∃ W : Nat → Nat → Hp → Prop, (∃ m, W 0 m H0) ∧ ∀ i m H, W i m H → ((Ite K a).stop i H ∧ Qd H) ∨ ((Ite K a).go i H ∧ ∃ Nx : Hp → Prop, (∀ H', Nx H' → ∃ m', m' < m ∧ W (i + 1) m' H') ∧ ∀ x H', (Ite K a).yld i H x H' → B x H' Nx) := by
  refine ⟨fun i m H => m = xs.length - i ∧ i ≤ xs.length ∧ Pv i H, ⟨_, rfl, Nat.zero_le _, h0⟩, ?_⟩
  rintro i m H ⟨rfl, hi, p⟩
  have q := hl i H hi p
  by_cases hlt : i < xs.length
  · refine .inr ⟨⟨xs, xs[i], q, by simp [hlt]⟩, Pv (i + 1), fun H' p' => ⟨xs.length - (i + 1), by omega, rfl, hlt, p'⟩, fun x H' y => ?_⟩
    obtain ⟨T, z, rfl, hT, rfl, hz⟩ := y
    exact hs i z T _ (hz xs q) hT p
  · have e : i = xs.length := by omega
    subst e
    exact .inl ⟨⟨xs, q, Nat.le_refl _⟩, hd H p⟩
theorem enumT_loop {K : PySem.W.Frag} {a : Addr} {xs : List V} {Qd : Hp → Prop} {H0 : Hp} {B : V → Hp → (Hp → Prop) → Prop} (Pv : Nat → Hp → Prop) (h0 : Pv 0 H0) (hl : ∀ i H, i ≤ xs.length → Pv i H → SqT K H a xs) (hs : ∀ i x T H, xs[i]? = some x → H T = none → Pv i H → B (.ref T) (upd H T (.tup [.int (i : Nat), x])) (Pv (i + 1))) (hd : ∀ H, Pv xs.length H → Qd H) :
    ∃ W : Nat → Nat → Hp → Prop, (∃ m, W 0 m H0) ∧ ∀ i m H, W i m H → ((Itet K a).stop i H ∧ Qd H) ∨ ((Itet K a).go i H ∧ ∃ Nx : Hp → Prop, (∀ H', Nx H' → ∃ m', m' < m ∧ W (i + 1) m' H') ∧ ∀ x H', (Itet K a).yld i H x H' → B x H' Nx) := by
  refine ⟨fun i m H => m = xs.length - i ∧ i ≤ xs.length ∧ Pv i H, ⟨_, rfl, Nat.zero_le _, h0⟩, ?_⟩
  rintro i m H ⟨rfl, hi, p⟩
  have q := hl i H hi p
  by_cases hlt : i < xs.length
  · refine .inr ⟨⟨xs, xs[i], q, by simp [hlt]⟩, Pv (i + 1), fun H' p' => ⟨xs.length - (i + 1), by omega, rfl, hlt, p'⟩, fun x H' y => ?_⟩
    obtain ⟨T, z, rfl, hT, rfl, hz⟩ := y
    exact hs i z T _ (hz xs q) hT p
  · have e : i = xs.length := by omega
    subst e
    exact .inl ⟨⟨xs, q, rfl⟩, hd H p⟩
end D
namespace D
open PySem PySem.Spec PyProof.Rows L2
section
variable {X : Cx}
/-- tuple(list): the new object is known to have no dict -/
def rTupF (K : PySem.W.Frag) : List V → Hp → VK → Prop := fun xs H Q => ∃ p ys, xs = [.ref p] ∧ SqL K H p ys ∧ ∀ l o, H l = none → o.cls = .type "tuple" → o.dict = none → Q (.ref l) (upd H l (.frz o (.tup ys)))
theorem call_tupleF {K : PySem.W.Frag} (hK : X.K = K) : CallR X (.type "tuple") (rTupF K) := by
  subst hK
  intro pins s σ H xs us Q I r h
  obtain ⟨p, ys, rfl, hq, q⟩ := h
  obtain ⟨u, rfl, rx⟩ := vals1 r
  cases rx
  obtain ⟨its, r', pl, hz⟩ := I.list hq
  have hlen := r'.length
  refine call_tuple_list pl.isList (fun h' kp => ?_) (by simp only [List.size_toArray] <;> omega)
  have I1 : Inv X pins σ H { s with heap := h' } := I.kept (t' := s.toks) kp
  have I2 : Inv X pins σ (upd H h'.objs.size (.frz { cls := .type "tuple", data := .seq its.toArray } (.tup ys))) { s with heap := h'.push { cls := .type "tuple", data := .seq its.toArray } } :=
    I1.laid (t' := s.toks) (fun b o e => Heap.get?_push_of_some _ e) (Nat.le_refl _) (show ObjOk X.prog X.w _ _ _ (.frz _ (.tup ys)) from ⟨Heap.get?_push_size _ rfl, hz, its, r', IsTup.new _ _⟩)
  exact ⟨.ref h'.objs.size, _, I2, rfl, q _ _ (I1.hok.fresh (Nat.le_refl _)) rfl rfl⟩
/-- t[lo:hi], the cut known to its object -/
def rSlF (K : PySem.W.Frag) : V → Option Int → Option Int → Hp → VK → Prop := fun x lo hi H Q => ∃ a xs, x = .ref a ∧ SqT K H a xs ∧
  (HT.sIx xs.length 0 lo = 0 ∧ HT.sIx xs.length xs.length hi = xs.length → Q (.ref a) H) ∧ (¬ (HT.sIx xs.length 0 lo = 0 ∧ HT.sIx xs.length xs.length hi = xs.length) → ∀ p o, H p = none → o.cls = .type "tuple" → o.dict = none → Q (.ref p) (upd H p (.frz o (.tup (cutV xs lo hi)))))
theorem sl_tupF {K : PySem.W.Frag} (hK : X.K = K) : SlR X (rSlF K) := by
  subst hK
  rintro pins s σ H _ v vl vu lo hi sl Q I rx hs pl pu ⟨a, xs, rfl, reads, all, part⟩
  by_cases whole : HT.sIx xs.length 0 lo = 0 ∧ HT.sIx xs.length xs.length hi = xs.length
  · exact sl_tupA pins s σ H _ v vl vu lo hi sl Q I rx hs pl pu ⟨a, xs, rfl, reads, all, fun z => absurd whole z⟩
  · cases rx
    obtain ⟨its, vals, stands, small⟩ := I.tuple reads
    have size : its.toArray.size = xs.length := by rw [List.size_toArray]; exact vals.length.symm
    refine ⟨"tuple", _, PyProof.Rows.slot_tuple_getitem.lookup, stands.typeIs, HT.getItem_tuple_cut stands hs pl pu (by rw [size]; exact whole) ?_ (by rw [size]; exact small)⟩
    rw [size]
    have cut := (vals.drop (HT.sIx xs.length 0 lo)).take (HT.sIx xs.length xs.length hi - HT.sIx xs.length 0 lo)
    let ob : Obj := { cls := .type "tuple", data := .seq ((its.drop (HT.sIx xs.length 0 lo)).take (HT.sIx xs.length xs.length hi - HT.sIx xs.length 0 lo)).toArray }
    have good : ObjOk X.prog X.w (upd H s.heap.objs.size (.frz ob (.tup (cutV xs lo hi)))) (s.heap.push ob) s.heap.objs.size (.frz ob (.tup (cutV xs lo hi))) := ⟨Heap.get?_push_size _ rfl, Nat.le_trans (cutV_length xs lo hi) small, _, cut, IsTup.new _ _⟩
    exact ⟨.ref s.heap.objs.size, _, I.laid (t' := s.toks) (fun b ob e => Heap.get?_push_of_some _ e) (Nat.le_refl _) good, rfl, part whole _ ob (I.hok.fresh (Nat.le_refl _)) rfl rfl⟩
def tyTup (x : V) (H : Hp) : Prop := ∃ a o u, x = .ref a ∧ H a = some (.frz o u) ∧ o.cls = .type "tuple" ∧ o.dict = none
theorem ty_tup : TyOk X "tuple" tyTup := by
  intro pins σ H s x v I r h
  obtain ⟨a, o, u, rfl, e, hc, hd⟩ := h
  cases r
  obtain ⟨e2, _⟩ := I.hok a _ e
  refine ⟨⟨o, e2, hc⟩, fun b eb => ?_⟩
  cases eb
  exact ⟨o, e2, hd⟩
end
/-- rows -/
def RowAt (M : Ms) (H : Hp) (v : V) (ns : List Int) : Prop := ∃ a, v = .ref a ∧ ¬ M a ∧ Rd H a (.tup (ns.map V.int))
def RowF (M : Ms) (H : Hp) (v : V) (ns : List Int) : Prop := ∃ a o, v = .ref a ∧ ¬ M a ∧ H a = some (.frz o (.tup (ns.map V.int))) ∧ o.cls = .type "tuple" ∧ o.dict = none
theorem RowF.row {M : Ms} {H : Hp} {v : V} {ns : List Int} (h : RowF M H v ns) : RowAt M H v ns := by
  obtain ⟨a, o, e, n, ha, _⟩ := h
  exact ⟨a, e, n, .inr ⟨o, ha⟩⟩
theorem RowAt.sx {M : Ms} {H H' : Hp} {v : V} {ns : List Int} (h : RowAt M H v ns) (s : Sx M H H') : RowAt M H' v ns := by
  obtain ⟨a, e, n, ha⟩ := h
  exact ⟨a, e, n, sx_rd s n ha⟩
theorem RowF.sx {M : Ms} {H H' : Hp} {v : V} {ns : List Int} (h : RowF M H v ns) (s : Sx M H H') : RowF M H' v ns := by
  obtain ⟨a, o, e, n, ha, r⟩ := h
  exact ⟨a, o, e, n, s _ _ n ha, r⟩
theorem RowAt.less {M N : Ms} {H : Hp} {v : V} {ns : List Int} (h : RowAt M H v ns) (f : ∀ a, N a → M a) : RowAt N H v ns := by
  obtain ⟨a, e, n, ha⟩ := h
  exact ⟨a, e, fun z => n (f a z), ha⟩
theorem RowF.less {M N : Ms} {H : Hp} {v : V} {ns : List Int} (h : RowF M H v ns) (f : ∀ a, N a → M a) : RowF N H v ns := by
  obtain ⟨a, o, e, n, ha⟩ := h
  exact ⟨a, o, e, fun z => n (f a z), ha⟩
theorem RowF.fresh {M : Ms} {H : Hp} {v : V} {ns : List Int} {p : Addr} (hp : H p = none) (h : RowF M H v ns) : RowF (also M p) H v ns := by
  obtain ⟨a, o, e, n, ha, r⟩ := h
  refine ⟨a, o, e, fun z => ?_, ha, r⟩
  rcases z with z | z
  · exact n z
  · rw [show a = p from z, hp] at ha
    cases ha
end D

namespace D
open PySem PySem.Spec PyProof.Rows L2
theorem hu65 {A : Around} {k : Nat} (hr : Room k A) : A.units + 65 < cLine := by have := hr.un; omega
/-! ### idents and matches -/
abbrev IP := Int × Int
def idp (ws : List Int) : List IP := ws.mapIdx fun i w => (w, (((ws.take i).count w : Nat) : Int))
theorem idp_len (ws : List Int) : (idp ws).length = ws.length := List.length_mapIdx
theorem idp_at {ws : List Int} {i : Nat} {w : Int} (h : ws[i]? = some w) : (idp ws)[i]? = some (w, (((ws.take i).count w : Nat) : Int)) := by
  unfold idp
  rw [List.getElem?_mapIdx, h]
  rfl
theorem nodup_get {α : Type} {l : List α} : l.Nodup ↔ ∀ i j : Nat, i < j → j < l.length → l[i]? ≠ l[j]? := by
  unfold List.Nodup
  rw [List.pairwise_iff_getElem]
  constructor
  · intro h i j hij hj e
    rw [List.getElem?_eq_getElem (Nat.lt_trans hij hj), List.getElem?_eq_getElem hj] at e
    exact h i j (Nat.lt_trans hij hj) hj hij (Option.some.inj e)
  · intro h i j hi hj hij e
    exact h i j hij hj (by rw [List.getElem?_eq_getElem hi, List.getElem?_eq_getElem hj, e])
theorem idp_nodup (ws : List Int) : (idp ws).Nodup := by
  rw [nodup_get]
  intro i j hij hj
  have hj' : j < ws.length := by rw [idp_len] at hj; exact hj
  have hi' : i < ws.length := Nat.lt_trans hij hj'
  have ei : ws[i]? = some ws[i] := List.getElem?_eq_getElem hi'
  have ej : ws[j]? = some ws[j] := List.getElem?_eq_getElem hj'
  rw [idp_at ei, idp_at ej]
  intro e
  have e' := Option.some.inj e
  have e1 : ws[i] = ws[j] := congrArg Prod.fst e'
  have e2 : (((ws.take i).count ws[i] : Nat) : Int) = ((ws.take j).count ws[j] : Nat) := congrArg Prod.snd e'
  have e3 : (ws.take i).count ws[i] = (ws.take j).count ws[j] := Int.ofNat.inj e2
  rw [← e1] at e3
  have s1 : List.Sublist ((ws.take (i + 1))) (ws.take j) := by
    have : ws.take (i + 1) = (ws.take j).take (i + 1) := by rw [List.take_take]; congr 1; omega
    rw [this]
    exact List.take_sublist _ _
  have c1 := s1.count_le ws[i]
  rw [List.take_add_one, ei, List.count_append] at c1
  have : List.count ws[i] (some ws[i]).toList = 1 := by simp
  omega
def pos (B : List IP) (x : IP) : Option Nat := if x ∈ B then some (B.idxOf x) else none
theorem pos_snoc {B : List IP} {b : IP} (hb : b ∉ B) (x : IP) : pos (B ++ [b]) x = if x = b then some B.length else pos B x := by
  unfold pos
  by_cases e : x = b
  · subst e
    rw [if_pos rfl, if_pos (by simp), List.idxOf_append, if_neg hb]
    simp
  · rw [if_neg e]
    by_cases m : x ∈ B
    · rw [if_pos m, if_pos (by simp [m]), List.idxOf_append, if_pos m]
    · rw [if_neg m, if_neg (by simp [m, e])]
theorem pos_take {B : List IP} (hB : B.Nodup) {i : Nat} {b : IP} (h : B[i]? = some b) (x : IP) : pos (B.take (i + 1)) x = if x = b then some i else pos (B.take i) x := by
  have hi : i < B.length := (List.getElem?_eq_some_iff.mp h).1
  have hb : b ∉ B.take i := by
    intro hm
    obtain ⟨j, hj⟩ := List.mem_iff_getElem?.mp hm
    have hji : j < i := by
      have := (List.getElem?_eq_some_iff.mp hj).1
      rw [List.length_take] at this
      omega
    rw [List.getElem?_take_of_lt hji] at hj
    exact (nodup_get.mp hB) j i hji hi (hj.trans h.symm)
  have e : B.take (i + 1) = B.take i ++ [b] := by rw [List.take_add_one, h]; rfl
  have := pos_snoc hb x
  rw [← e, List.length_take, Nat.min_eq_left (Nat.le_of_lt hi)] at this
  exact this
theorem pos_lt {B : List IP} {x : IP} {i : Nat} (h : pos B x = some i) : i < B.length ∧ B[i]? = some x := by
  unfold pos at h
  split at h
  · rename_i m
    cases h
    have hl := List.idxOf_lt_length_of_mem m
    exact ⟨hl, by rw [List.getElem?_eq_getElem hl, List.getElem_idxOf hl]⟩
  · cases h
/-- the key of an ident in a dict -/
def kk (x : IP) : List Key := [.inl x.1, .inl x.2]
theorem kk_inj {x y : IP} (h : kk x = kk y) : x = y := by
  have h' : [(Sum.inl x.1 : Key), .inl x.2] = [.inl y.1, .inl y.2] := h
  injection h' with h1 h2
  injection h2 with h2 _
  exact Prod.ext (Sum.inl.inj h1) (Sum.inl.inj h2)
/-- what a dict tells of idents -/
def Tells (kvs : List (List Key × V)) (B : List IP) : Prop := ∀ x, valV kvs (kk x) = (pos B x).map fun (i : Nat) => V.int (i : Int)
theorem tells_nil : Tells [] [] := fun x => by
  unfold pos
  rw [if_neg (by simp)]
  rfl
theorem tells_put {kvs : List (List Key × V)} {B : List IP} (hB : B.Nodup) {i : Nat} {b : IP} (h : B[i]? = some b) (t : Tells kvs (B.take i)) : Tells (putK kvs (kk b) (.int (i : Nat))) (B.take (i + 1)) := fun x => by
  rw [valV_put, pos_take hB h]
  by_cases e : x = b
  · subst e
    rw [if_pos rfl, if_pos rfl]
    rfl
  · rw [if_neg (fun z => e (kk_inj z)), if_neg e]
    exact t x
def mst (B : List IP) (x : IP) (j : Nat) : List IP := match pos B x with
  | some i => [((i : Int), (j : Int))]
  | none => []
def mt (B N : List IP) : List IP := (N.mapIdx fun j x => mst B x j).flatten
theorem mt_step (B : List IP) {N : List IP} {j : Nat} {x : IP} (h : N[j]? = some x) : mt B (N.take (j + 1)) = mt B (N.take j) ++ mst B x j := by
  have hj : j < N.length := (List.getElem?_eq_some_iff.mp h).1
  unfold mt
  rw [List.take_add_one, h]
  show (List.mapIdx _ (List.take j N ++ [x])).flatten = _
  rw [List.mapIdx_append, List.flatten_append]
  congr 1
  rw [List.length_take, Nat.min_eq_left (Nat.le_of_lt hj)]
  show [mst B x (0 + j)].flatten = _
  rw [Nat.zero_add]
  simp
theorem mst_take {B : List IP} (hB : B.Nodup) {i : Nat} {b : IP} (h : B[i]? = some b) (x : IP) (j : Nat) : mst (B.take (i + 1)) x j = mst (B.take i) x j ++ if b = x then [((i : Int), (j : Int))] else [] := by
  have hn : b = x → pos (B.take i) x = none := fun e => by
    subst e
    unfold pos
    rw [if_neg]
    intro hm
    obtain ⟨k, hk⟩ := List.mem_iff_getElem?.mp hm
    have hji : k < i := by
      have := (List.getElem?_eq_some_iff.mp hk).1
      rw [List.length_take] at this
      omega
    rw [List.getElem?_take_of_lt hji] at hk
    exact (nodup_get.mp hB) k i hji (List.getElem?_eq_some_iff.mp h).1 (hk.trans h.symm)
  unfold mst
  rw [pos_take hB h]
  by_cases e : x = b
  · rw [if_pos e, hn e.symm, if_pos e.symm]
    rfl
  · rw [if_neg e, if_neg (fun z => e z.symm), List.append_nil]
theorem mst_nil (x : IP) (j : Nat) : mst [] x j = [] := by
  unfold mst pos
  rw [if_neg (by simp)]
theorem mst_mem {B : List IP} {x : IP} {j : Nat} {p : IP} (h : p ∈ mst B x j) : ∃ i, i < B.length ∧ p = ((i : Int), (j : Int)) := by
  unfold mst at h
  split at h
  · rename_i i e
    exact ⟨i, (pos_lt e).1, List.mem_singleton.mp h⟩
  · exact nomatch h
theorem mt_mem {B N : List IP} {p : IP} (h : p ∈ mt B N) : ∃ i j : Nat, i < B.length ∧ j < N.length ∧ p = ((i : Int), (j : Int)) := by
  unfold mt at h
  obtain ⟨l, hl, hp⟩ := List.mem_flatten.mp h
  obtain ⟨j, hj, rfl⟩ := List.mem_mapIdx.mp hl
  obtain ⟨i, hi, e⟩ := mst_mem hp
  exact ⟨i, j, hi, hj, e⟩
theorem mst_len (B : List IP) (x : IP) (j : Nat) : (mst B x j).length ≤ 1 := by
  unfold mst
  split <;> simp
theorem mt_len (B N : List IP) : (mt B N).length ≤ N.length := by
  suffices h : ∀ n, n ≤ N.length → (mt B (N.take n)).length ≤ n by
    have := h N.length (Nat.le_refl _)
    rw [List.take_length] at this
    exact this
  intro n
  induction n with
  | zero => intro _; simp [mt]
  | succ n ih =>
    intro h
    rw [mt_step B (List.getElem?_eq_getElem (by omega : n < N.length)), List.length_append]
    have := ih (by omega)
    have := mst_len B N[n] n
    omega
/-- slips -/
def atI0 (l : List Int) (i : Int) : Int := l.getD i.toNat 0
theorem atI0_nat {l : List Int} {i : Nat} {x : Int} (h : l[i]? = some x) : atI0 l (i : Int) = x := by
  unfold atI0
  rw [Int.toNat_natCast, List.getD_eq_getElem?_getD, h]
  rfl
def sst (o n : List Int) (p : IP) : List IP := if atI0 o p.1 = atI0 n p.2 then [] else [(atI0 o p.1, atI0 n p.2)]
def slp (o n : List Int) (ms : List IP) : List IP := (ms.map (sst o n)).flatten
theorem slp_step (o n : List Int) {ms : List IP} {j : Nat} {p : IP} (h : ms[j]? = some p) : slp o n (ms.take (j + 1)) = slp o n (ms.take j) ++ sst o n p := by
  unfold slp
  rw [List.take_add_one, h, List.map_append, List.flatten_append]
  simp
theorem slp_len (o n : List Int) : ∀ ms : List IP, (slp o n ms).length ≤ ms.length
  | [] => Nat.le_refl _
  | p :: r => by
    have h1 := slp_len o n r
    have h2 : (sst o n p).length ≤ 1 := by unfold sst; split <;> simp
    show ((sst o n p) ++ slp o n r).length ≤ r.length + 1
    rw [List.length_append]
    omega
/-- lost items -/
def lst1 (o : List Int) (ms : List IP) (x : Int) (j : Nat) : List Int := if x ∈ o ∧ (((o.idxOf x : Nat) : Int), (j : Int)) ∉ ms then [x] else []
def lsts (o n : List Int) (ms : List IP) : List Int := (n.mapIdx fun j x => lst1 o ms x j).flatten
theorem lsts_step (o : List Int) (ms : List IP) {n : List Int} {j : Nat} {x : Int} (h : n[j]? = some x) : lsts o (n.take (j + 1)) ms = lsts o (n.take j) ms ++ lst1 o ms x j := by
  have hj : j < n.length := (List.getElem?_eq_some_iff.mp h).1
  unfold lsts
  rw [List.take_add_one, h]
  show (List.mapIdx _ (List.take j n ++ [x])).flatten = _
  rw [List.mapIdx_append, List.flatten_append]
  congr 1
  rw [List.length_take, Nat.min_eq_left (Nat.le_of_lt hj)]
  show [lst1 o ms x (0 + j)].flatten = _
  rw [Nat.zero_add]
  simp
theorem lsts_len (o n : List Int) (ms : List IP) : (lsts o n ms).length ≤ n.length := by
  suffices h : ∀ k, k ≤ n.length → (lsts o (n.take k) ms).length ≤ k by
    have := h n.length (Nat.le_refl _)
    rw [List.take_length] at this
    exact this
  intro k
  induction k with
  | zero => intro _; simp [lsts]
  | succ k ih =>
    intro h
    rw [lsts_step o ms (List.getElem?_eq_getElem (by omega : k < n.length)), List.length_append]
    have := ih (by omega)
    have : (lst1 o ms n[k] k).length ≤ 1 := by unfold lst1; split <;> simp
    omega
/-- deep facts of pairs -/
theorem pD_lay (p : IP) : (pD p).canLay0 = true := by simp [pD, PyData.canLay0, PyData.canLayAll0]
theorem pD_depth (p : IP) : (pD p).depth = 1 := by simp [pD, PyData.depth, PyData.depthAll]
theorem pDs_lay : ∀ ps : List IP, PyData.canLayAll0 (ps.map pD) = true
  | [] => rfl
  | p :: r => by simp [PyData.canLayAll0, pD_lay p, pDs_lay r]
theorem pDs_depth : ∀ ps : List IP, PyData.depthAll (ps.map pD) ≤ 1
  | [] => Nat.zero_le _
  | p :: r => by
    have := pDs_depth r
    simp only [List.map_cons, PyData.depthAll, pD_depth p]
    omega
theorem pD_shaped (p : IP) : SeqAt.shaped (pD p) = true := by
  refine Bool.and_eq_true_iff.mpr ⟨pD_lay p, decide_eq_true ?_⟩
  rw [pD_depth]
  decide
theorem pDs_shapedL (ps : List IP) : SeqAt.shaped (.list (ps.map pD)) = true := by
  refine Bool.and_eq_true_iff.mpr ⟨by simp [PyData.canLay0, pDs_lay ps], decide_eq_true ?_⟩
  have := pDs_depth ps
  simp only [PyData.depth]
  omega
theorem pDs_shapedT (ps : List IP) : SeqAt.shaped (.tuple (ps.map pD)) = true := by
  refine Bool.and_eq_true_iff.mpr ⟨by simp [PyData.canLay0, pDs_lay ps], decide_eq_true ?_⟩
  have := pDs_depth ps
  simp only [PyData.depth]
  omega
theorem pD_eqv (p q : IP) : PyData.eqv (pD p) (pD q) = decide (p = q) := by
  simp only [pD, PyData.eqv, PyData.eqvAll, Bool.and_true]
  rw [Bool.eq_iff_iff]
  simp only [Bool.and_eq_true, decide_eq_true_iff, beq_iff_eq, Prod.ext_iff]
theorem pD_any (ps : List IP) (p : IP) : ((ps.map pD).any fun z => PyData.eqv z (pD p)) = decide (p ∈ ps) := by
  rw [List.any_map, Bool.eq_iff_iff, List.any_eq_true, decide_eq_true_iff]
  constructor
  · rintro ⟨x, hx, e⟩
    have e' : PyData.eqv (pD x) (pD p) = true := e
    rw [pD_eqv, decide_eq_true_iff] at e'
    rw [← e']
    exact hx
  · intro h
    exact ⟨p, h, by show PyData.eqv (pD p) (pD p) = true; rw [pD_eqv]; exact decide_eq_true rfl⟩
end D
namespace D
open PySem PySem.Spec PyProof.Rows L2
/-! ### a list of data that grows beside -/
def Acc (M : Ms) (H : Hp) (D : Addr) (H' : Hp) (ys : List PyData) : Prop := H D = none ∧ Same H H' ∧ ∃ acc, H' D = some (.lst acc) ∧ RpAll (also M D) H' acc ys
theorem Acc.new {M : Ms} {H : Hp} {D : Addr} (hD : H D = none) : Acc M H D (upd H D (.lst [])) [] := ⟨hD, same_new hD, [], upd_same, .nil⟩
theorem Acc.keep {M : Ms} {H H1 H2 : Hp} {D : Addr} {ys : List PyData} (h : Acc M H D H1 ys) (s : Same H1 H2) : Acc M H D H2 ys := by
  obtain ⟨hD, s0, acc, e, r⟩ := h
  exact ⟨hD, s0.trans s, acc, s _ _ e, r.sx (Sx.same s)⟩
theorem Acc.same {M : Ms} {H H1 : Hp} {D : Addr} {ys : List PyData} (h : Acc M H D H1 ys) : Same H H1 := h.2.1
theorem Acc.at {M : Ms} {H H1 : Hp} {D : Addr} {ys : List PyData} (h : Acc M H D H1 ys) : ∃ acc, H1 D = some (.lst acc) ∧ acc.length = ys.length := by
  obtain ⟨hD, s0, acc, e, r⟩ := h
  exact ⟨acc, e, r.length⟩
theorem Acc.put {M : Ms} {H H1 : Hp} {D : Addr} {ys : List PyData} {v : V} {y : PyData} (h : Acc M H D H1 ys) (r : Rp (also M D) H1 v y) (hl : ys.length ≤ 1000000) : ∃ acc, H1 D = some (.lst acc) ∧ acc.length < sizeLine ∧ Acc M H D (upd H1 D (.lst (acc ++ [v]))) (ys ++ [y]) := by
  obtain ⟨hD, s0, acc, e, ra⟩ := h
  refine ⟨acc, e, small1000000 (by rw [ra.length]; exact hl), hD, same_put s0 hD, acc ++ [v], upd_same, ?_⟩
  exact (ra.append (.one r)).sx (Sx.put (.inr rfl))
theorem Acc.mk {M : Ms} {H H1 : Hp} {D : Addr} {ys : List PyData} (h : Acc M H D H1 ys) (hM : Mk M H) : Mk (also M D) H1 := by
  obtain ⟨hD, s0, acc, e, r⟩ := h
  exact (hM.gr (Gr.same s0)).also (ne_none e)
theorem Acc.fin {M : Ms} {H H1 : Hp} {D : Addr} {ys : List PyData} (h : Acc M H D H1 ys) (hM : Mk M H) : Ld M H1 D ys := by
  obtain ⟨hD, s0, acc, e, r⟩ := h
  exact ⟨hM.out hD, acc, e, r.less also_le⟩
theorem Acc.rp {M : Ms} {H H1 : Hp} {D : Addr} {ys : List PyData} (h : Acc M H D H1 ys) (hM : Mk M H) : Rp M H1 (.ref D) (.list ys) := (h.fin hM).rp
/-- what stood ahead is read in the same way beside the list -/
theorem Acc.old {M : Ms} {H H1 : Hp} {D : Addr} {ys : List PyData} {v : V} {d : PyData} (h : Acc M H D H1 ys) (r : Rp M H v d) : Rp (also M D) H1 v d := (r.fresh h.1).sx (Sx.same h.2.1)
theorem Acc.oldM {M : Ms} {H H1 : Hp} {D : Addr} {ys : List PyData} {v : V} {d : PyData} (h : Acc M H D H1 ys) (r : Rp M H v d) : Rp M H1 v d := r.sx (Sx.same h.2.1)
end D
namespace D
open PySem PySem.Spec PyProof.Rows L2
theorem Rp.newT {M : Ms} {H : Hp} {p : Addr} {us : List V} {ds : List PyData} (hM : Mk M H) (hp : H p = none) (r : RpAll M H us ds) : Rp M (upd H p (.tup us)) (.ref p) (.tuple ds) := .tup (hM.out hp) (.inl upd_same) (r.sx (Sx.new hp))
theorem Rp.newL {M : Ms} {H : Hp} {p : Addr} {us : List V} {ds : List PyData} (hM : Mk M H) (hp : H p = none) (r : RpAll M H us ds) : Rp M (upd H p (.lst us)) (.ref p) (.list ds) := .lst (hM.out hp) (.inl upd_same) (r.sx (Sx.new hp))
theorem Mk.new {M : Ms} {H : Hp} {p : Addr} {o : HO} (hM : Mk M H) : Mk M (upd H p o) := hM.gr Gr.upd
def unI : PyData → Int
  | .int i => i
  | _ => 0
theorem perm_ints {es : List PyData} {l : List Int} (h : es.Perm (l.map PyData.int)) : ∃ ns : List Int, ns.Perm l ∧ es = ns.map PyData.int := by
  refine ⟨es.map unI, ?_, ?_⟩
  · have h1 := h.map unI
    rw [List.map_map] at h1
    have e : l.map (unI ∘ PyData.int) = l := by
      have : (unI ∘ PyData.int) = id := rfl
      rw [this, List.map_id]
    rw [e] at h1
    exact h1
  · rw [List.map_map]
    have e : ∀ x ∈ es, (PyData.int ∘ unI) x = x := fun x hx => by
      obtain ⟨i, _, rfl⟩ := List.mem_map.mp (h.mem_iff.mp hx)
      rfl
    exact (List.map_id es).symm.trans (List.map_congr_left fun x hx => (e x hx).symm)
def ten : List Int := [0, 1, 2, 3, 4, 5, 6, 7, 8, 9]
theorem ten_take (n : Nat) : (ten.take n).Nodup ∧ ∀ x ∈ ten.take n, 0 ≤ x ∧ x ≤ 9 :=
  ⟨(show ten.Nodup by decide).sublist (List.take_sublist n ten), fun x hx => (show ∀ x ∈ ten, 0 ≤ x ∧ x ≤ 9 by decide) x (List.mem_of_mem_take hx)⟩
def mxd (m : Nat) (s : Fm) : Nat := max m s.dep
theorem FmAt.two {M : Ms} {H : Hp} {f : Fm} {xs : List V} (h : FmAt M H f xs) : (∃ y z, xs = [.str y, z] ∧ (y = sIs ∨ y = sGet) ∧ f.dep = 1) ∨ ∃ y r, xs = .str y :: r ∧ r ≠ [] ∧ y ≠ sIs ∧ y ≠ sGet ∧ RpAll M H r (f.subs.map Fm.enc) ∧ f.dep = f.subs.foldl mxd 0 + 1 := by
  cases h with
  | is n => exact .inl ⟨_, _, rfl, .inl rfl, rfl⟩
  | get x => exact .inl ⟨_, _, rfl, .inr rfl, rfl⟩
  | @sum f g u w a b =>
    refine .inr ⟨_, _, rfl, by simp, by decide +kernel, by decide +kernel, .cons a (.one b), ?_⟩
    show max f.dep g.dep + 1 = max (max 0 f.dep) g.dep + 1
    omega
  | @same f g u w a b =>
    refine .inr ⟨_, _, rfl, by simp, by decide +kernel, by decide +kernel, .cons a (.one b), ?_⟩
    show max f.dep g.dep + 1 = max (max 0 f.dep) g.dep + 1
    omega
  | @pick f g k u w z a b c =>
    refine .inr ⟨_, _, rfl, by simp, by decide +kernel, by decide +kernel, .cons a (.cons b (.one c)), ?_⟩
    show max f.dep (max g.dep k.dep) + 1 = max (max (max 0 f.dep) g.dep) k.dep + 1
    omega
theorem ints_mem {l : List Int} (h : ∀ n ∈ l, 0 ≤ n ∧ n ≤ 9) {v : V} (hv : v ∈ l.map V.int) : ∃ n, v = .int n ∧ 0 ≤ n ∧ n ≤ 9 := by
  obtain ⟨n, hn, rfl⟩ := List.mem_map.mp hv
  exact ⟨n, rfl, h n hn⟩
/-- a draw of a row -/
def DrR (K : PySem.W.Frag) (M : Ms) (b : Addr) (H : Hp) (R : List Int → Prop) (Q : VK) : Prop := ∀ v H' ns, Sx (one b) H H' → Gr H H' → Bag K M H' b → RowF M H' v ns → R ns → Q v H'
end D

namespace D
open PySem PySem.Spec PyProof.Rows L2
local macro_rules | `(tactic| walk_at "st") => `(tactic| first | exact SqT.of (by assumption) | exact Or.inl (by assumption) | exact SqT.of upd_same | fail "st")
local macro_rules | `(tactic| walk_at "ixt") => `(tactic| refine ⟨_, _, _, _, rfl, rfl, (by walk_at "st" : SqT _ _ _ _), by rfl, ?_⟩)
local macro_rules | `(tactic| walk_at "sq") => `(tactic| first | exact SqL.of (by assumption) | assumption | exact Or.inl (by assumption) | exact SqL.of upd_same | fail "sq")
local macro_rules | `(tactic| walk_at "ix") => `(tactic| refine ⟨_, _, _, _, rfl, rfl, (by walk_at "sq" : SqL _ _ _ _), by rfl, ?_⟩)
local macro_rules | `(tactic| walk_at "set") => `(tactic| refine ⟨_, _, _, _, rfl, rfl, by first | assumption | exact upd_same, by rfl, ?_⟩)
local macro_rules | `(tactic| walk_at "len") => `(tactic| refine ⟨_, _, rfl, Or.inl (by walk_at "sq" : SqL _ _ _ _), ?_⟩)
local macro_rules | `(tactic| walk_at "g") => `(tactic| repeat (first | refine ⟨_, rfl, ?_⟩ | refine ⟨_, _, rfl, rfl, ?_⟩ | refine ⟨Or.inr (by decide), ?_⟩ | refine ⟨Or.inl (by decide), ?_⟩ | refine ⟨(by decide : (0 : Int) < _), ?_⟩ | refine ⟨(⟨by decide, by decide⟩ : CDiv _ _), ?_⟩ | refine ⟨(⟨by decide, by decide, by decide⟩ : CPow _ _), ?_⟩ | refine Or.inl ⟨_, rfl, ?_⟩ | refine ⟨rfl, ?_⟩ | walk_at "ix" | walk_at "ixt" | walk_at "len" | fail "g"))
local macro_rules | `(tactic| walk_at "if") => `(tactic| refine ite2 (fun e => ?_) (fun e => ?_))
def topS (i : Nat) : Stmt := PySem.Challenge.pw_drawnanew_k23_idents.main.body.getD i (.Pass ⟨0, 0, 0, 0⟩)
abbrev s_BadForm___init__ : Stmt := inClass (topS 2) 0
theorem sc_BadForm___init__ : FnScope ["self", "part"] ["self", "part"] (defScope s_BadForm___init__) := ⟨rfl, rfl, rfl, by decide +kernel, rfl, by decide +kernel, by decide +kernel⟩
abbrev s_NoName___init__ : Stmt := inClass (topS 3) 0
theorem sc_NoName___init__ : FnScope ["self", "name"] ["self", "name"] (defScope s_NoName___init__) := ⟨rfl, rfl, rfl, by decide +kernel, rfl, by decide +kernel, by decide +kernel⟩
abbrev s_BadRow___init__ : Stmt := inClass (topS 4) 0
theorem sc_BadRow___init__ : FnScope ["self", "row"] ["self", "row"] (defScope s_BadRow___init__) := ⟨rfl, rfl, rfl, by decide +kernel, rfl, by decide +kernel, by decide +kernel⟩
abbrev s_is_whole : Stmt := topS 9
theorem sc_is_whole : FnScope ["thing"] ["thing"] (defScope s_is_whole) := ⟨rfl, rfl, rfl, by decide +kernel, rfl, by decide +kernel, by decide +kernel⟩
abbrev s_is_value : Stmt := topS 10
theorem sc_is_value : FnScope ["thing"] ["thing"] (defScope s_is_value) := ⟨rfl, rfl, rfl, by decide +kernel, rfl, by decide +kernel, by decide +kernel⟩
abbrev s_is_name : Stmt := topS 11
theorem sc_is_name : FnScope ["thing", "sign"] ["thing"] (defScope s_is_name) := ⟨rfl, rfl, rfl, by decide +kernel, rfl, by decide +kernel, by decide +kernel⟩
abbrev s_inner_forms : Stmt := topS 12
theorem sc_inner_forms : FnScope ["form"] ["form"] (defScope s_inner_forms) := ⟨rfl, rfl, rfl, by decide +kernel, rfl, by decide +kernel, by decide +kernel⟩
abbrev s__well_made : Stmt := topS 13
theorem sc__well_made : FnScope ["part"] ["part"] (defScope s__well_made) := ⟨rfl, rfl, rfl, by decide +kernel, rfl, by decide +kernel, by decide +kernel⟩
abbrev s_check_form : Stmt := topS 14
theorem sc_check_form : FnScope ["parts", "deepest", "waiting", "part", "level", "inner", "form"] ["parts"] (defScope s_check_form) := ⟨rfl, rfl, rfl, by decide +kernel, rfl, by decide +kernel, by decide +kernel⟩
abbrev s_value_of : Stmt := topS 15
theorem sc_value_of : FnScope ["form", "values", "word", "first", "second"] ["form", "values"] (defScope s_value_of) := ⟨rfl, rfl, rfl, by decide +kernel, rfl, by decide +kernel, by decide +kernel⟩
abbrev s_names_in : Stmt := topS 16
theorem sc_names_in : FnScope ["form", "names", "inner", "name"] ["form"] (defScope s_names_in) := ⟨rfl, rfl, rfl, by decide +kernel, rfl, by decide +kernel, by decide +kernel⟩
abbrev s_is_row : Stmt := topS 19
theorem sc_is_row : FnScope ["thing", "item"] ["thing"] (defScope s_is_row) := ⟨rfl, rfl, rfl, by decide +kernel, rfl, by decide +kernel, by decide +kernel⟩
abbrev s_check_rows : Stmt := topS 20
theorem sc_check_rows : FnScope ["rows", "row"] ["rows"] (defScope s_check_rows) := ⟨rfl, rfl, rfl, by decide +kernel, rfl, by decide +kernel, by decide +kernel⟩
abbrev s__key_value : Stmt := topS 21
theorem sc__key_value : FnScope ["parts", "item", "at"] ["parts", "item", "at"] (defScope s__key_value) := ⟨rfl, rfl, rfl, by decide +kernel, rfl, by decide +kernel, by decide +kernel⟩
abbrev s_Key___init__ : Stmt := inClass (topS 22) 0
theorem sc_Key___init__ : FnScope ["self", "form", "name"] ["self", "form"] (defScope s_Key___init__) := ⟨rfl, rfl, rfl, by decide +kernel, rfl, by decide +kernel, by decide +kernel⟩
abbrev s_Key_parts : Stmt := inClass (topS 22) 1
theorem sc_Key_parts : FnScope ["self"] ["self"] (defScope s_Key_parts) := ⟨rfl, rfl, rfl, by decide +kernel, rfl, by decide +kernel, by decide +kernel⟩
abbrev s_Key___call__ : Stmt := inClass (topS 22) 2
theorem sc_Key___call__ : FnScope ["self", "item", "at"] ["self", "item", "at"] (defScope s_Key___call__) := ⟨rfl, rfl, rfl, by decide +kernel, rfl, by decide +kernel, by decide +kernel⟩
abbrev s_Key___le__ : Stmt := inClass (topS 22) 3
theorem sc_Key___le__ : FnScope ["self", "other", "values", "told", "item", "at", "first", "second"] ["self", "other"] (defScope s_Key___le__) := ⟨rfl, rfl, rfl, by decide +kernel, rfl, by decide +kernel, by decide +kernel⟩
abbrev s_Key_idents : Stmt := inClass (topS 22) 4
theorem sc_Key_idents : FnScope ["self", "row"] ["self", "row"] (defScope s_Key_idents) := ⟨rfl, rfl, rfl, by decide +kernel, rfl, by decide +kernel, by decide +kernel⟩
abbrev s__idents : Stmt := topS 23
theorem sc__idents : FnScope ["key", "row", "values", "at", "item", "value"] ["key", "row"] (defScope s__idents) := ⟨rfl, rfl, rfl, by decide +kernel, rfl, by decide +kernel, by decide +kernel⟩
abbrev s__law_mixed : Stmt := topS 25
theorem sc__law_mixed : FnScope ["_law_number_here", "_law_turn", "_law_first", "_law_second"] ["_law_number_here", "_law_turn"] (defScope s__law_mixed) := ⟨rfl, rfl, rfl, by decide +kernel, rfl, by decide +kernel, by decide +kernel⟩
abbrev s__law_bag : Stmt := topS 26
theorem sc__law_bag : FnScope ["_law_script", "_law_cell", "_law_numbers", "_law_seed", "_law_at"] ["_law_script"] (defScope s__law_bag) := ⟨rfl, rfl, rfl, by decide +kernel, rfl, by decide +kernel, by decide +kernel⟩
abbrev s__law_pick : Stmt := topS 27
theorem sc__law_pick : FnScope ["_law_bag_here", "_law_many", "_law_turn", "_law_cell", "_law_worth"] ["_law_bag_here", "_law_many"] (defScope s__law_pick) := ⟨rfl, rfl, rfl, by decide +kernel, rfl, by decide +kernel, by decide +kernel⟩
abbrev s__law_choice : Stmt := topS 28
theorem sc__law_choice : FnScope ["_law_bag_here", "_law_things"] ["_law_bag_here", "_law_things"] (defScope s__law_choice) := ⟨rfl, rfl, rfl, by decide +kernel, rfl, by decide +kernel, by decide +kernel⟩
abbrev s__law_mingled : Stmt := topS 29
theorem sc__law_mingled : FnScope ["_law_bag_here", "_law_things", "_law_left", "_law_out", "_law_step"] ["_law_bag_here", "_law_things"] (defScope s__law_mingled) := ⟨rfl, rfl, rfl, by decide +kernel, rfl, by decide +kernel, by decide +kernel⟩
abbrev s__law_number : Stmt := topS 30
theorem sc__law_number : FnScope ["_law_thing"] ["_law_thing"] (defScope s__law_number) := ⟨rfl, rfl, rfl, by decide +kernel, rfl, by decide +kernel, by decide +kernel⟩
abbrev s__law_form : Stmt := topS 31
theorem sc__law_form : FnScope ["_law_bag_here", "_law_readable", "_law_levels_here", "_law_way", "_law_first", "_law_second"] ["_law_bag_here", "_law_readable", "_law_levels_here"] (defScope s__law_form) := ⟨rfl, rfl, rfl, by decide +kernel, rfl, by decide +kernel, by decide +kernel⟩
abbrev s__law_value : Stmt := topS 32
theorem sc__law_value : FnScope ["_law_form_here", "_law_worths", "_law_word", "_law_first", "_law_second"] ["_law_form_here", "_law_worths"] (defScope s__law_value) := ⟨rfl, rfl, rfl, by decide +kernel, rfl, by decide +kernel, by decide +kernel⟩
abbrev s__law_idents : Stmt := topS 33
theorem sc__law_idents : FnScope ["_law_key", "_law_row_here", "_law_out", "_law_at", "_law_item", "_law_worth", "_law_told"] ["_law_key", "_law_row_here"] (defScope s__law_idents) := ⟨rfl, rfl, rfl, by decide +kernel, rfl, by decide +kernel, by decide +kernel⟩
abbrev s__law_row : Stmt := topS 34
theorem sc__law_row : FnScope ["_law_bag_here", "_law_most", "_law_items"] ["_law_bag_here", "_law_most"] (defScope s__law_row) := ⟨rfl, rfl, rfl, by decide +kernel, rfl, by decide +kernel, by decide +kernel⟩
abbrev s__law_any_key : Stmt := topS 35
theorem sc__law_any_key : FnScope ["_law_bag_here", "_law_way", "_law_worth", "_law_spot", "_law_item"] ["_law_bag_here"] (defScope s__law_any_key) := ⟨rfl, rfl, rfl, by decide +kernel, rfl, by decide +kernel, by decide +kernel⟩
abbrev s__law_levels : Stmt := topS 36
theorem sc__law_levels : FnScope ["_law_form_here", "_law_deepest", "_law_part", "_law_levels_here"] ["_law_form_here"] (defScope s__law_levels) := ⟨rfl, rfl, rfl, by decide +kernel, rfl, by decide +kernel, by decide +kernel⟩
abbrev s__law_bent : Stmt := topS 37
theorem sc__law_bent : FnScope ["_law_bag_here", "_law_form_here", "_law_worth", "_law_spot", "_law_inner"] ["_law_bag_here", "_law_form_here"] (defScope s__law_bent) := ⟨rfl, rfl, rfl, by decide +kernel, rfl, by decide +kernel, by decide +kernel⟩
abbrev s__law_at_most : Stmt := topS 38
theorem sc__law_at_most : FnScope ["_law_first", "_law_second", "_law_ones", "_law_twos", "_law_item", "_law_at", "_law_here", "_law_there"] ["_law_first", "_law_second"] (defScope s__law_at_most) := ⟨rfl, rfl, rfl, by decide +kernel, rfl, by decide +kernel, by decide +kernel⟩
abbrev s__law_told_pairs : Stmt := topS 39
theorem sc__law_told_pairs : FnScope ["_law_told", "_law_due", "_law_at", "_law_pair"] ["_law_told", "_law_due"] (defScope s__law_told_pairs) := ⟨rfl, rfl, rfl, by decide +kernel, rfl, by decide +kernel, by decide +kernel⟩
abbrev s__law_table : Stmt := topS 40
theorem sc__law_table : FnScope ["_law_key", "_law_form_here", "_law_item", "_law_at", "_law_told"] ["_law_key", "_law_form_here"] (defScope s__law_table) := ⟨rfl, rfl, rfl, by decide +kernel, rfl, by decide +kernel, by decide +kernel⟩
abbrev s_law : Stmt := topS 41
theorem sc_law : FnScope ["_law_script", "_law_bag_here", "_law_forms", "_law_both", "_law_rows", "_law_which", "_law_row_here", "_law_one", "_law_two", "_law_told", "_law_form_here"] ["_law_script"] (defScope s_law) := ⟨rfl, rfl, rfl, by decide +kernel, rfl, by decide +kernel, by decide +kernel⟩

structure Txt (K : PySem.W.Frag) (mg : Str → Option Value) where
  f_is_whole : Addr
  d_is_whole : FuncData
  F_is_whole : Fun K "is_whole" "is_whole" s_is_whole f_is_whole d_is_whole
  b_is_whole : Binds K d_is_whole ["thing"] []
  g_is_whole : mg "is_whole" = some (.ref f_is_whole)
  f_is_value : Addr
  d_is_value : FuncData
  F_is_value : Fun K "is_value" "is_value" s_is_value f_is_value d_is_value
  b_is_value : Binds K d_is_value ["thing"] []
  g_is_value : mg "is_value" = some (.ref f_is_value)
  f_is_name : Addr
  d_is_name : FuncData
  F_is_name : Fun K "is_name" "is_name" s_is_name f_is_name d_is_name
  b_is_name : Binds K d_is_name ["thing"] []
  g_is_name : mg "is_name" = some (.ref f_is_name)
  f_inner_forms : Addr
  d_inner_forms : FuncData
  F_inner_forms : Fun K "inner_forms" "inner_forms" s_inner_forms f_inner_forms d_inner_forms
  b_inner_forms : Binds K d_inner_forms ["form"] []
  g_inner_forms : mg "inner_forms" = some (.ref f_inner_forms)
  f__well_made : Addr
  d__well_made : FuncData
  F__well_made : Fun K "_well_made" "_well_made" s__well_made f__well_made d__well_made
  b__well_made : Binds K d__well_made ["part"] []
  g__well_made : mg "_well_made" = some (.ref f__well_made)
  f_check_form : Addr
  d_check_form : FuncData
  F_check_form : Fun K "check_form" "check_form" s_check_form f_check_form d_check_form
  b_check_form : Binds K d_check_form ["parts"] []
  g_check_form : mg "check_form" = some (.ref f_check_form)
  f_value_of : Addr
  d_value_of : FuncData
  F_value_of : Fun K "value_of" "value_of" s_value_of f_value_of d_value_of
  b_value_of : Binds K d_value_of ["form", "values"] []
  g_value_of : mg "value_of" = some (.ref f_value_of)
  f_names_in : Addr
  d_names_in : FuncData
  F_names_in : Fun K "names_in" "names_in" s_names_in f_names_in d_names_in
  b_names_in : Binds K d_names_in ["form"] []
  g_names_in : mg "names_in" = some (.ref f_names_in)
  f_is_row : Addr
  d_is_row : FuncData
  F_is_row : Fun K "is_row" "is_row" s_is_row f_is_row d_is_row
  b_is_row : Binds K d_is_row ["thing"] []
  g_is_row : mg "is_row" = some (.ref f_is_row)
  f_check_rows : Addr
  d_check_rows : FuncData
  F_check_rows : Fun K "check_rows" "check_rows" s_check_rows f_check_rows d_check_rows
  b_check_rows : Binds K d_check_rows ["rows"] []
  g_check_rows : mg "check_rows" = some (.ref f_check_rows)
  f__key_value : Addr
  d__key_value : FuncData
  F__key_value : Fun K "_key_value" "_key_value" s__key_value f__key_value d__key_value
  b__key_value : Binds K d__key_value ["parts", "item", "at"] []
  g__key_value : mg "_key_value" = some (.ref f__key_value)
  f__idents : Addr
  d__idents : FuncData
  F__idents : Fun K "_idents" "_idents" s__idents f__idents d__idents
  b__idents : Binds K d__idents ["key", "row"] []
  g__idents : mg "_idents" = some (.ref f__idents)
  f__law_mixed : Addr
  d__law_mixed : FuncData
  F__law_mixed : Fun K "_law_mixed" "_law_mixed" s__law_mixed f__law_mixed d__law_mixed
  b__law_mixed : Binds K d__law_mixed ["_law_number_here", "_law_turn"] []
  g__law_mixed : mg "_law_mixed" = some (.ref f__law_mixed)
  f__law_bag : Addr
  d__law_bag : FuncData
  F__law_bag : Fun K "_law_bag" "_law_bag" s__law_bag f__law_bag d__law_bag
  b__law_bag : Binds K d__law_bag ["_law_script"] []
  g__law_bag : mg "_law_bag" = some (.ref f__law_bag)
  f__law_pick : Addr
  d__law_pick : FuncData
  F__law_pick : Fun K "_law_pick" "_law_pick" s__law_pick f__law_pick d__law_pick
  b__law_pick : Binds K d__law_pick ["_law_bag_here", "_law_many"] []
  g__law_pick : mg "_law_pick" = some (.ref f__law_pick)
  f__law_choice : Addr
  d__law_choice : FuncData
  F__law_choice : Fun K "_law_choice" "_law_choice" s__law_choice f__law_choice d__law_choice
  b__law_choice : Binds K d__law_choice ["_law_bag_here", "_law_things"] []
  g__law_choice : mg "_law_choice" = some (.ref f__law_choice)
  f__law_mingled : Addr
  d__law_mingled : FuncData
  F__law_mingled : Fun K "_law_mingled" "_law_mingled" s__law_mingled f__law_mingled d__law_mingled
  b__law_mingled : Binds K d__law_mingled ["_law_bag_here", "_law_things"] []
  g__law_mingled : mg "_law_mingled" = some (.ref f__law_mingled)
  f__law_number : Addr
  d__law_number : FuncData
  F__law_number : Fun K "_law_number" "_law_number" s__law_number f__law_number d__law_number
  b__law_number : Binds K d__law_number ["_law_thing"] []
  g__law_number : mg "_law_number" = some (.ref f__law_number)
  f__law_form : Addr
  d__law_form : FuncData
  F__law_form : Fun K "_law_form" "_law_form" s__law_form f__law_form d__law_form
  b__law_form : Binds K d__law_form ["_law_bag_here", "_law_readable", "_law_levels_here"] []
  g__law_form : mg "_law_form" = some (.ref f__law_form)
  f__law_value : Addr
  d__law_value : FuncData
  F__law_value : Fun K "_law_value" "_law_value" s__law_value f__law_value d__law_value
  b__law_value : Binds K d__law_value ["_law_form_here", "_law_worths"] []
  g__law_value : mg "_law_value" = some (.ref f__law_value)
  f__law_idents : Addr
  d__law_idents : FuncData
  F__law_idents : Fun K "_law_idents" "_law_idents" s__law_idents f__law_idents d__law_idents
  b__law_idents : Binds K d__law_idents ["_law_key", "_law_row_here"] []
  g__law_idents : mg "_law_idents" = some (.ref f__law_idents)
  f__law_row : Addr
  d__law_row : FuncData
  F__law_row : Fun K "_law_row" "_law_row" s__law_row f__law_row d__law_row
  b__law_row : Binds K d__law_row ["_law_bag_here", "_law_most"] []
  g__law_row : mg "_law_row" = some (.ref f__law_row)
  f__law_any_key : Addr
  d__law_any_key : FuncData
  F__law_any_key : Fun K "_law_any_key" "_law_any_key" s__law_any_key f__law_any_key d__law_any_key
  b__law_any_key : Binds K d__law_any_key ["_law_bag_here"] []
  g__law_any_key : mg "_law_any_key" = some (.ref f__law_any_key)
  f__law_levels : Addr
  d__law_levels : FuncData
  F__law_levels : Fun K "_law_levels" "_law_levels" s__law_levels f__law_levels d__law_levels
  b__law_levels : Binds K d__law_levels ["_law_form_here"] []
  g__law_levels : mg "_law_levels" = some (.ref f__law_levels)
  f__law_bent : Addr
  d__law_bent : FuncData
  F__law_bent : Fun K "_law_bent" "_law_bent" s__law_bent f__law_bent d__law_bent
  b__law_bent : Binds K d__law_bent ["_law_bag_here", "_law_form_here"] []
  g__law_bent : mg "_law_bent" = some (.ref f__law_bent)
  f__law_at_most : Addr
  d__law_at_most : FuncData
  F__law_at_most : Fun K "_law_at_most" "_law_at_most" s__law_at_most f__law_at_most d__law_at_most
  b__law_at_most : Binds K d__law_at_most ["_law_first", "_law_second"] []
  g__law_at_most : mg "_law_at_most" = some (.ref f__law_at_most)
  f__law_told_pairs : Addr
  d__law_told_pairs : FuncData
  F__law_told_pairs : Fun K "_law_told_pairs" "_law_told_pairs" s__law_told_pairs f__law_told_pairs d__law_told_pairs
  b__law_told_pairs : Binds K d__law_told_pairs ["_law_told", "_law_due"] []
  g__law_told_pairs : mg "_law_told_pairs" = some (.ref f__law_told_pairs)
  f__law_table : Addr
  d__law_table : FuncData
  F__law_table : Fun K "_law_table" "_law_table" s__law_table f__law_table d__law_table
  b__law_table : Binds K d__law_table ["_law_key", "_law_form_here"] []
  g__law_table : mg "_law_table" = some (.ref f__law_table)
  f_law : Addr
  d_law : FuncData
  F_law : Fun K "law" "law" s_law f_law d_law
  b_law : Binds K d_law ["_law_script"] []
  g_law : mg "law" = some (.ref f_law)
  C_Key : Addr
  g_Key : mg "Key" = some (.ref C_Key)
  cl_Key : Cls K C_Key
  mk_Key : PySem.W.makesIn K C_Key = true
  kc_Key : PySem.W.keepIn K (.ref C_Key) = true
  nf_Key : PySem.W.notFirst K C_Key (.ref C_Key) = true
  in_Key : C8.InsC K C_Key
  nA_Key__parts : NoAttr K C_Key "_parts"
  f_Key___init__ : Addr
  d_Key___init__ : FuncData
  F_Key___init__ : Fun K "__init__" "Key.__init__" s_Key___init__ f_Key___init__ d_Key___init__
  b_Key___init__ : Binds K d_Key___init__ ["self", "form"] []
  a_Key___init__ : PySem.W.findIn K (.ref C_Key) "__init__" = some (some (.ref f_Key___init__))
  i_Key___init__ : PySem.W.isFn K (.ref f_Key___init__) = true
  n_Key___init__ : PySem.W.fnIn K f_Key___init__ = true
  f_Key_parts : Addr
  d_Key_parts : FuncData
  F_Key_parts : Fun K "parts" "Key.parts" s_Key_parts f_Key_parts d_Key_parts
  b_Key_parts : Binds K d_Key_parts ["self"] []
  p_Key_parts : Addr
  P_Key_parts : PropOf K C_Key "parts" p_Key_parts f_Key_parts
  f_Key___call__ : Addr
  d_Key___call__ : FuncData
  F_Key___call__ : Fun K "__call__" "Key.__call__" s_Key___call__ f_Key___call__ d_Key___call__
  b_Key___call__ : Binds K d_Key___call__ ["self", "item", "at"] []
  a_Key___call__ : PySem.W.findIn K (.ref C_Key) "__call__" = some (some (.ref f_Key___call__))
  i_Key___call__ : PySem.W.isFn K (.ref f_Key___call__) = true
  n_Key___call__ : PySem.W.fnIn K f_Key___call__ = true
  f_Key___le__ : Addr
  d_Key___le__ : FuncData
  F_Key___le__ : Fun K "__le__" "Key.__le__" s_Key___le__ f_Key___le__ d_Key___le__
  b_Key___le__ : Binds K d_Key___le__ ["self", "other"] []
  a_Key___le__ : PySem.W.findIn K (.ref C_Key) "__le__" = some (some (.ref f_Key___le__))
  i_Key___le__ : PySem.W.isFn K (.ref f_Key___le__) = true
  n_Key___le__ : PySem.W.fnIn K f_Key___le__ = true
  f_Key_idents : Addr
  d_Key_idents : FuncData
  F_Key_idents : Fun K "idents" "Key.idents" s_Key_idents f_Key_idents d_Key_idents
  b_Key_idents : Binds K d_Key_idents ["self", "row"] []
  a_Key_idents : PySem.W.findIn K (.ref C_Key) "idents" = some (some (.ref f_Key_idents))
  i_Key_idents : PySem.W.isFn K (.ref f_Key_idents) = true
  n_Key_idents : PySem.W.fnIn K f_Key_idents = true
  m_ValueError : mg "ValueError" = none
  m_abs : mg "abs" = none
  m_all : mg "all" = none
  m_bool : mg "bool" = none
  m_enumerate : mg "enumerate" = none
  m_int : mg "int" = none
  m_isinstance : mg "isinstance" = none
  m_len : mg "len" = none
  m_list : mg "list" = none
  m_range : mg "range" = none
  m_set : mg "set" = none
  m_str : mg "str" = none
  m_tuple : mg "tuple" = none
  t_MOST_LETTERS : Tok
  c_MOST_LETTERS : mg "MOST_LETTERS" = some (.int 8 t_MOST_LETTERS)
  t_MOST_LEVELS : Tok
  c_MOST_LEVELS : mg "MOST_LEVELS" = some (.int 5 t_MOST_LEVELS)
  t_MOST_ITEMS : Tok
  c_MOST_ITEMS : mg "MOST_ITEMS" = some (.int 5 t_MOST_ITEMS)
section
variable {P : Program} {w : World} {K : PySem.W.Frag} {mg : Str → Option Value} {base : Heap}
def sp_mixed : Sp := fun vs H Q _ => ∃ a t : Int, vs = [.int a, .int t] ∧ ∀ w : Int, 0 ≤ w → Q (.int w) H
theorem ok_mixed (T : Txt K mg) : FnOk P w K mg base CX0 1 T.f__law_mixed T.d__law_mixed ["_law_number_here", "_law_turn"] sp_mixed := by
  refine T.F__law_mixed.ok sc__law_mixed (fun vs H Q E h => ?_) (fun cdv A outer s H vs Q E hr h => ?_)
  · obtain ⟨a, t, rfl, _⟩ := h
    rfl
  · obtain ⟨a, t, rfl, q⟩ := h
    refine ⟨_, (pss_cons (ps_set (i := 2) sc__law_mixed.nd rfl (Or.inl rfl) (pe_op op_mod (pe_callTy call_int1 (by rfl) T.m_int (by decide +kernel) (pa_cons (pe_op op_add (pe_op op_mul (pe_op op_add (pv 0) pe_int) pe_int) (pe_op op_mul (pe_op op_add (pv 1) pe_int) pe_int)) pa_nil)) pe_int))
      (pss_cons (ps_set (i := 3) sc__law_mixed.nd rfl (Or.inl rfl) (pe_op op_mod (pe_callTy call_int1 (by rfl) T.m_int (by decide +kernel) (pa_cons (pe_op op_add (pe_op op_add (pe_op op_mul (pv 2) (pv 2)) (pe_op op_mul (pv 2) pe_int)) (pe_op op_mul (pe_op op_add (pv 1) pe_int) pe_int)) pa_nil)) pe_int))
      (pss_one (ps_ret (pe_op op_mod (pe_callTy call_int1 (by rfl) T.m_int (by decide +kernel) (pa_cons (pe_op op_add (pe_op op_add (pe_op op_fdiv (pv 3) pe_int) (pe_op op_mul (pv 3) pe_int)) (pv 1)) pa_nil)) pe_int))))), ?_⟩
    walk_at "g"
    have h0 := Int.emod_nonneg ((a + 1) * 48271 + (t + 1) * 1103515245) (by decide : (2147483647 : Int) ≠ 0)
    have h1 := Int.emod_lt_of_pos ((a + 1) * 48271 + (t + 1) * 1103515245) (by decide : (0 : Int) < 2147483647)
    refine ⟨Or.inr ⟨by omega, by omega⟩, ?_⟩
    walk_at "g"
    refine q _ (Int.emod_nonneg _ (by decide))
/-- the bag is made -/
def sp_bag (K : PySem.W.Frag) : Sp := fun vs H Q _ => ∃ (a : Addr) (ns : List Int), vs = [.ref a] ∧ SqL K H a (ns.map V.int) ∧ ns.length ≤ 63 ∧
  ∀ b H', Same H H' → H b = none → Bag K (one b) H' b → Q (.ref b) H'
theorem ok_bag (T : Txt K mg) : FnOk P w K mg base CX0 1 T.f__law_bag T.d__law_bag ["_law_script"] (sp_bag K) := by
  refine T.F__law_bag.ok sc__law_bag (fun vs H Q E h => ?_) (fun cdv A outer s H vs Q E hr h => ?_)
  · obtain ⟨a, t, rfl, _⟩ := h
    rfl
  · obtain ⟨a, ns, rfl, hS, hlen, q⟩ := h
    refine ⟨_, (pss_cons (ps_setLc (i := 2) (own := [("_law_cell", 1)]) (g := gName 1) (tt := tYes) (by rfl) sc__law_bag.nd rfl rfl (sw_true rfl rfl rfl (by decide +kernel)) (pi_listK (K := K) rfl (pv 0)) (blkOk_by (own := [("_law_cell", 1)]) (N := ["_law_script", "_law_cell", "_law_numbers", "_law_seed", "_law_at"]) (sc := defScope s__law_bag) (by decide +kernel)) (fun _ _ _ _ _ => (pg_name (i := 1) sc__law_bag.nd rfl (Or.inl rfl))) (fun _ _ _ _ _ => pts_nil) (fun _ _ _ _ _ => (pe_callTy call_int1 (by rfl) T.m_int (by decide +kernel) (pa_cons (pv 1) pa_nil))))
      (pss_cons (ps_set (i := 3) sc__law_bag.nd rfl (Or.inl rfl) (pe_callB (call_lenK (K := K) rfl) (by rfl) T.m_len PySem.boot_len (pa_cons (pv 2) pa_nil)))
      (pss_cons (ps_for PassesOwn.never rfl (pi_enumK (K := K) rfl (by rfl) T.m_enumerate (pa_cons (pe_slice (sl_listK (K := K) rfl) (pv 2) po_none (po_some pe_int)) pa_nil)) (pg_tupK (K := K) rfl rfl (pgs_cons (pg_name (i := 4) sc__law_bag.nd rfl (Or.inl rfl)) (pgs_cons (pg_name (i := 1) sc__law_bag.nd rfl (Or.inl rfl)) pgs_nil))) (pss_one (ps_set (i := 3) sc__law_bag.nd rfl (Or.inl rfl) (pe_op op_mod (pe_callTy call_int1 (by rfl) T.m_int (by decide +kernel) (pa_cons (pe_op op_add (pe_op op_add (pe_op op_mul (pv 3) pe_int) (pe_op op_mod (pe_callTy call_int1 (by rfl) T.m_int (by decide +kernel) (pa_cons (pe_callB call_abs (by rfl) T.m_abs (by decide +kernel) (pa_cons (pv 1) pa_nil)) pa_nil)) pe_int)) (pe_op op_mul_ib (pe_op op_add (pv 4) pe_int) (pe_cmpR op_lt (pv 1) pe_int (nomark _)))) pa_nil)) pe_int))))
      (pss_one (ps_ret (pe_lst (pa_cons (pv 2) (pa_cons pe_int (pa_cons pe_int (pa_cons pe_int (pa_cons (pv 3) pa_nil))))))))))), ?_⟩
    refine ⟨.ref a, rfl, a, rfl, ⟨_, hS⟩, fun n hn => ?_⟩
    refine lc_list (K := K) (a := a) (xs := ns.map V.int) (fun i H' => Same H H' ∧ H' n = some (.lst ((ns.take i).map V.int))) ⟨same_new hn, by rw [upd_same]; rfl⟩ (fun i H' _ h => h.1.seq hS) (fun i x H' hx h => ?_) (fun H' h => ?_)
    · rw [List.getElem?_map] at hx
      obtain ⟨z, hz, rfl⟩ := Option.map_eq_some_iff.mp hx
      refine ⟨rfl, ?_⟩
      refine ⟨_, rfl, ?_⟩
      refine Or.inl ⟨_, rfl, ?_⟩
      refine ⟨_, h.2, ?_, fun b o e => ?_, ?_⟩
      · rw [List.length_map, List.length_take]
        exact small1000 (by omega)
      · rw [upd_ne (ne_of_none e hn)]
        exact h.1 b o e
      · rw [upd_same, List.take_add_one, hz, List.map_append]
        rfl
    · have h2 : H' n = some (.lst (ns.map V.int)) := by
        have e := h.2
        rwa [List.length_map, List.take_length] at e
      refine ⟨_, rfl, n, _, rfl, .inl (SqL.of h2), ?_⟩
      refine ⟨_, rfl, 63, rfl, n, _, rfl, SqL.of h2, fun c hc => ?_⟩
      have hcut : cutV (ns.map V.int) none (some 63) = ns.map V.int := by
        unfold cutV
        rw [show HT.sIx (ns.map V.int).length 0 none = 0 from HT.sIx_none .., show HT.sIx (ns.map V.int).length (ns.map V.int).length (some 63) = min 63 (ns.map V.int).length from HT.sIx_nat _ _ 63, List.drop_zero, Nat.sub_zero]
        rw [List.length_map, Nat.min_eq_right hlen]
        exact List.take_of_length_le (by rw [List.length_map]; exact Nat.le_refl _)
      rw [hcut]
      have hn' : n ≠ c := ne_of_none h2 hc
      refine ⟨c, _, rfl, SqL.of upd_same, ?_⟩
      refine for_enum (a := c) (xs := ns.map V.int) (fun i σ H2 => (∃ y1 z y4, σ = [some (.ref a), y1, some (.ref n), some (.int z), y4]) ∧ Same H H2 ∧ H2 n = some (.lst (ns.map V.int)) ∧ H2 c = some (.lst (ns.map V.int))) ⟨⟨_, _, _, rfl⟩, fun b o e => ?_, ?_, ?_⟩ (fun i σ H2 _ p => SqL.of p.2.2.2) (fun i x T σ H2 hx hT p => ?_) (fun σ H2 p => ?_)
      · rw [upd_ne (fun z => ?_)]
        · exact h.1 b o e
        · subst z
          rw [h.1 b o e] at hc
          cases hc
      · rw [upd_ne hn']
        exact h2
      · exact upd_same
      · obtain ⟨⟨y1, z, y4, rfl⟩, hs, e2, e3⟩ := p
        rw [List.getElem?_map] at hx
        obtain ⟨v, hv, rfl⟩ := Option.map_eq_some_iff.mp hx
        refine ⟨T, _, rfl, SqT.of upd_same, rfl, _, _, rfl, _, _, rfl, rfl, ?_⟩
        walk_at "g"
        have nT : n ≠ T := ne_of_none e2 hT
        have cT : c ≠ T := ne_of_none e3 hT
        refine ⟨⟨_, _, _, rfl⟩, fun b o e => same_new hT b o (hs b o e), ?_, ?_⟩
        · rw [upd_ne nT]
          exact e2
        · rw [upd_ne cT]
          exact e3
      · obtain ⟨⟨y1, z, y4, rfl⟩, hs, e2, e3⟩ := p
        refine ⟨_, rfl, _, rfl, (by show 5 ≤ sizeLine; decide), fun b hb => ?_⟩
        refine q b _ (fun x o e => same_new hb x o (hs x o e)) (hs.free hb) ⟨rfl, n, ns, 0, 0, 0, z, upd_same, fun e => ?_, .inl ?_, by decide, by decide⟩
        · exact ne_of_none e2 hb e
        · rw [upd_ne (ne_of_none e2 hb)]
          exact e2
/-- a number is drawn -/
def sp_pick (K : PySem.W.Frag) : Sp := fun vs H Q _ => ∃ (b : Addr) (m : Int) (M : Ms), vs = [.ref b, .int m] ∧ Bag K M H b ∧ 0 < m ∧ m < 1073741824 ∧
  ∀ (w : Int) (H' : Hp), 0 ≤ w → w < m → At b H H' → Bag K M H' b → Q (.int w) H'
theorem At.bag {M : Ms} {H H' : Hp} {b n : Addr} {ns : List Int} {p r t s : Int} (w : M b) (hn : ¬ M n) (rd : Rd H n (.lst (ns.map V.int))) (h : At b H H') (e : H' b = some (.lst [.ref n, .int p, .int r, .int t, .int s])) (hp : 0 ≤ p) (hr : 0 ≤ r) : Bag K M H' b :=
  ⟨w, n, ns, p, r, t, s, e, hn, sx_rd h.sx (fun z => hn (by rw [show n = b from z]; exact w)) rd, hp, hr⟩
theorem At.trans {H H1 H2 : Hp} {b : Addr} (h : At b H H1) (h' : At b H1 H2) : At b H H2 := fun a n => (h' a n).trans (h a n)
theorem ok_pick (T : Txt K mg) : FnOk P w K mg base CX0 2 T.f__law_pick T.d__law_pick ["_law_bag_here", "_law_many"] (sp_pick K) := by
  have G__law_mixed := ok_mixed (P := P) (w := w) (base := base) T
  refine T.F__law_pick.ok sc__law_pick (fun vs H Q E h => ?_) (fun cdv A outer s H vs Q E hr h => ?_)
  · obtain ⟨_, _, _, rfl, _⟩ := h
    rfl
  · obtain ⟨b, m, M, rfl, ⟨wb, n, ns, p, r, t, sd, hb, hn, rd, hp, hr0⟩, hm, hm2, q⟩ := h
    refine ⟨_, (pss_cons (ps_set (i := 2) sc__law_pick.nd rfl (Or.inl rfl) (pe_ix (ix_listK (K := K) rfl) (pv 0) pe_int (fun _ _ => rfl)))
      (pss_cons (ps_asg (pe_op op_add (pv 2) pe_int) (pg_sub (pv 0) pe_int set_list))
      (pss_cons (ps_if (PW.pt (pw_and (pt_cmpR op_eq (pe_ix (ix_listK (K := K) rfl) (pv 0) pe_int (fun _ _ => rfl)) pe_int (nomark _)) (pw_and1 (pt_cmpR op_lt (pe_ix (ix_listK (K := K) rfl) (pv 0) pe_int (fun _ _ => rfl)) (pe_callB (call_lenK (K := K) rfl) (by rfl) T.m_len PySem.boot_len (pa_cons (pe_ix (ix_listK (K := K) rfl) (pv 0) pe_int (fun _ _ => rfl)) pa_nil)) (nomark _))))) (pss_cons (ps_set (i := 3) sc__law_pick.nd rfl (Or.inl rfl) (pe_ix (ix_listK (K := K) rfl) (pe_ix (ix_listK (K := K) rfl) (pv 0) pe_int (fun _ _ => rfl)) (pe_ix (ix_listK (K := K) rfl) (pv 0) pe_int (fun _ _ => rfl)) (fun _ _ => rfl)))
      (pss_cons (ps_asg (pe_op op_add (pe_ix (ix_listK (K := K) rfl) (pv 0) pe_int (fun _ _ => rfl)) pe_int) (pg_sub (pv 0) pe_int set_list))
      (pss_cons (ps_if (pt_cmpR op_lt (pe_callB call_abs (by rfl) T.m_abs (by decide +kernel) (pa_cons (pv 3) pa_nil)) (pe_op op_pow pe_int pe_int) (nomark _)) (pss_one (ps_ret (pe_op op_mod (pe_callTy call_int1 (by rfl) T.m_int (by decide +kernel) (pa_cons (pe_call G__law_mixed (hr.mono (by omega)) (by rfl) T.g__law_mixed T.F__law_mixed.kp T.b__law_mixed .nil pass0 (pa_cons (pe_op op_add_ib (pe_op op_mul pe_int (pe_callB call_abs (by rfl) T.m_abs (by decide +kernel) (pa_cons (pv 3) pa_nil))) (pe_cmpR op_lt (pv 3) pe_int (nomark _))) (pa_cons (pv 2) pa_nil))) pa_nil)) (pv 1)))) pss_nil)
      (pss_one (ps_asg (pe_callB call_abs (by rfl) T.m_abs (by decide +kernel) (pa_cons (pv 3) pa_nil)) (pg_sub (pv 0) pe_int set_list)))))) pss_nil)
      (pss_cons (ps_if (pt_cmpR op_eq (pe_ix (ix_listK (K := K) rfl) (pv 0) pe_int (fun _ _ => rfl)) pe_int (nomark _)) (pss_one (ps_ret (pe_op op_mod (pe_callTy call_int1 (by rfl) T.m_int (by decide +kernel) (pa_cons (pe_call G__law_mixed (hr.mono (by omega)) (by rfl) T.g__law_mixed T.F__law_mixed.kp T.b__law_mixed .nil pass0 (pa_cons (pe_ix (ix_listK (K := K) rfl) (pv 0) pe_int (fun _ _ => rfl)) (pa_cons (pv 2) pa_nil))) pa_nil)) (pv 1)))) pss_nil)
      (pss_cons (ps_set (i := 4) sc__law_pick.nd rfl (Or.inl rfl) (pe_op op_mod (pe_callTy call_int1 (by rfl) T.m_int (by decide +kernel) (pa_cons (pe_ix (ix_listK (K := K) rfl) (pv 0) pe_int (fun _ _ => rfl)) pa_nil)) (pv 1)))
      (pss_cons (ps_asg (pe_op op_fdiv (pe_ix (ix_listK (K := K) rfl) (pv 0) pe_int (fun _ _ => rfl)) (pv 1)) (pg_sub (pv 0) pe_int set_list))
      (pss_one (ps_ret (pv 4))))))))), ?_⟩
    -- turn
    walk_at "g"
    walk_at "set"
    generalize e1 : upd H b _ = H1
    have a1 : At b H H1 := by rw [← e1]; exact At.upd
    have b1 : H1 b = some (.lst [.ref n, .int p, .int r, .int (t + 1), .int sd]) := by rw [← e1, upd_same]; rfl
    have rd1 : Rd H1 n (.lst (ns.map V.int)) := sx_rd a1.sx (fun z => hn (by rw [show n = b from z]; exact wb)) rd
    clear e1
    have fin : ∀ (w : Int) (H' : Hp) (p' r' t' : Int), At b H H' → H' b = some (.lst [.ref n, .int p', .int r', .int t', .int sd]) → 0 ≤ p' → 0 ≤ r' → Q (.int (w % m)) H' := fun w H' p' r' t' ha e h1 h2 =>
      q _ _ (Int.emod_nonneg _ (by omega)) (Int.emod_lt_of_pos _ hm) ha (ha.bag wb hn rd e h1 h2)
    with_reducible refine seq_join (fun σ H' => ∃ y3 p' r', σ = [some (.ref b), some (.int m), some (.int t), y3, none] ∧ At b H H' ∧ H' b = some (.lst [.ref n, .int p', .int r', .int (t + 1), .int sd]) ∧ 0 ≤ p' ∧ 0 ≤ r') (fun hN => ?_) (fun σ H' c => ?_)
    · have hN0 := hN _ _ ⟨none, p, r, rfl, a1, b1, hp, hr0⟩
      walk_at "g"
      walk_at "if"
      · walk_at "g"
        walk_at "if"
        · rename_i ep
          have ep' : p < ((ns.map V.int).length : Int) := of_decide_eq_true ep
          obtain ⟨j, rfl⟩ : ∃ j : Nat, p = (j : Int) := ⟨p.toNat, by omega⟩
          have hj : j < ns.length := by
            rw [List.length_map] at ep'
            omega
          have hcell : (ns.map V.int)[j]? = some (.int ns[j]) := by
            rw [List.getElem?_map, List.getElem?_eq_getElem hj]
            rfl
          walk_at "g"
          refine ⟨n, _, _, _, rfl, rfl, Or.inl rd1, atI_nat hcell, ?_⟩
          walk_at "g"
          walk_at "set"
          generalize e2 : upd H1 b _ = H2
          have a2 : At b H H2 := by rw [← e2]; exact a1.trans At.upd
          have b2 : H2 b = some (.lst [.ref n, .int ((j : Int) + 1), .int r, .int (t + 1), .int sd]) := by rw [← e2, upd_same]; rfl
          clear e2
          generalize ns[j] = c
          walk_at "g"
          walk_at "if"
          · walk_at "g"
            refine ⟨_, _, rfl, fun z hz => ?_⟩
            walk_at "g"
            refine ⟨hm, ?_⟩
            exact fin _ _ _ _ _ a2 b2 (by omega) hr0
          · walk_at "g"
            walk_at "set"
            exact hN _ _ ⟨_, _, _, rfl, a2.trans At.upd, upd_same, by omega, by split <;> omega⟩
        · exact hN0
      · exact hN0
    · obtain ⟨y3, p', r', rfl, a2, b2, hp2, hr2⟩ := c
      walk_at "g"
      walk_at "if"
      · walk_at "g"
        refine ⟨_, _, rfl, fun z hz => ?_⟩
        walk_at "g"
        refine ⟨hm, ?_⟩
        exact fin _ _ _ _ _ a2 b2 hp2 hr2
      · walk_at "g"
        refine ⟨hm, ?_⟩
        walk_at "g"
        refine ⟨⟨hm, hm2⟩, ?_⟩
        walk_at "g"
        walk_at "set"
        walk_at "g"
        exact fin _ _ _ _ _ (a2.trans At.upd) upd_same hp2 (Int.ediv_nonneg hr2 (by omega))
/-- one thing of a list is chosen -/
def sp_choice (K : PySem.W.Frag) : Sp := fun vs H Q _ => ∃ (b a : Addr) (xs : List V) (M : Ms), vs = [.ref b, .ref a] ∧ Bag K M H b ∧ SqL K H a xs ∧ a ≠ b ∧ 0 < xs.length ∧ xs.length < 1000000 ∧
  ∀ (v : V) (H' : Hp), v ∈ xs → At b H H' → Bag K M H' b → Q v H'
theorem at_pos {α : Type} {xs : List α} {w : Int} (h0 : 0 ≤ w) (h1 : w < (xs.length : Int)) : ∃ v, atI xs w = some v ∧ v ∈ xs ∧ xs[w.toNat]? = some v := by
  obtain ⟨j, rfl⟩ : ∃ j : Nat, w = (j : Int) := ⟨w.toNat, by omega⟩
  have hj : j < xs.length := by omega
  exact ⟨xs[j], atI_nat (List.getElem?_eq_getElem hj), List.getElem_mem hj, List.getElem?_eq_getElem hj⟩
theorem ok_choice (T : Txt K mg) : FnOk P w K mg base CX0 3 T.f__law_choice T.d__law_choice ["_law_bag_here", "_law_things"] (sp_choice K) := by
  have G__law_pick := ok_pick (P := P) (w := w) (base := base) T
  refine T.F__law_choice.ok sc__law_choice (fun vs H Q E h => ?_) (fun cdv A outer s H vs Q E hr h => ?_)
  · obtain ⟨_, _, _, _, rfl, _⟩ := h
    rfl
  · obtain ⟨b, a, xs, M, rfl, hB, hS, hab, hl, hl2, q⟩ := h
    refine ⟨_, (pss_one (ps_ret (pe_ix (ix_listK (K := K) rfl) (pv 1) (pe_call G__law_pick (hr.mono (by omega)) (by rfl) T.g__law_pick T.F__law_pick.kp T.b__law_pick .nil pass0 (pa_cons (pv 0) (pa_cons (pe_callB (call_lenK (K := K) rfl) (by rfl) T.m_len PySem.boot_len (pa_cons (pv 1) pa_nil)) pa_nil))) (fun _ _ => rfl)))), ?_⟩
    walk_at "g"
    refine ⟨b, _, M, rfl, hB, by omega, by omega, fun w H' h0 h1 hA hB' => ?_⟩
    have hS' := sx_l hA.sx (fun z : a = b => hab z) hS
    obtain ⟨v, hv, hm, _⟩ := at_pos h0 h1
    exact ⟨_, _, _, _, rfl, rfl, hS', hv, q v H' hm hA hB'⟩
/-- a list is mingled -/
def sp_mingled (K : PySem.W.Frag) : Sp := fun vs H Q _ => ∃ (b : Addr) (a : V) (ds : List PyData) (M : Ms), vs = [.ref b, a] ∧ Bag K M H b ∧ Mk M H ∧ Rp M H a (.list ds) ∧ ds.length < 1000000 ∧
  Dr K M b H (fun d => ∃ es, d = .list es ∧ es.Perm ds) Q
theorem erase_perm {α : Type} : ∀ (l : List α) (j : Nat) (d : α), l[j]? = some d → (d :: l.eraseIdx j).Perm l
  | [], j, d, h => by simp at h
  | x :: r, 0, d, h => by
    have e := Option.some.inj h
    subst e
    exact .refl _
  | x :: r, j + 1, d, h => by
    have ih := erase_perm r j d h
    show (d :: x :: r.eraseIdx j).Perm (x :: r)
    exact (List.Perm.swap x d _).trans (ih.cons x)
theorem ok_mingled (T : Txt K mg) : FnOk P w K mg base CX0 3 T.f__law_mingled T.d__law_mingled ["_law_bag_here", "_law_things"] (sp_mingled K) := by
  have G__law_pick := ok_pick (P := P) (w := w) (base := base) T
  refine T.F__law_mingled.ok sc__law_mingled (fun vs H Q E h => ?_) (fun cdv A outer s H vs Q E hr h => ?_)
  · obtain ⟨_, _, _, _, rfl, _⟩ := h
    rfl
  · obtain ⟨b, a, ds, M, rfl, hB, hM, hR, hl, q⟩ := h
    cases hR with
    | @lst a xs _ na hS hA =>
    have el := hA.length
    refine ⟨_, (pss_cons (ps_set (i := 2) sc__law_mingled.nd rfl (Or.inl rfl) (pe_callTy (call_listK (K := K) rfl) (by rfl) T.m_list (by decide +kernel) (pa_cons (pv 1) pa_nil)))
      (pss_cons (ps_set (i := 3) sc__law_mingled.nd rfl (Or.inl rfl) (pe_lst pa_nil))
      (pss_cons (ps_for PassesOwn.never rfl (pi_range1 (by rfl) T.m_range (pa_cons (pe_callB (call_lenK (K := K) rfl) (by rfl) T.m_len PySem.boot_len (pa_cons (pv 1) pa_nil)) pa_nil)) (pg_name (i := 4) sc__law_mingled.nd rfl (Or.inl rfl)) (pss_one (ps_expr (pe_bmK2 (K := K) rfl PySem.F.plainAttrs_list PySem.F.slot_list_append PySem.F.type_list_append mt_append (pv 3) (pa_cons (pe_bmK2 (K := K) rfl PySem.F.plainAttrs_list PySem.F.slot_list_pop PySem.F.type_list_pop mt_popAt (pv 2) (pa_cons (pe_call G__law_pick (hr.mono (by omega)) (by rfl) T.g__law_pick T.F__law_pick.kp T.b__law_pick .nil pass0 (pa_cons (pv 0) (pa_cons (pe_callB (call_lenK (K := K) rfl) (by rfl) T.m_len PySem.boot_len (pa_cons (pv 2) pa_nil)) pa_nil))) pa_nil)) pa_nil)))))
      (pss_one (ps_ret (pv 3)))))), ?_⟩
    refine ⟨.ref a, rfl, a, xs, rfl, .inl (.inl hS), fun l nl => ?_⟩
    refine ⟨by show 0 ≤ sizeLine; exact Nat.zero_le _, fun o no => ?_⟩
    have lo : l ≠ o := ne_of_none upd_same no
    have Rl := hA.fresh nl
    generalize e1 : upd (upd H l _) o _ = H1
    have s1 : Same H H1 := fun c u e => by rw [← e1]; exact same_new no c u (same_new nl c u e)
    have l1 : H1 l = some (.lst xs) := by rw [← e1, upd_ne lo, upd_same]
    have o1 : H1 o = some (.lst []) := by rw [← e1, upd_same]
    have no0 : H o = none := by
      rw [upd_ne lo.symm] at no
      exact no
    clear e1
    refine ⟨.ref a, rfl, a, xs, rfl, .inl (s1.seq (.inl hS)), ?_⟩
    refine ⟨_, rfl, by omega, by omega, ?_⟩
    have hbl : b ≠ l := fun z => hB.there (by rw [z]; exact nl)
    have hbo : b ≠ o := fun z => hB.there (by rw [z]; exact no0)
    let N : Ms := also (also M l) o
    let F : Ms := also (also (one b) l) o
    have FN : ∀ c, F c → N c := fun c z => z.elim (fun z => z.elim (fun z => .inl (.inl (one_le hB.w c z))) fun z => .inl (.inr z)) .inr
    have hB1 : Bag K N H1 b := by
      have h1 := (hB.more nl).more no0
      exact h1.keep (N := fun _ => False) (fun c u _ e => s1 c u e) (fun z => z) (fun _ z => z.elim)
    have R1 : RpAll N H1 xs ds := (Rl.fresh no0).sx (Sx.same s1)
    refine for_range (lo := 0) (n := (xs.length : Int).toNat) (fun i σ H2 => (∃ y4, σ = [some (.ref b), some (.ref a), some (.ref l), some (.ref o), y4]) ∧ Sx F H H2 ∧ Gr H H2 ∧ Bag K N H2 b ∧
      ∃ ls os es fs, H2 l = some (.lst ls) ∧ H2 o = some (.lst os) ∧ RpAll N H2 ls es ∧ RpAll N H2 os fs ∧ ls.length + i = xs.length ∧ os.length = i ∧ (es ++ fs).Perm ds) ?_ (fun i σ H2 hi p => ?_) (fun σ H2 p => ?_)
    · exact ⟨⟨_, rfl⟩, Sx.same s1, Gr.same s1, hB1, xs, [], ds, [], l1, o1, R1, .nil, by omega, rfl, by rw [List.append_nil]⟩
    · obtain ⟨⟨y4, rfl⟩, s2, g2, hB2, ls, os, es, fs, l2, o2, Re, Rf, e1, e2, m1⟩ := p
      have hls : 0 < ls.length := by omega
      refine ⟨.ref o, rfl, .inl ⟨rfl, _, SqL.of o2⟩, .ref l, rfl, .inl ⟨rfl, _, SqL.of l2⟩, ?_⟩
      walk_at "g"
      refine ⟨b, _, N, rfl, hB2, by omega, by omega, fun w H3 h0 h1 hA3 hB3 => ?_⟩
      have l3 : H3 l = some (.lst ls) := (hA3 l hbl.symm).trans l2
      have o3 : H3 o = some (.lst os) := (hA3 o hbo.symm).trans o2
      obtain ⟨j, rfl⟩ : ∃ j : Nat, w = (j : Int) := ⟨w.toNat, by omega⟩
      have hj : j < ls.length := by omega
      have s3 : Sx F H2 H3 := hA3.sx.le fun c z => .inl (.inl z)
      have Re3 := Re.sx (s3.le FN)
      obtain ⟨d, hd, Rd⟩ := Re3.get (List.getElem?_eq_getElem hj)
      refine ⟨l, ls, (j : Int), j, ls[j], rfl, rfl, l3, by omega, by omega, ?_, List.getElem?_eq_getElem hj, ?_⟩
      · exact seqIx hj
      · have lno : o ≠ l := lo.symm
        have o4 : upd H3 l (.lst (ls.eraseIdx j)) o = some (.lst os) := by rw [upd_ne lno]; exact o3
        refine ⟨o, os, ls[j], rfl, rfl, o4, small1000000 (by omega), ?_⟩
        have s4 : Sx F H3 (upd (upd H3 l (.lst (ls.eraseIdx j))) o (.lst (os ++ [ls[j]]))) := (Sx.put (show F l from .inl (.inr rfl))).trans (Sx.put (show F o from .inr rfl))
        have em := Re3.length
        refine ⟨⟨_, rfl⟩, s2.trans (s3.trans s4), g2.trans ((At.gr hA3 hB3.there).trans (Gr.upd.trans Gr.upd)), ?_, ls.eraseIdx j, os ++ [ls[j]], es.eraseIdx j, fs ++ [d], ?_, upd_same, (Re3.eraseIdx j).sx (s4.le FN), ((Rf.sx (s3.le FN)).append (.one Rd)).sx (s4.le FN), ?_, ?_, ?_⟩
        · exact (hB3.keep (N := one l) (Sx.put rfl) hbl (fun c z => by rw [show c = l from z]; exact .inl (.inr rfl))).keep (N := one o) (Sx.put rfl) hbo (fun c z => by rw [show c = o from z]; exact .inr rfl)
        · rw [upd_ne lo, upd_same]
        · rw [List.length_eraseIdx_of_lt hj]
          omega
        · rw [List.length_append, e2]
          rfl
        · refine List.Perm.trans ?_ m1
          rw [← List.append_assoc]
          refine (List.perm_append_comm).trans ?_
          exact (List.Perm.append_right fs (erase_perm es j d hd))
    · obtain ⟨⟨y4, rfl⟩, s2, g2, hB2, ls, os, es, fs, l2, o2, Re, Rf, e1, e2, m1⟩ := p
      refine ⟨.ref o, rfl, q _ _ (.list fs) ((s2.cut no0).cut nl) g2 (hB2.less hB.w fun c z => .inl (.inl z)) (.lst (hM.out no0) (.inl o2) (Rf.less fun c z => .inl (.inl z))) ⟨fs, rfl, ?_⟩⟩
      have el0 := Re.length
      have z : es = [] := List.length_eq_zero_iff.mp (by omega)
      rw [z] at m1
      exact m1
def sp_number : Sp := fun vs H Q _ => ∃ i : Int, vs = [.int i] ∧ Q (.bl true) H
theorem ok_number (T : Txt K mg) : FnOk P w K mg base CX0 1 T.f__law_number T.d__law_number ["_law_thing"] sp_number := by
  refine T.F__law_number.ok sc__law_number (fun vs H Q E h => ?_) (fun cdv A outer s H vs Q E hr h => ?_)
  · obtain ⟨_, rfl, _⟩ := h
    rfl
  · obtain ⟨i, rfl, q⟩ := h
    refine ⟨_, (pss_one (ps_ret (pe_and (pe_callB (call_isi1K (K := K) rfl) (by rfl) T.m_isinstance (by decide +kernel) (pa_cons (pv 0) (pa_cons (pe_bltn (v := .ty "int") (u := .type "int") (by rfl) T.m_int (by decide +kernel) rfl) pa_nil))) (pe_one (pe_not (pe_callB (call_isi1K (K := K) rfl) (by rfl) T.m_isinstance (by decide +kernel) (pa_cons (pv 0) (pa_cons (pe_bltn (v := .ty "bool") (u := .type "bool") (by rfl) T.m_bool (by decide +kernel) rfl) pa_nil)))))))), ?_⟩
    walk_at "g"
    refine ⟨_, _, _, _, true, rfl, .ty _, .base (.int _), kit_ty (by decide +kernel), ?_⟩
    walk_at "g"
    walk_at "g"
    refine ⟨_, _, _, _, false, rfl, .ty _, .base (.int _), kit_ty (by decide +kernel), ?_⟩
    walk_at "g"
    exact q
end
end D


namespace D
open PySem PySem.Spec PyProof.Rows L2
local macro_rules | `(tactic| walk_at "st") => `(tactic| first | exact SqT.of (by assumption) | exact Or.inl (by assumption) | exact SqT.of upd_same | fail "st")
local macro_rules | `(tactic| walk_at "ixt") => `(tactic| refine ⟨_, _, _, _, rfl, rfl, (by walk_at "st" : SqT _ _ _ _), by rfl, ?_⟩)
local macro_rules | `(tactic| walk_at "sq") => `(tactic| first | exact SqL.of (by assumption) | assumption | exact Or.inl (by assumption) | exact SqL.of upd_same | fail "sq")
local macro_rules | `(tactic| walk_at "ix") => `(tactic| refine ⟨_, _, _, _, rfl, rfl, (by walk_at "sq" : SqL _ _ _ _), by rfl, ?_⟩)
local macro_rules | `(tactic| walk_at "set") => `(tactic| refine ⟨_, _, _, _, rfl, rfl, by first | assumption | exact upd_same, by rfl, ?_⟩)
local macro_rules | `(tactic| walk_at "len") => `(tactic| refine ⟨_, _, rfl, Or.inl (by walk_at "sq" : SqL _ _ _ _), ?_⟩)
local macro_rules | `(tactic| walk_at "g") => `(tactic| repeat (first | refine ⟨_, rfl, ?_⟩ | refine ⟨_, _, rfl, rfl, ?_⟩ | refine ⟨Or.inr (by decide), ?_⟩ | refine ⟨Or.inl (by decide), ?_⟩ | refine ⟨(by decide : (0 : Int) < _), ?_⟩ | refine ⟨(⟨by decide, by decide⟩ : CDiv _ _), ?_⟩ | refine ⟨(⟨by decide, by decide, by decide⟩ : CPow _ _), ?_⟩ | refine Or.inl ⟨_, rfl, ?_⟩ | refine ⟨rfl, ?_⟩ | walk_at "ix" | walk_at "ixt" | walk_at "len" | fail "g"))
local macro_rules | `(tactic| walk_at "if") => `(tactic| refine ite2 (fun e => ?_) (fun e => ?_))
section
variable {P : Program} {w : World} {K : PySem.W.Frag} {mg : Str → Option Value} {base : Heap}
def sp_value (d : Nat) : Sp := fun vs H Q _ => ∃ (v : V) (dd : Addr) (f : Fm) (M : Ms) (kvs : List (Key × V)) (ρ : Str → Int) (nm : Str → Prop), vs = [v, .ref dd] ∧ Rp M H v f.enc ∧ f.dep ≤ d ∧ f.ok nm ∧ H dd = some (.dK kvs) ∧
  (∀ x, nm x → valV kvs (.inr x) = some (.int (ρ x))) ∧ Q (.int (f.val ρ)) H
theorem ok_value_of (T : Txt K mg) : ∀ d, FnOk P w K mg base CX0 (d + 1) T.f_value_of T.d_value_of ["form", "values"] (sp_value d) := by
  intro d
  induction d with
  | zero =>
    refine T.F_value_of.ok sc_value_of (fun vs H Q E h => ?_) (fun cdv A outer s H vs Q E hr h => ?_)
    · obtain ⟨_, _, _, _, _, _, _, rfl, _⟩ := h
      rfl
    · obtain ⟨v, dd, f, M, kvs, ρ, nm, rfl, _, hd, _⟩ := h
      exact absurd f.dep_pos (by omega)
  | succ d ih =>
    have G_value_of := ih
    refine T.F_value_of.ok sc_value_of (fun vs H Q E h => ?_) (fun cdv A outer s H vs Q E hr h => ?_)
    · obtain ⟨_, _, _, _, _, _, _, rfl, _⟩ := h
      rfl
    · obtain ⟨v, dd, f, M, kvs, ρ, nm, rfl, hR, hd, ho, hdd, hρ, q⟩ := h
      obtain ⟨a, xs, rfl, na, ha, hx⟩ := hR.form
      refine ⟨_, (pss_cons (ps_set (i := 2) sc_value_of.nd rfl (Or.inl rfl) (pe_ix (ix_tupK (K := K) rfl) (pv 0) pe_int (fun _ _ => rfl)))
      (pss_cons (ps_if (pt_cmpR op_eq (pv 2) pe_str (nomark _)) (pss_one (ps_ret (pe_ix (ix_tupK (K := K) rfl) (pv 0) pe_int (fun _ _ => rfl)))) pss_nil)
      (pss_cons (ps_if (pt_cmpR op_eq (pv 2) pe_str (nomark _)) (pss_cons (ps_if (pt_cmp (pc_dnotin (hu_of hr) (pe_ix (ix_tupK (K := K) rfl) (pv 0) pe_int (fun _ _ => rfl)) (pv 1))) (pss_one ps_never) pss_nil)
      (pss_one (ps_ret (pe_dget (hu_of hr) (pv 1) (pe_ix (ix_tupK (K := K) rfl) (pv 0) pe_int (fun _ _ => rfl)) (fun _ _ => rfl))))) pss_nil)
      (pss_cons (ps_set (i := 3) sc_value_of.nd rfl (Or.inl rfl) (pe_call G_value_of (hr.mono (by omega)) (by rfl) T.g_value_of T.F_value_of.kp T.b_value_of .nil pass0 (pa_cons (pe_ix (ix_tupK (K := K) rfl) (pv 0) pe_int (fun _ _ => rfl)) (pa_cons (pv 1) pa_nil))))
      (pss_cons (ps_if (pt_cmpR op_eq (pv 2) pe_str (nomark _)) (pss_one (ps_ret (pe_call G_value_of (hr.mono (by omega)) (by rfl) T.g_value_of T.F_value_of.kp T.b_value_of .nil pass0 (pa_cons (pe_ifExp (pt_cmpR op_eq (pv 3) pe_int (nomark _)) (pe_ix (ix_tupK (K := K) rfl) (pv 0) pe_int (fun _ _ => rfl)) (pe_ix (ix_tupK (K := K) rfl) (pv 0) pe_int (fun _ _ => rfl))) (pa_cons (pv 1) pa_nil))))) pss_nil)
      (pss_cons (ps_set (i := 4) sc_value_of.nd rfl (Or.inl rfl) (pe_call G_value_of (hr.mono (by omega)) (by rfl) T.g_value_of T.F_value_of.kp T.b_value_of .nil pass0 (pa_cons (pe_ix (ix_tupK (K := K) rfl) (pv 0) pe_int (fun _ _ => rfl)) (pa_cons (pv 1) pa_nil))))
      (pss_cons (ps_if (pt_cmpR op_eq (pv 2) pe_str (nomark _)) (pss_one (ps_ret (pe_op op_mod (pe_op op_add (pv 3) (pv 4)) pe_int))) pss_nil)
      (pss_one (ps_ret (pe_ifExp (pt_cmpR op_eq (pv 3) (pv 4) (nomark _)) pe_int pe_int)))))))))), ?_⟩
      cases hx with
      | is n =>
        walk_at "g"
        exact q
      | get x =>
        have hx := hρ x ho
        walk_at "g"
        refine ⟨dd, _, rfl, DGet.k (k := Sum.inr x) hdd, ?_⟩
        rw [hx]
        walk_at "g"
        refine ⟨dd, _, rfl, DGet.k (k := Sum.inr x) hdd |> fun z => by rw [hx] at z; exact z, ?_⟩
        exact q
      | @sum f g u w r1 r2 =>
        have hd' : f.dep ≤ d ∧ g.dep ≤ d := by
          have : max f.dep g.dep + 1 ≤ d + 1 := hd
          omega
        walk_at "g"
        refine ⟨u, dd, f, M, kvs, ρ, nm, rfl, r1, hd'.1, ho.1, hdd, hρ, ?_⟩
        walk_at "g"
        refine ⟨w, dd, g, M, kvs, ρ, nm, rfl, r2, hd'.2, ho.2, hdd, hρ, ?_⟩
        walk_at "g"
        exact q
      | @same f g u w r1 r2 =>
        have hd' : f.dep ≤ d ∧ g.dep ≤ d := by
          have : max f.dep g.dep + 1 ≤ d + 1 := hd
          omega
        walk_at "g"
        refine ⟨u, dd, f, M, kvs, ρ, nm, rfl, r1, hd'.1, ho.1, hdd, hρ, ?_⟩
        walk_at "g"
        refine ⟨w, dd, g, M, kvs, ρ, nm, rfl, r2, hd'.2, ho.2, hdd, hρ, ?_⟩
        walk_at "g"
        walk_at "if"
        · rename_i e
          have e' : f.val ρ = g.val ρ := V.int.inj (of_decide_eq_true e)
          have ev : (Fm.same f g).val ρ = 1 := if_pos e'
          rw [ev] at q
          exact q
        · rename_i e
          have e' : ¬ f.val ρ = g.val ρ := fun z => e (decide_eq_true (by rw [z]))
          have ev : (Fm.same f g).val ρ = 0 := if_neg e'
          rw [ev] at q
          exact q
      | @pick f g k u w z r1 r2 r3 =>
        have hd' : f.dep ≤ d ∧ g.dep ≤ d ∧ k.dep ≤ d := by
          have : max f.dep (max g.dep k.dep) + 1 ≤ d + 1 := hd
          omega
        walk_at "g"
        refine ⟨u, dd, f, M, kvs, ρ, nm, rfl, r1, hd'.1, ho.1, hdd, hρ, ?_⟩
        walk_at "g"
        walk_at "if"
        · rename_i e
          have e' : f.val ρ = 0 := V.int.inj (of_decide_eq_true e)
          have ev : (Fm.pick f g k).val ρ = k.val ρ := if_pos e'
          rw [ev] at q
          walk_at "g"
          exact ⟨z, dd, k, M, kvs, ρ, nm, rfl, r3, hd'.2.2, ho.2.2, hdd, hρ, q⟩
        · rename_i e
          have e' : ¬ f.val ρ = 0 := fun z => e (decide_eq_true (by rw [z]))
          have ev : (Fm.pick f g k).val ρ = g.val ρ := if_neg e'
          rw [ev] at q
          walk_at "g"
          exact ⟨w, dd, g, M, kvs, ρ, nm, rfl, r2, hd'.2.1, ho.2.1, hdd, hρ, q⟩
/-- the law's own walk -/
theorem ok_law_value (T : Txt K mg) : ∀ d, FnOk P w K mg base CX0 (d + 1) T.f__law_value T.d__law_value ["_law_form_here", "_law_worths"] (sp_value d) := by
  intro d
  induction d with
  | zero =>
    refine T.F__law_value.ok sc__law_value (fun vs H Q E h => ?_) (fun cdv A outer s H vs Q E hr h => ?_)
    · obtain ⟨_, _, _, _, _, _, _, rfl, _⟩ := h
      rfl
    · obtain ⟨v, dd, f, M, kvs, ρ, nm, rfl, _, hd, _⟩ := h
      exact absurd f.dep_pos (by omega)
  | succ d ih =>
    have G__law_value := ih
    refine T.F__law_value.ok sc__law_value (fun vs H Q E h => ?_) (fun cdv A outer s H vs Q E hr h => ?_)
    · obtain ⟨_, _, _, _, _, _, _, rfl, _⟩ := h
      rfl
    · obtain ⟨v, dd, f, M, kvs, ρ, nm, rfl, hR, hd, ho, hdd, hρ, q⟩ := h
      obtain ⟨a, xs, rfl, na, ha, hx⟩ := hR.form
      refine ⟨_, (pss_cons (ps_set (i := 2) sc__law_value.nd rfl (Or.inl rfl) (pe_ix (ix_tupK (K := K) rfl) (pv 0) pe_int (fun _ _ => rfl)))
      (pss_cons (ps_if (PW.pt (pw_or (pt_cmpR op_eq (pv 2) pe_str (nomark _)) (pw_or1 (pt_cmpR op_eq (pv 2) pe_str (nomark _))))) (pss_one (ps_ret (pe_ifExp (pt_cmpR op_eq (pv 2) pe_str (nomark _)) (pe_ix (ix_tupK (K := K) rfl) (pv 0) pe_int (fun _ _ => rfl)) (pe_dget (hu_of hr) (pv 1) (pe_ix (ix_tupK (K := K) rfl) (pv 0) pe_int (fun _ _ => rfl)) (fun _ _ => rfl))))) pss_nil)
      (pss_cons (ps_set (i := 3) sc__law_value.nd rfl (Or.inl rfl) (pe_call G__law_value (hr.mono (by omega)) (by rfl) T.g__law_value T.F__law_value.kp T.b__law_value .nil pass0 (pa_cons (pe_ix (ix_tupK (K := K) rfl) (pv 0) pe_int (fun _ _ => rfl)) (pa_cons (pv 1) pa_nil))))
      (pss_cons (ps_if (pt_cmpR op_eq (pv 2) pe_str (nomark _)) (pss_one (ps_ret (pe_call G__law_value (hr.mono (by omega)) (by rfl) T.g__law_value T.F__law_value.kp T.b__law_value .nil pass0 (pa_cons (pe_ifExp (pt_cmpR op_ne (pv 3) pe_int (nomark _)) (pe_ix (ix_tupK (K := K) rfl) (pv 0) pe_int (fun _ _ => rfl)) (pe_ix (ix_tupK (K := K) rfl) (pv 0) pe_int (fun _ _ => rfl))) (pa_cons (pv 1) pa_nil))))) pss_nil)
      (pss_cons (ps_set (i := 4) sc__law_value.nd rfl (Or.inl rfl) (pe_call G__law_value (hr.mono (by omega)) (by rfl) T.g__law_value T.F__law_value.kp T.b__law_value .nil pass0 (pa_cons (pe_ix (ix_tupK (K := K) rfl) (pv 0) pe_int (fun _ _ => rfl)) (pa_cons (pv 1) pa_nil))))
      (pss_one (ps_ret (pe_ifExp (pt_cmpR op_eq (pv 2) pe_str (nomark _)) (pe_op op_mod (pe_callTy call_int1 (by rfl) T.m_int (by decide +kernel) (pa_cons (pe_op op_add (pv 3) (pv 4)) pa_nil)) pe_int) (pe_callTy call_int1 (by rfl) T.m_int (by decide +kernel) (pa_cons (pe_cmpR op_eq (pv 3) (pv 4) (nomark _)) pa_nil)))))))))), ?_⟩
      cases hx with
      | is n =>
        walk_at "g"
        exact q
      | get x =>
        have hx := hρ x ho
        walk_at "g"
        exact ⟨dd, _, rfl, DGet.k (k := Sum.inr x) hdd |> fun z => by rw [hx] at z; exact z, q⟩
      | @sum f g u w r1 r2 =>
        have hd' : f.dep ≤ d ∧ g.dep ≤ d := by
          have : max f.dep g.dep + 1 ≤ d + 1 := hd
          omega
        walk_at "g"
        refine ⟨u, dd, f, M, kvs, ρ, nm, rfl, r1, hd'.1, ho.1, hdd, hρ, ?_⟩
        walk_at "g"
        refine ⟨w, dd, g, M, kvs, ρ, nm, rfl, r2, hd'.2, ho.2, hdd, hρ, ?_⟩
        walk_at "g"
        exact q
      | @same f g u w r1 r2 =>
        have hd' : f.dep ≤ d ∧ g.dep ≤ d := by
          have : max f.dep g.dep + 1 ≤ d + 1 := hd
          omega
        walk_at "g"
        refine ⟨u, dd, f, M, kvs, ρ, nm, rfl, r1, hd'.1, ho.1, hdd, hρ, ?_⟩
        walk_at "g"
        refine ⟨w, dd, g, M, kvs, ρ, nm, rfl, r2, hd'.2, ho.2, hdd, hρ, ?_⟩
        walk_at "g"
        refine .inr ⟨_, rfl, ?_⟩
        have ev : (Fm.same f g).val ρ = if decide (V.int (f.val ρ) = V.int (g.val ρ)) = true then 1 else 0 := by
          by_cases c : f.val ρ = g.val ρ
          · rw [if_pos (decide_eq_true (by rw [c]))]
            exact if_pos c
          · rw [if_neg (fun z => c (V.int.inj (of_decide_eq_true z)))]
            exact if_neg c
        rw [ev] at q
        exact q
      | @pick f g k u w z r1 r2 r3 =>
        have hd' : f.dep ≤ d ∧ g.dep ≤ d ∧ k.dep ≤ d := by
          have : max f.dep (max g.dep k.dep) + 1 ≤ d + 1 := hd
          omega
        walk_at "g"
        refine ⟨u, dd, f, M, kvs, ρ, nm, rfl, r1, hd'.1, ho.1, hdd, hρ, ?_⟩
        walk_at "g"
        by_cases e' : f.val ρ = 0
        · have ev : (Fm.pick f g k).val ρ = k.val ρ := if_pos e'
          rw [ev] at q
          rw [decide_eq_true (show V.int (f.val ρ) = V.int 0 by rw [e'])]
          walk_at "g"
          exact ⟨z, dd, k, M, kvs, ρ, nm, rfl, r3, hd'.2.2, ho.2.2, hdd, hρ, q⟩
        · have ev : (Fm.pick f g k).val ρ = g.val ρ := if_neg e'
          rw [ev] at q
          rw [decide_eq_false (show ¬ V.int (f.val ρ) = V.int 0 from fun z => e' (V.int.inj z))]
          walk_at "g"
          exact ⟨w, dd, g, M, kvs, ρ, nm, rfl, r2, hd'.2.1, ho.2.1, hdd, hρ, q⟩
end
end D

namespace D
open PySem PySem.Spec PyProof.Rows L2
local macro_rules | `(tactic| walk_at "st") => `(tactic| first | exact SqT.of (by assumption) | exact Or.inl (by assumption) | exact SqT.of upd_same | fail "st")
local macro_rules | `(tactic| walk_at "ixt") => `(tactic| refine ⟨_, _, _, _, rfl, rfl, (by walk_at "st" : SqT _ _ _ _), by rfl, ?_⟩)
local macro_rules | `(tactic| walk_at "sq") => `(tactic| first | exact SqL.of (by assumption) | assumption | exact Or.inl (by assumption) | exact SqL.of upd_same | fail "sq")
local macro_rules | `(tactic| walk_at "ix") => `(tactic| refine ⟨_, _, _, _, rfl, rfl, (by walk_at "sq" : SqL _ _ _ _), by rfl, ?_⟩)
local macro_rules | `(tactic| walk_at "set") => `(tactic| refine ⟨_, _, _, _, rfl, rfl, by first | assumption | exact upd_same, by rfl, ?_⟩)
local macro_rules | `(tactic| walk_at "len") => `(tactic| refine ⟨_, _, rfl, Or.inl (by walk_at "sq" : SqL _ _ _ _), ?_⟩)
local macro_rules | `(tactic| walk_at "g") => `(tactic| repeat (first | refine ⟨_, rfl, ?_⟩ | refine ⟨_, _, rfl, rfl, ?_⟩ | refine ⟨Or.inr (by decide), ?_⟩ | refine ⟨Or.inl (by decide), ?_⟩ | refine ⟨(by decide : (0 : Int) < _), ?_⟩ | refine ⟨(⟨by decide, by decide⟩ : CDiv _ _), ?_⟩ | refine ⟨(⟨by decide, by decide, by decide⟩ : CPow _ _), ?_⟩ | refine Or.inl ⟨_, rfl, ?_⟩ | refine ⟨rfl, ?_⟩ | walk_at "ix" | walk_at "ixt" | walk_at "len" | fail "g"))
local macro_rules | `(tactic| walk_at "if") => `(tactic| refine ite2 (fun e => ?_) (fun e => ?_))
section
variable {P : Program} {w : World} {K : PySem.W.Frag} {mg : Str → Option Value} {base : Heap}
/-- the table of the words with parts -/
structure TMany (K : PySem.W.Frag) (mg : Str → Option Value) (w : World) where
  p : Addr
  es : Array DictEntry
  n : Nat
  kd : KDict K w p es n
  g : mg "MANY_PARTS" = some (.ref p)
  is : PySem.W.nsIn K p sIs = some none
  get : PySem.W.nsIn K p sGet = some none
  sum : ∃ t, PySem.W.nsIn K p sSum = some (some (.int 2 t))
  same : ∃ t, PySem.W.nsIn K p sSame = some (some (.int 2 t))
  pick : ∃ t, PySem.W.nsIn K p sPick = some (some (.int 3 t))
def sp_whole : Sp := fun vs H Q _ => ∃ i : Int, vs = [.int i] ∧ Q (.bl true) H
theorem ok_is_whole (T : Txt K mg) : FnOk P w K mg base CX0 1 T.f_is_whole T.d_is_whole ["thing"] sp_whole := by
  refine T.F_is_whole.ok sc_is_whole (fun vs H Q E h => ?_) (fun cdv A outer s H vs Q E hr h => ?_)
  · obtain ⟨_, rfl, _⟩ := h
    rfl
  · obtain ⟨i, rfl, q⟩ := h
    refine ⟨_, (pss_one (ps_ret (pe_and (pe_callB (call_isi1K (K := K) rfl) (by rfl) T.m_isinstance (by decide +kernel) (pa_cons (pv 0) (pa_cons (pe_bltn (v := .ty "int") (u := .type "int") (by rfl) T.m_int (by decide +kernel) rfl) pa_nil))) (pe_one (pe_not (pe_callB (call_isi1K (K := K) rfl) (by rfl) T.m_isinstance (by decide +kernel) (pa_cons (pv 0) (pa_cons (pe_bltn (v := .ty "bool") (u := .type "bool") (by rfl) T.m_bool (by decide +kernel) rfl) pa_nil)))))))), ?_⟩
    walk_at "g"
    refine ⟨_, _, _, _, true, rfl, .ty _, .base (.int _), kit_ty (by decide +kernel), ?_⟩
    walk_at "g"
    refine ⟨_, _, _, _, false, rfl, .ty _, .base (.int _), kit_ty (by decide +kernel), ?_⟩
    walk_at "g"
    exact q
def sp_is_value : Sp := fun vs H Q _ => ∃ i : Int, vs = [.int i] ∧ 0 ≤ i ∧ i ≤ 9 ∧ Q (.bl true) H
theorem ok_is_value (T : Txt K mg) : FnOk P w K mg base CX0 2 T.f_is_value T.d_is_value ["thing"] sp_is_value := by
  have G_is_whole := ok_is_whole (P := P) (w := w) (base := base) T
  refine T.F_is_value.ok sc_is_value (fun vs H Q E h => ?_) (fun cdv A outer s H vs Q E hr h => ?_)
  · obtain ⟨_, rfl, _⟩ := h
    rfl
  · obtain ⟨i, rfl, h0, h9, q⟩ := h
    refine ⟨_, (pss_one (ps_ret (pe_and (pe_call G_is_whole (hr.mono (by omega)) (by rfl) T.g_is_whole T.F_is_whole.kp T.b_is_whole .nil pass0 (pa_cons (pv 0) pa_nil)) (pe_one (pe_chain op_le op_le pe_int (pv 0) pe_int))))), ?_⟩
    walk_at "g"
    rw [decide_eq_true h0]
    walk_at "g"
    show Q (V.bl (decide (i ≤ 9))) H
    rw [decide_eq_true h9]
    exact q
def sp_is_name : Sp := fun vs H Q _ => ∃ x : Str, vs = [.str x] ∧ isNm x ∧ ∀ H', Same H H' → Q (.bl true) H'
theorem ok_is_name (T : Txt K mg) : FnOk P w K mg base CX0 1 T.f_is_name T.d_is_name ["thing"] sp_is_name := by
  refine T.F_is_name.ok sc_is_name (fun vs H Q E h => ?_) (fun cdv A outer s H vs Q E hr h => ?_)
  · obtain ⟨_, rfl, _⟩ := h
    rfl
  · obtain ⟨x, rfl, hx, q⟩ := h
    refine ⟨_, (pss_cons (ps_if (PW.pt (pw_or (pt_not (pt_val (pe_callB (call_isi1K (K := K) rfl) (by rfl) T.m_isinstance (by decide +kernel) (pa_cons (pv 0) (pa_cons (pe_bltn (v := .ty "str") (u := .type "str") (by rfl) T.m_str (by decide +kernel) rfl) pa_nil))))) (pw_or1 (pt_not (pt_chain op_le op_le pe_int (pe_callB call_len_str (by rfl) T.m_len PySem.boot_len (pa_cons (pv 0) pa_nil)) (pe_glob (v := .int 8) rfl T.c_MOST_LETTERS ⟨_, rfl⟩)))))) (pss_one (ps_ret pe_bl)) pss_nil)
      (pss_one (ps_ret (pe_callB (cr_allK (K := K) rfl rfl) (by rfl) T.m_all (by decide +kernel) (pa_cons (pe_lc (own := [("sign", 1)]) (g := gName 1) (tt := tYes) (by rfl) sc_is_name.nd (pi_str (pv 0)) (blkOk_by (own := [("sign", 1)]) (N := ["thing", "sign"]) (sc := defScope s_is_name) (by decide +kernel)) (fun _ _ _ _ _ => (pg_name (i := 1) sc_is_name.nd rfl (Or.inl rfl))) (fun _ _ _ _ _ => pts_nil) (fun _ _ _ _ _ => (pe_chain op_le_str op_le_str pe_str (pv 1) pe_str))) pa_nil))))), ?_⟩
    walk_at "g"
    refine ⟨_, _, _, _, true, rfl, .ty _, .base (.str _), kit_ty (by decide +kernel), ?_⟩
    walk_at "g"
    have h8 := hx.2.1
    refine ⟨Nat.le_of_lt (small1000 (by omega)), ?_⟩
    walk_at "g"
    rw [decide_eq_true (show (1 : Int) ≤ (x.length : Int) by have := hx.1; omega)]
    walk_at "g"
    rw [decide_eq_true (show (x.length : Int) ≤ 8 by omega)]
    walk_at "g"
    intro D hD
    have hsz : x.cps.size = x.length := rfl
    refine lc_valsS (z := x) (ys := List.replicate x.length (V.bl true)) hD (by rw [List.length_replicate, hsz]) (by omega) (fun i c y H' C N hc hy hs hC => ?_) (fun H' hs hD' => ?_)
    · have ey : y = V.bl true := (List.mem_replicate.mp (List.mem_of_getElem? hy)).2
      subst ey
      have hm : c ∈ x.cps.toList := by
        rw [← Array.getElem?_toList] at hc
        exact List.mem_of_getElem? hc
      have hr := hx.2.2 c hm
      walk_at "g"
      rw [sign_lo hr.1]
      refine ⟨_, _, rfl, rfl, ?_⟩
      rw [sign_hi hr.2]
      exact hC
    · refine ⟨D, List.replicate x.length true, rfl, ?_, ?_⟩
      · rw [List.map_replicate]
        exact SqL.of hD'
      · rw [show (List.replicate x.length true).all id = true by rw [List.all_replicate]; simp]
        exact q _ hs
def sp_inner (U : TMany K mg w) : Sp := fun vs H Q _ => ∃ (v : V) (f : Fm) (M : Ms), vs = [v] ∧ Rp M H v f.enc ∧ Mk M H ∧ Pu M H (fun d => d = .tuple (f.subs.map Fm.enc)) Q
theorem ok_inner_forms (T : Txt K mg) (U : TMany K mg w) : FnOk P w K mg base CX0 1 T.f_inner_forms T.d_inner_forms ["form"] (sp_inner U) := by
  refine T.F_inner_forms.ok sc_inner_forms (fun vs H Q E h => ?_) (fun cdv A outer s H vs Q E hr h => ?_)
  · obtain ⟨_, _, _, rfl, _⟩ := h
    rfl
  · obtain ⟨v, f, M, rfl, hR, hM, q⟩ := h
    obtain ⟨a, xs, rfl, na, ha, hx⟩ := hR.form
    refine ⟨_, (pss_cons (ps_if (pt_cmpR (op_in_kd U.kd) (pe_ix (ix_tupK (K := K) rfl) (pv 0) pe_int (fun _ _ => rfl)) (pe_glob (v := .ref U.p) rfl U.g rfl) (by rfl)) (pss_one (ps_ret (pe_slice (sl_tupK (K := K) rfl) (pv 0) (po_some pe_int) po_none))) pss_nil)
      (pss_one (ps_ret (pe_tup pa_nil)))), ?_⟩
    have cut : ∀ (y : V) (r : List V) (es : List PyData), xs = y :: r → r ≠ [] → RpAll M H r es → es = f.subs.map Fm.enc → rSlA K (V.ref a) (some 1) none H Q := by
      rintro y r es rfl hr hR rfl
      refine ⟨a, _, rfl, .inl ha, fun z => ?_, fun _ p hp => ?_⟩
      · exfalso
        have z1 := z.1
        rw [show HT.sIx (y :: r).length 0 (some 1) = min 1 (y :: r).length from HT.sIx_nat _ _ 1] at z1
        rw [List.length_cons] at z1
        omega
      · rw [cut1]
        exact q _ _ _ (same_new hp) (.tup (hM.out hp) (.inl upd_same) (hR.sx (Sx.new hp))) rfl
    cases hx with
    | is n =>
      walk_at "g"
      refine ⟨sIs, none, rfl, rfl, U.is, ?_⟩
      walk_at "g"
      refine ⟨Nat.zero_le _, fun p hp => ?_⟩
      exact q _ _ _ (same_new hp) (.tup (hM.out hp) (.inl upd_same) .nil) rfl
    | get x =>
      walk_at "g"
      refine ⟨sGet, none, rfl, rfl, U.get, ?_⟩
      walk_at "g"
      refine ⟨Nat.zero_le _, fun p hp => ?_⟩
      exact q _ _ _ (same_new hp) (.tup (hM.out hp) (.inl upd_same) .nil) rfl
    | @sum f g u w r1 r2 =>
      obtain ⟨t, ht⟩ := U.sum
      walk_at "g"
      refine ⟨sSum, some (.int 2 t), rfl, rfl, ht, ?_⟩
      walk_at "g"
      exact cut _ _ _ rfl (by simp) (.cons r1 (.one r2)) rfl
    | @same f g u w r1 r2 =>
      obtain ⟨t, ht⟩ := U.same
      walk_at "g"
      refine ⟨sSame, some (.int 2 t), rfl, rfl, ht, ?_⟩
      walk_at "g"
      exact cut _ _ _ rfl (by simp) (.cons r1 (.one r2)) rfl
    | @pick f g k u w z r1 r2 r3 =>
      obtain ⟨t, ht⟩ := U.pick
      walk_at "g"
      refine ⟨sPick, some (.int 3 t), rfl, rfl, ht, ?_⟩
      walk_at "g"
      exact cut _ _ _ rfl (by simp) (.cons r1 (.cons r2 (.one r3))) rfl
def sp_well (U : TMany K mg w) : Sp := fun vs H Q _ => ∃ (v : V) (f : Fm) (M : Ms), vs = [v] ∧ Rp M H v f.enc ∧ f.ok isNm ∧ ∀ H', Same H H' → Q (.bl true) H'
theorem ok_well_made (T : Txt K mg) (U : TMany K mg w) : FnOk P w K mg base CX0 3 T.f__well_made T.d__well_made ["part"] (sp_well U) := by
  have G_is_value := ok_is_value (P := P) (w := w) (base := base) T
  have G_is_name := ok_is_name (P := P) (w := w) (base := base) T
  refine T.F__well_made.ok sc__well_made (fun vs H Q E h => ?_) (fun cdv A outer s H vs Q E hr h => ?_)
  · obtain ⟨_, _, _, rfl, _⟩ := h
    rfl
  · obtain ⟨v, f, M, rfl, hR, ho, q⟩ := h
    obtain ⟨a, xs, rfl, na, ha, hx⟩ := hR.form
    refine ⟨_, (pss_cons (ps_if (PW.pt (pw_or (pt_not (pt_val (pe_callB (call_isi1K (K := K) rfl) (by rfl) T.m_isinstance (by decide +kernel) (pa_cons (pv 0) (pa_cons (pe_bltn (v := .ty "tuple") (u := .type "tuple") (by rfl) T.m_tuple (by decide +kernel) rfl) pa_nil))))) (pw_or (pt_not (pt_truthK (K := K) rfl (pv 0) (by intro _; rfl))) (pw_or1 (pt_not (pt_val (pe_callB (call_isi1K (K := K) rfl) (by rfl) T.m_isinstance (by decide +kernel) (pa_cons (pe_ix (ix_tupK (K := K) rfl) (pv 0) pe_int (fun _ _ => rfl)) (pa_cons (pe_bltn (v := .ty "str") (u := .type "str") (by rfl) T.m_str (by decide +kernel) rfl) pa_nil))))))))) (pss_one (ps_ret pe_bl)) pss_nil)
      (pss_cons (ps_if (pt_cmpR op_eq (pe_ix (ix_tupK (K := K) rfl) (pv 0) pe_int (fun _ _ => rfl)) pe_str (nomark _)) (pss_one (ps_ret (pe_and (pe_cmpR op_eq (pe_callB (call_lenK (K := K) rfl) (by rfl) T.m_len PySem.boot_len (pa_cons (pv 0) pa_nil)) pe_int (nomark _)) (pe_one (pe_call G_is_value (hr.mono (by omega)) (by rfl) T.g_is_value T.F_is_value.kp T.b_is_value .nil pass0 (pa_cons (pe_ix (ix_tupK (K := K) rfl) (pv 0) pe_int (fun _ _ => rfl)) pa_nil)))))) pss_nil)
      (pss_cons (ps_if (pt_cmpR op_eq (pe_ix (ix_tupK (K := K) rfl) (pv 0) pe_int (fun _ _ => rfl)) pe_str (nomark _)) (pss_one (ps_ret (pe_and (pe_cmpR op_eq (pe_callB (call_lenK (K := K) rfl) (by rfl) T.m_len PySem.boot_len (pa_cons (pv 0) pa_nil)) pe_int (nomark _)) (pe_one (pe_call G_is_name (hr.mono (by omega)) (by rfl) T.g_is_name T.F_is_name.kp T.b_is_name .nil pass0 (pa_cons (pe_ix (ix_tupK (K := K) rfl) (pv 0) pe_int (fun _ _ => rfl)) pa_nil)))))) pss_nil)
      (pss_one (ps_ret (pe_and (pe_cmpR (op_in_kd U.kd) (pe_ix (ix_tupK (K := K) rfl) (pv 0) pe_int (fun _ _ => rfl)) (pe_glob (v := .ref U.p) rfl U.g rfl) (by rfl)) (pe_one (pe_cmpR op_eq (pe_callB (call_lenK (K := K) rfl) (by rfl) T.m_len PySem.boot_len (pa_cons (pv 0) pa_nil)) (pe_op op_add (pe_ix ix_kdict (pe_glob (v := .ref U.p) rfl U.g rfl) (pe_ix (ix_tupK (K := K) rfl) (pv 0) pe_int (fun _ _ => rfl)) (fun _ _ => rfl)) pe_int) (nomark _))))))))), ?_⟩
    walk_at "g"
    refine ⟨_, _, _, _, true, rfl, .ty _, rd_ty ha, kit_ty (by decide +kernel), ?_⟩
    cases hx with
    | is n =>
      walk_at "g"
      refine ⟨true, .inr (.inl ⟨_, .inl ha, rfl⟩), ?_⟩
      walk_at "g"
      refine ⟨_, _, _, _, true, rfl, .ty _, .base (.str _), kit_ty (by decide +kernel), ?_⟩
      walk_at "g"
      refine ⟨_, _, rfl, .inr (.inl ha), ?_⟩
      walk_at "g"
      exact ⟨ho.1, ho.2, q _ (Same.refl H)⟩
    | get x =>
      walk_at "g"
      refine ⟨true, .inr (.inl ⟨_, .inl ha, rfl⟩), ?_⟩
      walk_at "g"
      refine ⟨_, _, _, _, true, rfl, .ty _, .base (.str _), kit_ty (by decide +kernel), ?_⟩
      walk_at "g"
      refine ⟨_, _, rfl, .inr (.inl ha), ?_⟩
      walk_at "g"
      exact ⟨ho, q⟩
    | sum r1 r2 =>
      obtain ⟨t, ht⟩ := U.sum
      walk_at "g"
      refine ⟨true, .inr (.inl ⟨_, .inl ha, rfl⟩), ?_⟩
      walk_at "g"
      refine ⟨_, _, _, _, true, rfl, .ty _, .base (.str _), kit_ty (by decide +kernel), ?_⟩
      walk_at "g"
      refine ⟨_, _, rfl, rfl, ht, ?_⟩
      walk_at "g"
      refine ⟨_, _, rfl, .inr (.inl ha), ?_⟩
      walk_at "g"
      refine ⟨_, _, .int 2, rfl, rfl, ⟨_, _, _, U.kd.at_, U.kd.lit, ht, ⟨_, rfl⟩⟩, ?_⟩
      walk_at "g"
      exact q _ (Same.refl H)
    | same r1 r2 =>
      obtain ⟨t, ht⟩ := U.same
      walk_at "g"
      refine ⟨true, .inr (.inl ⟨_, .inl ha, rfl⟩), ?_⟩
      walk_at "g"
      refine ⟨_, _, _, _, true, rfl, .ty _, .base (.str _), kit_ty (by decide +kernel), ?_⟩
      walk_at "g"
      refine ⟨_, _, rfl, rfl, ht, ?_⟩
      walk_at "g"
      refine ⟨_, _, rfl, .inr (.inl ha), ?_⟩
      walk_at "g"
      refine ⟨_, _, .int 2, rfl, rfl, ⟨_, _, _, U.kd.at_, U.kd.lit, ht, ⟨_, rfl⟩⟩, ?_⟩
      walk_at "g"
      exact q _ (Same.refl H)
    | pick r1 r2 r3 =>
      obtain ⟨t, ht⟩ := U.pick
      walk_at "g"
      refine ⟨true, .inr (.inl ⟨_, .inl ha, rfl⟩), ?_⟩
      walk_at "g"
      refine ⟨_, _, _, _, true, rfl, .ty _, .base (.str _), kit_ty (by decide +kernel), ?_⟩
      walk_at "g"
      refine ⟨_, _, rfl, rfl, ht, ?_⟩
      walk_at "g"
      refine ⟨_, _, rfl, .inr (.inl ha), ?_⟩
      walk_at "g"
      refine ⟨_, _, .int 3, rfl, rfl, ⟨_, _, _, U.kd.at_, U.kd.lit, ht, ⟨_, rfl⟩⟩, ?_⟩
      walk_at "g"
      exact q _ (Same.refl H)
/-- sizes on the stack -/
def sp_check (U : TMany K mg w) : Sp := fun vs H Q _ => ∃ (v : V) (f : Fm) (M : Ms), vs = [v] ∧ Rp M H v f.enc ∧ Mk M H ∧ f.ok isNm ∧ f.dep ≤ 5 ∧ ∀ H', Same H H' → Q .non H'
theorem ok_check_form (T : Txt K mg) (U : TMany K mg w) : FnOk P w K mg base CX0 4 T.f_check_form T.d_check_form ["parts"] (sp_check U) := by
  have G__well_made := ok_well_made (P := P) (base := base) T U
  have G_inner_forms := ok_inner_forms (P := P) (base := base) T U
  refine T.F_check_form.ok sc_check_form (fun vs H Q E h => ?_) (fun cdv A outer s H vs Q E hr h => ?_)
  · obtain ⟨_, _, _, rfl, _⟩ := h
    rfl
  · obtain ⟨v, f, M, rfl, hR, hM, ho, hd, q⟩ := h
    refine ⟨_, (pss_cons (ps_set (i := 1) sc_check_form.nd rfl (Or.inl rfl) pe_int)
      (pss_cons (ps_set (i := 2) sc_check_form.nd rfl (Or.inl rfl) (pe_lst (pa_cons (pe_tup (pa_cons (pv 0) (pa_cons pe_int pa_nil))) pa_nil)))
      (pss_cons (ps_while PassesOwn.never (pt_truthK (K := K) rfl (pv 2) (by intro _; rfl)) (pss_cons (ps_asg (pe_bm0K2 (K := K) rfl PySem.F.plainAttrs_list PySem.F.slot_list_pop PySem.F.type_list_pop mt_pop (pv 2)) (pg_tupK (K := K) rfl rfl (pgs_cons (pg_name (i := 3) sc_check_form.nd rfl (Or.inl rfl)) (pgs_cons (pg_name (i := 4) sc_check_form.nd rfl (Or.inr rfl)) pgs_nil))))
      (pss_cons (ps_if (pt_not (pt_val (pe_call G__well_made (hr.mono (by omega)) (by rfl) T.g__well_made T.F__well_made.kp T.b__well_made .nil pass0 (pa_cons (pv 3) pa_nil)))) (pss_one ps_never) pss_nil)
      (pss_cons (ps_if (pt_cmpR op_gt (pv 4) (pv 1) (nomark _)) (pss_one (ps_set (i := 1) sc_check_form.nd rfl (Or.inl rfl) (pv 4))) pss_nil)
      (pss_cons (ps_setLc (i := 5) (own := [("form", 6)]) (g := gName 6) (tt := tYes) (by rfl) sc_check_form.nd rfl rfl (sw_true rfl rfl rfl (by decide +kernel)) (pi_tupK (K := K) rfl (pe_call G_inner_forms (hr.mono (by omega)) (by rfl) T.g_inner_forms T.F_inner_forms.kp T.b_inner_forms .nil pass0 (pa_cons (pv 3) pa_nil))) (blkOk_by (own := [("form", 6)]) (N := ["parts", "deepest", "waiting", "part", "level", "inner", "form"]) (sc := defScope s_check_form) (by decide +kernel)) (fun _ _ _ _ _ => (pg_name (i := 6) sc_check_form.nd rfl (Or.inl rfl))) (fun _ _ _ _ _ => pts_nil) (fun _ _ _ _ _ => (pe_tup (pa_cons (pv 6) (pa_cons (pe_op op_add (pv 4) pe_int) pa_nil)))))
      (pss_one (ps_expr (pe_bmK2 (K := K) rfl PySem.F.plainAttrs_list PySem.F.slot_list_extend PySem.F.type_list_extend mt_extend (pv 2) (pa_cons (pe_revL (pv 5)) pa_nil)))))))))
      (pss_one (ps_if (pt_cmpR op_gt (pv 1) (pe_glob (v := .int 5) rfl T.c_MOST_LEVELS ⟨_, rfl⟩) (nomark _)) (pss_one ps_never) pss_nil))))), ?_⟩
    walk_at "g"
    refine ⟨sz2, fun t ht => ?_⟩
    refine ⟨szK rfl, fun s ns => ?_⟩
    have ts : t ≠ s := ne_of_none upd_same ns
    have ns0 : H s = none := by
      rw [upd_ne ts.symm] at ns
      exact ns
    let N : Ms := also M s
    have hs0 : Same H (upd (upd H t (.tup [v, .int 1])) s (.lst [.ref t])) := fun c o e => same_new ns c o (same_new ht c o e)
    have hMN : Mk N (upd (upd H t (.tup [v, .int 1])) s (.lst [.ref t])) := (hM.gr (Gr.same hs0)).also upd_there
    refine ⟨fun m σ H' => ∃ y3 y4 y5 y6 dp ps xs, σ = [some v, some (.int dp), some (.ref s), y3, y4, y5, y6] ∧ dp ≤ 5 ∧ Same H H' ∧ Mk N H' ∧ H' s = some (.lst xs) ∧ RpAll N H' xs (ps.map lvD) ∧ (∀ p ∈ ps, p.1.ok isNm ∧ p.1.dep + p.2 ≤ 6 ∧ 1 ≤ p.2) ∧ szs ps ≤ 10000 ∧ m = szs ps, ⟨_, none, none, none, none, 0, [(f, 1)], _, rfl, by decide, hs0, hMN, upd_same, ?_, ?_, ?_, rfl⟩, fun m σ H' hW => ?_⟩
    · refine .one (.tup (fun z => z.elim (hM.out ht) ts) (.inl (by rw [upd_ne ts, upd_same]; rfl)) (.cons ?_ (.one (.int _))))
      exact (hR.fresh ns0).sx (Sx.same hs0)
    · intro p hp
      rw [List.mem_singleton.mp hp]
      exact ⟨ho, by show f.dep + 1 ≤ 6; omega, Nat.le_refl _⟩
    · have := Fm.size_le 5 f hd
      show ([(f, 1)].map fun p => p.1.size).sum ≤ 10000
      simp
      omega
    · obtain ⟨y3, y4, y5, y6, dp, ps, xs, rfl, hdp, hs, hMk, es, rs, hp, hsz, rfl⟩ := hW
      have lx := rs.length
      rw [List.length_map] at lx
      walk_at "g"
      refine ⟨!xs.isEmpty, .inl ⟨xs, SqL.of es, rfl⟩, ?_⟩
      walk_at "if"
      · rename_i e
        have hne : ps ≠ [] := fun z => by
          have : xs = [] := List.length_eq_zero_iff.mp (by rw [lx, z]; rfl)
          rw [this] at e
          cases e
        obtain ⟨qs, p, rfl⟩ : ∃ qs p, ps = qs ++ [p] := ⟨ps.dropLast, ps.getLast hne, (List.dropLast_concat_getLast hne).symm⟩
        rw [List.map_append] at rs
        obtain ⟨us, u, rfl, ru, rp⟩ := rs.last
        obtain ⟨pu, xu, rfl, nu, hu, rxu⟩ := Rp.tupN rp
        obtain ⟨w1, w2, rfl, r1, r2⟩ := rxu.inv2
        cases r2
        obtain ⟨fo, fd, fl⟩ := hp p (by simp)
        have hsz2 : szs qs + p.1.size ≤ 10000 := by
          rw [szs_app] at hsz
          exact hsz
        have hM1 : szs (qs ++ [p]) = szs qs + p.1.size := szs_app _ _
        generalize hm : szs (qs ++ [p]) = m at *
        refine ⟨fun σ2 H2 => ∃ y3 y4 y5 y6 dp ps xs, σ2 = [some v, some (.int dp), some (.ref s), y3, y4, y5, y6] ∧ dp ≤ 5 ∧ Same H H2 ∧ Mk N H2 ∧ H2 s = some (.lst xs) ∧ RpAll N H2 xs (ps.map lvD) ∧ (∀ p ∈ ps, p.1.ok isNm ∧ p.1.dep + p.2 ≤ 6 ∧ 1 ≤ p.2) ∧ szs ps < m, fun σ2 H2 h2 => ?_, ?_⟩
        · obtain ⟨y3, y4, y5, y6, dp, ps, xs, a1, a2, a3, a4, a5, a6, a7, a8⟩ := h2
          exact ⟨_, a8, y3, y4, y5, y6, dp, ps, xs, a1, a2, a3, a4, a5, a6, a7, by omega, rfl⟩
        walk_at "g"
        refine ⟨.inl ⟨rfl, _, SqL.of es⟩, s, _, .ref pu, rfl, rfl, es, ?_, ?_⟩
        · rw [List.length_append, List.length_singleton, Nat.add_sub_cancel, List.getElem?_append_right (Nat.le_refl _), Nat.sub_self]
          rfl
        rw [List.dropLast_concat]
        generalize q1 : upd H' s (.lst us) = H1
        have s1 : Sx N H' H1 := q1 ▸ Sx.put (.inr rfl)
        have e1 : H1 s = some (.lst us) := q1 ▸ upd_same
        have hs1 : Same H H1 := q1 ▸ same_put hs ns0
        have g1 : Gr H' H1 := q1 ▸ Gr.upd
        clear q1
        have hu1 := sx_rd s1 nu hu
        have r11 := r1.sx s1
        have hMk1 := hMk.gr g1
        refine ⟨pu, _, rfl, .inl hu1, rfl, _, _, rfl, _, _, rfl, rfl, ?_⟩
        with_reducible refine seq_join (fun σ3 H3 => σ3 = [some v, some (.int dp), some (.ref s), some w1, some (.int (p.2 : Int)), y5, y6] ∧ Same H1 H3) (fun hN => ?_) (fun σ3 H2 c => ?_)
        · walk_at "g"
          exact ⟨_, p.1, N, rfl, r11, fo, fun H2 s2 => ⟨_, rfl, hN _ _ ⟨rfl, s2⟩⟩⟩
        obtain ⟨rfl, s2⟩ := c
        have lev5 : (p.2 : Int) ≤ 5 := by have := p.1.dep_pos; omega
        with_reducible refine seq_join (fun σ3 H3 => ∃ dp', σ3 = [some v, some (.int dp'), some (.ref s), some w1, some (.int (p.2 : Int)), y5, y6] ∧ dp' ≤ 5 ∧ H3 = H2) (fun hN => ?_) (fun σ3 H3 c => ?_)
        · walk_at "g"
          walk_at "if"
          · exact ⟨_, rfl, hN _ _ ⟨_, rfl, lev5, rfl⟩⟩
          · exact hN _ _ ⟨_, rfl, hdp, rfl⟩
        · obtain ⟨dp', rfl, hdp', rfl⟩ := c
          walk_at "g"
          have r12 := r11.sx (Sx.same s2)
          have hMk2 := hMk1.gr (Gr.same s2)
          refine ⟨_, p.1, N, rfl, r12, hMk2, fun v3 H3 d3 s3 r3 e3 => ?_⟩
          subst e3
          obtain ⟨p3, x3, rfl, n3, h3, rx3⟩ := Rp.tupN r3
          have l3 := rx3.length
          rw [List.length_map] at l3
          have hMk3 := hMk2.gr (Gr.same s3)
          refine ⟨p3, rfl, ⟨_, .inl h3⟩, fun D hD => ?_⟩
          refine lc_dataT (xs := x3) (ys := (p.1.subs.map fun g => (g, p.2 + 1)).map lvD) N hMk3 hD (.inl h3) (by rw [List.length_map, List.length_map, l3]) (by have := subs_len p.1; omega) (fun i x y Ha C Nx hx hy hsa hm hC => ?_) (fun H4 s4 L4 => ?_)
          · obtain ⟨d, hd1, rd⟩ := rx3.get hx
            rw [List.getElem?_map] at hd1 hy
            rw [List.getElem?_map] at hy
            obtain ⟨g, hg, rfl⟩ := Option.map_eq_some_iff.mp hd1
            rw [hg] at hy
            cases hy
            refine ⟨rfl, ?_⟩
            walk_at "g"
            refine ⟨sz2, fun u hu => ?_⟩
            refine hC _ _ (same_new hu) (.tup (hm.out hu) (.inl upd_same) (.cons ?_ (.one ?_)))
            · exact (((rd.fresh hD).sx (Sx.same hsa)).sx (Sx.new hu))
            · exact .int _
          · obtain ⟨nD, ys, eD, rD⟩ := L4
            have lD := rD.length
            rw [List.length_map, List.length_map] at lD
            have s24 := s2.trans (s3.trans s4)
            have e4 := s24 _ _ e1
            refine ⟨.ref s, rfl, .inl ⟨rfl, _, SqL.of e4⟩, .ref D, rfl, D, ys, rfl, SqL.of eD, fun z hz => ?_⟩
            have sz : s ≠ z := ne_of_none e4 hz
            have lu := ru.length
            refine ⟨s, z, us, ys.reverse, rfl, rfl, by rw [upd_ne sz]; exact e4, upd_same, ?_, ?_⟩
            · have := szs_len qs
              rw [List.length_map] at lu
              have := subs_len p.1
              rw [List.length_reverse]
              exact Nat.le_of_lt (small1000000 (by omega))
            · have s5 : Sx N H4 (upd (upd H4 z (.lst ys.reverse)) s (.lst (us ++ ys.reverse))) := (Sx.new hz).trans (Sx.put (.inr rfl))
              have hs5 : Same H (upd (upd H4 z (.lst ys.reverse)) s (.lst (us ++ ys.reverse))) := same_put ((hs1.trans s24).trans (same_new hz)) ns0
              refine ⟨_, _, _, _, dp', qs ++ (p.1.subs.map fun g => (g, p.2 + 1)).reverse, us ++ ys.reverse, rfl, hdp', hs5, (hMk3.gr (Gr.same s4)).gr (Gr.upd.trans Gr.upd), upd_same, ?_, ?_, ?_⟩
              · rw [List.map_append, List.map_reverse]
                exact (((ru.sx s1).sx (Sx.same s24)).append rD.reverse).sx s5
              · intro r hr
                rcases List.mem_append.mp hr with hr | hr
                · exact hp r (List.mem_append_left _ hr)
                · rw [List.mem_reverse] at hr
                  obtain ⟨g, hg, rfl⟩ := List.mem_map.mp hr
                  have := subs_dep hg
                  exact ⟨subs_ok fo hg, by show g.dep + (p.2 + 1) ≤ 6; omega, by show 1 ≤ p.2 + 1; omega⟩
              · rw [szs_app, szs_rev]
                have := subs_size p.1 (p.2 + 1)
                omega
      · rename_i e
        walk_at "g"
        rw [decide_eq_false (show ¬ (5 : Int) < dp by omega)]
        exact q _ hs
end
end D

namespace D
open PySem PySem.Spec PyProof.Rows L2
local macro_rules | `(tactic| walk_at "st") => `(tactic| first | exact SqT.of (by assumption) | exact Or.inl (by assumption) | exact SqT.of upd_same | fail "st")
local macro_rules | `(tactic| walk_at "ixt") => `(tactic| refine ⟨_, _, _, _, rfl, rfl, (by walk_at "st" : SqT _ _ _ _), by rfl, ?_⟩)
local macro_rules | `(tactic| walk_at "sq") => `(tactic| first | exact SqL.of (by assumption) | assumption | exact Or.inl (by assumption) | exact SqL.of upd_same | fail "sq")
local macro_rules | `(tactic| walk_at "ix") => `(tactic| refine ⟨_, _, _, _, rfl, rfl, (by walk_at "sq" : SqL _ _ _ _), by rfl, ?_⟩)
local macro_rules | `(tactic| walk_at "set") => `(tactic| refine ⟨_, _, _, _, rfl, rfl, by first | assumption | exact upd_same, by rfl, ?_⟩)
local macro_rules | `(tactic| walk_at "len") => `(tactic| refine ⟨_, _, rfl, Or.inl (by walk_at "sq" : SqL _ _ _ _), ?_⟩)
local macro_rules | `(tactic| walk_at "g") => `(tactic| repeat (first | refine ⟨_, rfl, ?_⟩ | refine ⟨_, _, rfl, rfl, ?_⟩ | refine ⟨Or.inr (by decide), ?_⟩ | refine ⟨Or.inl (by decide), ?_⟩ | refine ⟨(by decide : (0 : Int) < _), ?_⟩ | refine ⟨(⟨by decide, by decide⟩ : CDiv _ _), ?_⟩ | refine ⟨(⟨by decide, by decide, by decide⟩ : CPow _ _), ?_⟩ | refine Or.inl ⟨_, rfl, ?_⟩ | refine ⟨rfl, ?_⟩ | walk_at "ix" | walk_at "ixt" | walk_at "len" | fail "g"))
local macro_rules | `(tactic| walk_at "if") => `(tactic| refine ite2 (fun e => ?_) (fun e => ?_))
section
variable {P : Program} {w : World} {K : PySem.W.Frag} {mg : Str → Option Value} {base : Heap}
def sp_names (d : Nat) : Sp := fun vs H Q _ => ∃ (v : V) (f : Fm) (M : Ms), vs = [v] ∧ Rp M H v f.enc ∧ Mk M H ∧ f.dep ≤ d ∧ d ≤ 5 ∧ Pu M H (fun x => x = .tuple (f.names.map PyData.str)) Q
theorem ok_names_in (T : Txt K mg) (U : TMany K mg w) : ∀ d, FnOk P w K mg base CX0 (d + 2) T.f_names_in T.d_names_in ["form"] (sp_names d) := by
  have G_inner_forms := ok_inner_forms (P := P) (base := base) T U
  intro d
  induction d with
  | zero =>
    refine T.F_names_in.ok sc_names_in (fun vs H Q E h => ?_) (fun cdv A outer s H vs Q E hr h => ?_)
    · obtain ⟨_, _, _, rfl, _⟩ := h
      rfl
    · obtain ⟨v, f, M, rfl, _, _, hd, _⟩ := h
      exact absurd f.dep_pos (by omega)
  | succ d ih =>
    have G_names_in := ih
    refine T.F_names_in.ok sc_names_in (fun vs H Q E h => ?_) (fun cdv A outer s H vs Q E hr h => ?_)
    · obtain ⟨_, _, _, rfl, _⟩ := h
      rfl
    · obtain ⟨v, f, M, rfl, hR, hM, hd, hd5, q⟩ := h
      refine ⟨_, (pss_cons (ps_if (pt_cmpR op_eq (pe_ix (ix_tupK (K := K) rfl) (pv 0) pe_int (fun _ _ => rfl)) pe_str (nomark _)) (pss_one (ps_ret (pe_tup (pa_cons (pe_ix (ix_tupK (K := K) rfl) (pv 0) pe_int (fun _ _ => rfl)) pa_nil)))) pss_nil)
      (pss_cons (ps_set (i := 1) sc_names_in.nd rfl (Or.inl rfl) (pe_lst pa_nil))
      (pss_cons (ps_for PassesOwn.never rfl (pi_tupK (K := K) rfl (pe_call G_inner_forms (hr.mono (by omega)) (by rfl) T.g_inner_forms T.F_inner_forms.kp T.b_inner_forms .nil pass0 (pa_cons (pv 0) pa_nil))) (pg_name (i := 2) sc_names_in.nd rfl (Or.inl rfl)) (pss_one (ps_for PassesOwn.never rfl (pi_tupK (K := K) rfl (pe_call G_names_in (hr.mono (by omega)) (by rfl) T.g_names_in T.F_names_in.kp T.b_names_in .nil pass0 (pa_cons (pv 2) pa_nil))) (pg_name (i := 3) sc_names_in.nd rfl (Or.inl rfl)) (pss_one (ps_if (pt_cmpR (op_notIn_seqK (K := K) rfl) (pv 3) (pv 1) (by rfl)) (pss_one (ps_expr (pe_bmK2 (K := K) rfl PySem.F.plainAttrs_list PySem.F.slot_list_append PySem.F.type_list_append mt_append (pv 1) (pa_cons (pv 3) pa_nil)))) pss_nil)))))
      (pss_one (ps_ret (pe_callTy (call_tupleK (K := K) rfl) (by rfl) T.m_tuple (by decide +kernel) (pa_cons (pv 1) pa_nil))))))), ?_⟩
      have rest : (∀ x, f ≠ .get x) → ∀ (C : TS) (D : Ends), True := fun _ _ _ => trivial
      obtain ⟨a, xs, rfl, na, ha, hx⟩ := id hR.form
      by_cases hg : ∃ x, f = .get x
      · obtain ⟨x, rfl⟩ := hg
        cases hx with
        | get =>
        walk_at "g"
        refine ⟨szK rfl, fun p hp => ?_⟩
        exact q _ _ _ (same_new hp) (.tup (hM.out hp) (.inl upd_same) (.one (.str x))) rfl
      · have hng : ∀ x, f ≠ .get x := fun x e => hg ⟨x, e⟩
        obtain ⟨wd, ys, rfl, hw⟩ : ∃ wd ys, xs = .str wd :: ys ∧ wd ≠ sGet := by
          cases hx with
          | is n => exact ⟨_, _, rfl, by decide⟩
          | get x => exact absurd rfl (hng x)
          | sum a b => exact ⟨_, _, rfl, by decide⟩
          | same a b => exact ⟨_, _, rfl, by decide⟩
          | pick a b c => exact ⟨_, _, rfl, by decide⟩
        walk_at "g"
        refine ⟨_, _, _, _, rfl, rfl, .inl ha, atI_nat (j := 0) rfl, ?_⟩
        walk_at "g"
        rw [decide_eq_false (show ¬ V.str wd = V.str (Str.ofString "get") from fun z => hw (V.str.inj z))]
        walk_at "g"
        refine ⟨Nat.zero_le _, fun l nl => ?_⟩
        walk_at "g"
        let N : Ms := also M l
        generalize q1 : upd H l (.lst []) = H1
        have s1 : Same H H1 := q1 ▸ same_new nl
        have e1 : H1 l = some (.lst []) := q1 ▸ upd_same
        clear q1
        have hMN : Mk N H1 := (hM.gr (Gr.same s1)).also (ne_none e1)
        refine ⟨_, f, N, rfl, (hR.fresh nl).sx (Sx.same s1), hMN, fun v3 H3 d3 s3 r3 e3 => ?_⟩
        subst e3
        obtain ⟨p3, x3, rfl, n3, h3, rx3⟩ := Rp.tupN r3
        have l3 := rx3.length
        rw [List.length_map] at l3
        have e3 := s3 _ _ e1
        refine ⟨p3, rfl, ⟨_, .inl h3⟩, ?_⟩
        refine for_tup (K := K) (a := p3) (xs := x3) (fun i σ H' => ∃ y2 y3, σ = [some (.ref a), some (.ref l), y2, y3] ∧ Same H H' ∧ Sx N H3 H' ∧ Gr H3 H' ∧ H' l = some (.lst (((f.subs.take i).foldl stepN []).map V.str)) ∧ ((f.subs.take i).foldl stepN []).length ≤ i * 1024) ⟨none, none, rfl, s1.trans s3, Sx.refl, Gr.refl, e3, Nat.le_refl _⟩ (fun i σ H' _ p => ?_) (fun i x σ H' hx p => ?_) (fun σ H' p => ?_)
        · obtain ⟨y2, y3, rfl, sh, sx, g, e, le⟩ := p
          exact sx_t sx n3 (.inl h3)
        · obtain ⟨y2, y3, rfl, sh, sx, g, e, le⟩ := p
          obtain ⟨dd, hd1, rd⟩ := (rx3.sx sx).get hx
          rw [List.getElem?_map] at hd1
          obtain ⟨s, hs, rfl⟩ := Option.map_eq_some_iff.mp hd1
          have hsd := subs_dep (List.mem_of_getElem? hs)
          have hi3 : i < 3 := by
            have := (List.getElem?_eq_some_iff.mp hs).1
            have := subs_len f
            omega
          walk_at "g"
          have hMk3 : Mk N H' := (hMN.gr (Gr.same s3)).gr g
          refine ⟨x, s, N, rfl, rd, hMk3, by omega, by omega, fun v4 H4 d4 s4 r4 e4 => ?_⟩
          subst e4
          obtain ⟨p4, x4, rfl, n4, h4, rx4⟩ := Rp.tupN r4
          have ex4 := rx4.ofStrs
          subst ex4
          have nl4 : s.names.length ≤ 1024 := Nat.le_trans s.names_len (Nat.le_trans (Fm.size_le 5 s (by omega)) (by decide))
          have e4 := s4 _ _ e
          generalize hacc : (f.subs.take i).foldl stepN [] = acc at e e4 le
          refine ⟨p4, rfl, ⟨_, .inl h4⟩, ?_⟩
          refine for_tup (K := K) (a := p4) (xs := s.names.map V.str) (fun j σ H5 => ∃ y2 y3, σ = [some (.ref a), some (.ref l), y2, y3] ∧ Same H H5 ∧ Sx N H4 H5 ∧ Gr H4 H5 ∧ H5 l = some (.lst (((s.names.take j).foldl addN acc).map V.str)) ∧ ((s.names.take j).foldl addN acc).length ≤ acc.length + j) ⟨_, _, rfl, sh.trans s4, Sx.refl, Gr.refl, e4, Nat.le_refl _⟩ (fun j σ H5 _ p => ?_) (fun j x σ H5 hx p => ?_) (fun σ H5 p => ?_)
          · obtain ⟨y2, y3, rfl, sh5, sx5, g5, e5, le5⟩ := p
            exact sx_t sx5 n4 (.inl h4)
          · obtain ⟨y2, y3, rfl, sh5, sx5, g5, e5, le5⟩ := p
            rw [List.getElem?_map] at hx
            obtain ⟨n, hn, rfl⟩ := Option.map_eq_some_iff.mp hx
            have hj : j < s.names.length := (List.getElem?_eq_some_iff.mp hn).1
            have hst := fold_take addN acc s.names j n hn
            walk_at "g"
            refine ⟨flat_strs _, ?_⟩
            rw [in_strs]
            walk_at "g"
            walk_at "if"
            · rename_i c
              have c' : n ∉ (s.names.take j).foldl addN acc := of_decide_eq_false (by simpa using c)
              have ha : addN ((s.names.take j).foldl addN acc) n = (s.names.take j).foldl addN acc ++ [n] := if_neg c'
              refine ⟨.ref l, rfl, .inl ⟨rfl, _, SqL.of e5⟩, .str n, rfl, l, _, _, rfl, rfl, e5, ?_, ?_⟩
              · rw [List.length_map]
                exact small1000000 (by omega)
              · refine ⟨_, _, rfl, same_put sh5 nl, sx5.trans (Sx.put (.inr rfl)), g5.trans Gr.upd, ?_, ?_⟩
                · rw [upd_same, hst, ha, List.map_append]
                  rfl
                · rw [hst]
                  have := addN_len ((s.names.take j).foldl addN acc) n
                  omega
            · rename_i c
              have c' : n ∈ (s.names.take j).foldl addN acc := by
                by_cases z : n ∈ (s.names.take j).foldl addN acc
                · exact z
                · exact absurd (by simp [z]) c
              have ha : addN ((s.names.take j).foldl addN acc) n = (s.names.take j).foldl addN acc := if_pos c'
              refine ⟨_, _, rfl, sh5, sx5, g5, ?_, ?_⟩
              · rw [hst, ha]
                exact e5
              · rw [hst, ha]
                omega
          · obtain ⟨y2, y3, rfl, sh5, sx5, g5, e5, le5⟩ := p
            rw [List.length_map, List.take_length] at e5 le5
            have hst := fold_take stepN [] f.subs i s hs
            rw [hacc] at hst
            refine ⟨_, _, rfl, sh5, sx.trans ((Sx.same s4).trans sx5), g.trans ((Gr.same s4).trans g5), ?_, ?_⟩
            · rw [hst]
              exact e5
            · rw [hst]
              show (s.names.foldl addN acc).length ≤ (i + 1) * 1024
              omega
        · obtain ⟨y2, y3, rfl, sh, sx, g, e, le⟩ := p
          rw [show x3.length = f.subs.length from l3, List.take_length, ← names_fold f hng] at e
          walk_at "g"
          refine ⟨l, _, rfl, .inl ⟨SqL.of e, fun p hp => ?_⟩⟩
          have hMH : Mk M H' := hM.gr (Gr.same sh)
          exact q _ _ _ (sh.trans (same_new hp)) (.tup (hMH.out hp) (.inl upd_same) (RpAll.strs _)) rfl
end
end D


namespace D
open PySem PySem.Spec PyProof.Rows L2
local macro_rules | `(tactic| walk_at "st") => `(tactic| first | exact SqT.of (by assumption) | exact Or.inl (by assumption) | exact SqT.of upd_same | fail "st")
local macro_rules | `(tactic| walk_at "ixt") => `(tactic| refine ⟨_, _, _, _, rfl, rfl, (by walk_at "st" : SqT _ _ _ _), by rfl, ?_⟩)
local macro_rules | `(tactic| walk_at "sq") => `(tactic| first | exact SqL.of (by assumption) | assumption | exact Or.inl (by assumption) | exact SqL.of upd_same | fail "sq")
local macro_rules | `(tactic| walk_at "ix") => `(tactic| refine ⟨_, _, _, _, rfl, rfl, (by walk_at "sq" : SqL _ _ _ _), by rfl, ?_⟩)
local macro_rules | `(tactic| walk_at "set") => `(tactic| refine ⟨_, _, _, _, rfl, rfl, by first | assumption | exact upd_same, by rfl, ?_⟩)
local macro_rules | `(tactic| walk_at "len") => `(tactic| refine ⟨_, _, rfl, Or.inl (by walk_at "sq" : SqL _ _ _ _), ?_⟩)
local macro_rules | `(tactic| walk_at "g") => `(tactic| repeat (first | refine ⟨_, rfl, ?_⟩ | refine ⟨_, _, rfl, rfl, ?_⟩ | refine ⟨Or.inr (by decide), ?_⟩ | refine ⟨Or.inl (by decide), ?_⟩ | refine ⟨(by decide : (0 : Int) < _), ?_⟩ | refine ⟨(⟨by decide, by decide⟩ : CDiv _ _), ?_⟩ | refine ⟨(⟨by decide, by decide, by decide⟩ : CPow _ _), ?_⟩ | refine Or.inl ⟨_, rfl, ?_⟩ | refine ⟨rfl, ?_⟩ | walk_at "ix" | walk_at "ixt" | walk_at "len" | fail "g"))
local macro_rules | `(tactic| walk_at "if") => `(tactic| refine ite2 (fun e => ?_) (fun e => ?_))
section
variable {P : Program} {w : World} {K : PySem.W.Frag} {mg : Str → Option Value} {base : Heap}
/-- rows of items -/
def rowD (ns : List Int) : PyData := .tuple (ns.map PyData.int)
theorem Rp.rowAt {M : Ms} {H : Hp} {v : V} {ns : List Int} (h : Rp M H v (rowD ns)) : RowAt M H v ns := by
  obtain ⟨a, xs, rfl, na, ha, rx⟩ := Rp.tupN h
  have ex := rx.ofInts
  subst ex
  exact ⟨a, rfl, na, ha⟩
def goodRow (ns : List Int) : Prop := ns.length ≤ 5 ∧ ns.Nodup ∧ ∀ n ∈ ns, 0 ≤ n ∧ n ≤ 9
def spis_row : Sp := fun vs H Q _ => ∃ (v : V) (ns : List Int) (M : Ms), vs = [v] ∧ RowAt M H v ns ∧ goodRow ns ∧ ∀ H', Same H H' → Q (.bl true) H'
theorem okis_row (T : Txt K mg) : FnOk P w K mg base CX0 3 T.f_is_row T.d_is_row ["thing"] spis_row := by
  have G_is_value := ok_is_value (P := P) (w := w) (base := base) T
  refine T.F_is_row.ok sc_is_row (fun vs H Q E h => ?_) (fun cdv A outer s H vs Q E hr h => ?_)
  · obtain ⟨_, _, _, rfl, _⟩ := h
    rfl
  · obtain ⟨v, ns, M, rfl, hR, ⟨h5, hnd, h9⟩, q⟩ := h
    obtain ⟨a, rfl, na, ha⟩ := hR
    refine ⟨_, (pss_cons (ps_if (PW.pt (pw_or (pt_not (pt_val (pe_callB (call_isi1K (K := K) rfl) (by rfl) T.m_isinstance (by decide +kernel) (pa_cons (pv 0) (pa_cons (pe_bltn (v := .ty "tuple") (u := .type "tuple") (by rfl) T.m_tuple (by decide +kernel) rfl) pa_nil))))) (pw_or1 (pt_cmpR op_gt (pe_callB (call_lenK (K := K) rfl) (by rfl) T.m_len PySem.boot_len (pa_cons (pv 0) pa_nil)) (pe_glob (v := .int 5) rfl T.c_MOST_ITEMS ⟨_, rfl⟩) (nomark _))))) (pss_one (ps_ret pe_bl)) pss_nil)
      (pss_one (ps_ret (pe_and (pe_callB (cr_allK (K := K) rfl rfl) (by rfl) T.m_all (by decide +kernel) (pa_cons (pe_lc (own := [("item", 1)]) (g := gName 1) (tt := tYes) (by rfl) sc_is_row.nd (pi_tupK (K := K) rfl (pv 0)) (blkOk_by (own := [("item", 1)]) (N := ["thing", "item"]) (sc := defScope s_is_row) (by decide +kernel)) (fun _ _ _ _ _ => (pg_name (i := 1) sc_is_row.nd rfl (Or.inl rfl))) (fun _ _ _ _ _ => pts_nil) (fun _ _ _ _ _ => (pe_call G_is_value (hr.mono (by omega)) (by rfl) T.g_is_value T.F_is_value.kp T.b_is_value .nil pass0 (pa_cons (pv 1) pa_nil)))) pa_nil)) (pe_one (pe_cmpR op_eq (pe_lenSetT (K := K) rfl rfl (by rfl) T.m_len (by rfl) T.m_set (pv 0)) (pe_callB (call_lenK (K := K) rfl) (by rfl) T.m_len PySem.boot_len (pa_cons (pv 0) pa_nil)) (nomark _))))))), ?_⟩
    walk_at "g"
    refine ⟨_, _, _, _, true, rfl, .ty _, rd_ty ha, kit_ty (by decide +kernel), ?_⟩
    walk_at "g"
    refine ⟨_, _, rfl, .inr (.inl ha), ?_⟩
    walk_at "g"
    rw [decide_eq_false (show ¬ (5 : Int) < ((ns.map V.int).length : Int) by rw [List.length_map]; omega)]
    walk_at "g"
    refine ⟨⟨_, .inl ha⟩, fun D hD => ?_⟩
    refine lc_valsT (ys := (List.replicate ns.length true).map V.bl) hD (.inl ha) (by rw [List.length_map, List.length_replicate, List.length_map]) (by rw [List.length_map]; omega) (fun i x y H' C N hx hy hs hC => ?_) (fun H' hs hD' => ?_)
    · rw [List.getElem?_map] at hx hy
      obtain ⟨n, hn, rfl⟩ := Option.map_eq_some_iff.mp hx
      obtain ⟨b, hb, rfl⟩ := Option.map_eq_some_iff.mp hy
      have eb : b = true := (List.mem_replicate.mp (List.mem_of_getElem? hb)).2
      subst eb
      have h09 := h9 n (List.mem_of_getElem? hn)
      refine ⟨rfl, ?_⟩
      walk_at "g"
      exact ⟨h09.1, h09.2, hC⟩
    · refine ⟨D, List.replicate ns.length true, rfl, SqL.of hD', ?_⟩
      rw [show (List.replicate ns.length true).all id = true by rw [List.all_replicate]; simp]
      walk_at "g"
      have ha' := same_rd hs ha
      refine ⟨a, ns, rfl, .inl ha', by omega, fun c hc => ?_⟩
      have ec := hc.mpr hnd
      subst ec
      walk_at "g"
      refine ⟨_, _, rfl, .inr (.inl ha'), ?_⟩
      refine ⟨rfl, ?_⟩
      rw [List.length_map, decide_eq_true rfl]
      exact q _ hs
def sp_check_rows : Sp := fun vs H Q _ => ∃ (a : Addr) (xs : List V) (M : Ms), vs = [.ref a] ∧ SqL K H a xs ∧ (∀ x ∈ xs, ∃ ns, RowAt M H x ns ∧ goodRow ns) ∧ ∀ H', Same H H' → Q .non H'
theorem ok_check_rows (T : Txt K mg) : FnOk P w K mg base CX0 4 T.f_check_rows T.d_check_rows ["rows"] (sp_check_rows (K := K)) := by
  have G_is_row := okis_row (P := P) (w := w) (base := base) T
  refine T.F_check_rows.ok sc_check_rows (fun vs H Q E h => ?_) (fun cdv A outer s H vs Q E hr h => ?_)
  · obtain ⟨_, _, _, rfl, _⟩ := h
    rfl
  · obtain ⟨a, xs, M, rfl, hS, hR, q⟩ := h
    refine ⟨_, (pss_one (ps_for PassesOwn.never rfl (pi_listK (K := K) rfl (pv 0)) (pg_name (i := 1) sc_check_rows.nd rfl (Or.inl rfl)) (pss_one (ps_if (pt_not (pt_val (pe_call G_is_row (hr.mono (by omega)) (by rfl) T.g_is_row T.F_is_row.kp T.b_is_row .nil pass0 (pa_cons (pv 1) pa_nil)))) (pss_one ps_never) pss_nil)))), ?_⟩
    walk_at "g"
    refine ⟨⟨_, hS⟩, ?_⟩
    refine for_list (K := K) (a := a) (xs := xs) (fun i σ H' => ∃ y, σ = [some (.ref a), y] ∧ Same H H') ⟨none, rfl, Same.refl H⟩ (fun i σ H' _ p => ?_) (fun i x σ H' hx p => ?_) (fun σ H' p => ?_)
    · obtain ⟨y, rfl, hs⟩ := p
      exact hs.seq hS
    · obtain ⟨y, rfl, hs⟩ := p
      obtain ⟨ns, rd, hg⟩ := hR x (List.mem_of_getElem? hx)
      walk_at "g"
      exact ⟨x, ns, M, rfl, rd.sx (Sx.same hs), hg, fun H2 s2 => ⟨_, rfl, _, rfl, hs.trans s2⟩⟩
    · obtain ⟨y, rfl, hs⟩ := p
      exact q _ hs
/-- item and at -/
def sItem : Str := "item"
def sAt : Str := "at"
def isKN (x : Str) : Prop := x = sItem ∨ x = sAt
def rho (i a : Int) (x : Str) : Int := if x = sItem then i else a
theorem isKN_nm (x : Str) (h : isKN x) : isNm x := by
  rcases h with rfl | rfl <;> exact ⟨by decide +kernel, by decide +kernel, by decide +kernel⟩
theorem Fm.ok_imp {n m : Str → Prop} (h : ∀ x, n x → m x) : ∀ f : Fm, f.ok n → f.ok m
  | .is _, o => o
  | .get x, o => h x o
  | .sum f g, o => ⟨f.ok_imp h o.1, g.ok_imp h o.2⟩
  | .same f g, o => ⟨f.ok_imp h o.1, g.ok_imp h o.2⟩
  | .pick f g k, o => ⟨f.ok_imp h o.1, g.ok_imp h o.2.1, k.ok_imp h o.2.2⟩
/-- keys -/
def goodKey (f : Fm) : Prop := f.dep ≤ 5 ∧ f.ok isKN
def kval (f : Fm) (i a : Int) : Int := f.val (rho i a)
theorem env_kvs (i a : Int) : ∀ x, isKN x → valV (mergeK [] [((Sum.inr sItem : Key), V.int i), (Sum.inr sAt, V.int a)]) (.inr x) = some (.int (rho i a x)) := by
  intro x h
  rcases h with rfl | rfl <;> rfl
def sp_key_value : Sp := fun vs H Q _ => ∃ (v : V) (f : Fm) (M : Ms) (i a : Int), vs = [v, .int i, .int a] ∧ Rp M H v f.enc ∧ goodKey f ∧ ∀ H', Same H H' → Q (.int (kval f i a)) H'
theorem ok_key_value (T : Txt K mg) : FnOk P w K mg base CX0 7 T.f__key_value T.d__key_value ["parts", "item", "at"] sp_key_value := by
  have G_value_of := ok_value_of (P := P) (w := w) (base := base) T 5
  refine T.F__key_value.ok sc__key_value (fun vs H Q E h => ?_) (fun cdv A outer s H vs Q E hr h => ?_)
  · obtain ⟨_, _, _, _, _, rfl, _⟩ := h
    rfl
  · obtain ⟨v, f, M, i, a, rfl, hR, hg, q⟩ := h
    refine ⟨_, (pss_one (ps_ret (pe_call G_value_of (hr.mono (by omega)) (by rfl) T.g_value_of T.F_value_of.kp T.b_value_of .nil pass0 (pa_cons (pv 0) (pa_cons (pe_disp (pps_cons pe_str (pv 1) (pps_cons pe_str (pv 2) pps_nil)) (by rfl) (by rfl) (fun z => by cases z) (by decide)) pa_nil))))), ?_⟩
    walk_at "g"
    intro p hp
    walk_at "g"
    refine ⟨upd_same, [(Sum.inr sItem, .int i), (Sum.inr sAt, .int a)], rfl, (by show 2 ≤ 15; decide), ?_⟩
    rw [upd_upd]
    have s1 := same_new (o := .dK (mergeK [] [((Sum.inr sItem : Key), V.int i), (Sum.inr sAt, V.int a)])) hp
    exact ⟨v, p, f, M, _, rho i a, isKN, rfl, hR.sx (Sx.same s1), hg.1, hg.2, upd_same, env_kvs i a, q _ s1⟩
end
end D


namespace D
open PySem PySem.Spec PyProof.Rows L2
local macro_rules | `(tactic| walk_at "st") => `(tactic| first | exact SqT.of (by assumption) | exact Or.inl (by assumption) | exact SqT.of upd_same | fail "st")
local macro_rules | `(tactic| walk_at "ixt") => `(tactic| refine ⟨_, _, _, _, rfl, rfl, (by walk_at "st" : SqT _ _ _ _), by rfl, ?_⟩)
local macro_rules | `(tactic| walk_at "sq") => `(tactic| first | exact SqL.of (by assumption) | assumption | exact Or.inl (by assumption) | exact SqL.of upd_same | fail "sq")
local macro_rules | `(tactic| walk_at "ix") => `(tactic| refine ⟨_, _, _, _, rfl, rfl, (by walk_at "sq" : SqL _ _ _ _), by rfl, ?_⟩)
local macro_rules | `(tactic| walk_at "set") => `(tactic| refine ⟨_, _, _, _, rfl, rfl, by first | assumption | exact upd_same, by rfl, ?_⟩)
local macro_rules | `(tactic| walk_at "len") => `(tactic| refine ⟨_, _, rfl, Or.inl (by walk_at "sq" : SqL _ _ _ _), ?_⟩)
local macro_rules | `(tactic| walk_at "g") => `(tactic| repeat (first | refine ⟨_, rfl, ?_⟩ | refine ⟨_, _, rfl, rfl, ?_⟩ | refine ⟨Or.inr (by decide), ?_⟩ | refine ⟨Or.inl (by decide), ?_⟩ | refine ⟨(by decide : (0 : Int) < _), ?_⟩ | refine ⟨(⟨by decide, by decide⟩ : CDiv _ _), ?_⟩ | refine ⟨(⟨by decide, by decide, by decide⟩ : CPow _ _), ?_⟩ | refine Or.inl ⟨_, rfl, ?_⟩ | refine ⟨rfl, ?_⟩ | walk_at "ix" | walk_at "ixt" | walk_at "len" | fail "g"))
local macro_rules | `(tactic| walk_at "if") => `(tactic| refine ite2 (fun e => ?_) (fun e => ?_))
section
variable {P : Program} {w : World} {K : PySem.W.Frag} {mg : Str → Option Value} {base : Heap}
/-- a key that stands -/
def sParts : Str := "_parts"
def KeyAt (C : Addr) (M : Ms) (H : Hp) (k : V) (f : Fm) : Prop := ∃ a dx u, k = .ref a ∧ ¬ M a ∧ H a = some (.ins C dx [(sParts, u)]) ∧ Rp M H u f.enc ∧ goodKey f
theorem KeyAt.sx {C : Addr} {M : Ms} {H H' : Hp} {k : V} {f : Fm} (h : KeyAt C M H k f) (s : Sx M H H') : KeyAt C M H' k f := by
  obtain ⟨a, dx, u, e, n, ha, r, g⟩ := h
  exact ⟨a, dx, u, e, n, s _ _ n ha, r.sx s, g⟩
def sp_init (U : TMany K mg w) (C : Addr) : Sp := fun vs H Q _ => ∃ (a dx : Addr) (v : V) (f : Fm) (M : Ms), vs = [.ref a, v] ∧ H a = some (.ins C dx []) ∧ Rp M H v f.enc ∧ Mk M H ∧ goodKey f ∧ ∀ H', Same H H' → Q .non (upd H' a (.ins C dx [(sParts, v)]))
theorem ok_init (T : Txt K mg) (U : TMany K mg w) : FnOk P w K mg base CX0 8 T.f_Key___init__ T.d_Key___init__ ["self", "form"] (sp_init U T.C_Key) := by
  have G_check_form := ok_check_form (P := P) (w := w) (base := base) T U
  have G_names_in := ok_names_in (P := P) (w := w) (base := base) T U 5
  refine T.F_Key___init__.ok sc_Key___init__ (fun vs H Q E h => ?_) (fun cdv A outer s H vs Q E hr h => ?_)
  · obtain ⟨_, _, _, _, _, rfl, _⟩ := h
    rfl
  · obtain ⟨a, dx, v, f, M, rfl, ha, hR, hM, hg, q⟩ := h
    refine ⟨_, (pss_cons (ps_expr (pe_call G_check_form (hr.mono (by omega)) (by rfl) T.g_check_form T.F_check_form.kp T.b_check_form .nil pass0 (pa_cons (pv 1) pa_nil)))
      (pss_cons (ps_for PassesOwn.never rfl (pi_tupK (K := K) rfl (pe_call G_names_in (hr.mono (by omega)) (by rfl) T.g_names_in T.F_names_in.kp T.b_names_in .nil pass0 (pa_cons (pv 1) pa_nil))) (pg_name (i := 2) sc_Key___init__.nd rfl (Or.inl rfl)) (pss_one (ps_if (pt_cmpR (op_notIn_seqK (K := K) rfl) (pv 2) (pe_tup (pa_cons pe_str (pa_cons pe_str pa_nil))) (by rfl)) (pss_one ps_never) pss_nil)))
      (pss_one (ps_fld (pv 0) (pv 1) rfl)))), ?_⟩
    walk_at "g"
    refine ⟨v, f, M, rfl, hR, hM, f.ok_imp isKN_nm hg.2, hg.1, fun H1 s1 => ?_⟩
    walk_at "g"
    refine ⟨v, f, M, rfl, hR.sx (Sx.same s1), hM.gr (Gr.same s1), hg.1, by decide, fun w' H2 d s2 hR2 hd => ?_⟩
    subst hd
    obtain ⟨b, xs, rfl, nb, hb, rx⟩ := Rp.tupN hR2
    have ex := rx.ofStrs
    subst ex
    walk_at "g"
    refine ⟨⟨_, .inl hb⟩, ?_⟩
    refine for_tup (K := K) (a := b) (xs := f.names.map V.str) (fun i σ H' => ∃ y, σ = [some (.ref a), some v, y] ∧ Same H2 H') ⟨none, rfl, Same.refl _⟩ (fun i σ H' _ p => ?_) (fun i x σ H' hx p => ?_) (fun σ H' p => ?_)
    · obtain ⟨y, rfl, hs⟩ := p
      exact same_sqt hs (.inl hb)
    · obtain ⟨y, rfl, hs⟩ := p
      rw [List.getElem?_map] at hx
      obtain ⟨nm, hn, rfl⟩ := Option.map_eq_some_iff.mp hx
      have hk : isKN nm := f.names_ok hg.2 nm (List.mem_of_getElem? hn)
      walk_at "g"
      refine ⟨by decide, fun p hp => ?_⟩
      refine ⟨p, _, rfl, .inr (SqT.of upd_same), rfl, rfl, ?_⟩
      have e1 : inV (.str nm) [.str sItem, .str sAt] = true := by rcases hk with rfl | rfl <;> decide +kernel
      refine ⟨_, rfl, ?_⟩
      show if (!inV (.str nm) [.str sItem, .str sAt]) = true then _ else _
      rw [e1]
      exact ⟨_, rfl, hs.trans (same_new hp)⟩
    · obtain ⟨y, rfl, hs⟩ := p
      walk_at "g"
      have s3 := s1.trans (s2.trans hs)
      exact ⟨a, _, dx, [], rfl, s3 _ _ ha, T.cl_Key, T.nA_Key__parts, by decide, q _ s3⟩
def sp_parts (T : Txt K mg) : Sp := fun vs H Q _ => ∃ (k : V) (f : Fm) (M : Ms), vs = [k] ∧ KeyAt T.C_Key M H k f ∧ ∀ v, Rp M H v f.enc → Q v H
theorem ok_parts (T : Txt K mg) : FnOk P w K mg base CX0 1 T.f_Key_parts T.d_Key_parts ["self"] (sp_parts T) := by
  refine T.F_Key_parts.ok sc_Key_parts (fun vs H Q E h => ?_) (fun cdv A outer s H vs Q E hr h => ?_)
  · obtain ⟨_, _, _, rfl, _⟩ := h
    rfl
  · obtain ⟨k, f, M, rfl, ⟨a, dx, u, rfl, na, ha, hR, hg⟩, q⟩ := h
    refine ⟨_, (pss_one (ps_ret (pe_fldK (K := K) rfl (pv 0) rfl))), ?_⟩
    walk_at "g"
    exact ⟨a, _, dx, _, u, rfl, ha, T.cl_Key, T.nA_Key__parts, rfl, q u hR⟩
def sp_kcall (T : Txt K mg) : Sp := fun vs H Q _ => ∃ (k : V) (f : Fm) (M : Ms) (i a : Int), vs = [k, .int i, .int a] ∧ KeyAt T.C_Key M H k f ∧ ∀ H', Same H H' → Q (.int (kval f i a)) H'
theorem ok_kcall (T : Txt K mg) : FnOk P w K mg base CX0 8 T.f_Key___call__ T.d_Key___call__ ["self", "item", "at"] (sp_kcall T) := by
  have G__key_value := ok_key_value (P := P) (w := w) (base := base) T
  refine T.F_Key___call__.ok sc_Key___call__ (fun vs H Q E h => ?_) (fun cdv A outer s H vs Q E hr h => ?_)
  · obtain ⟨_, _, _, _, _, rfl, _⟩ := h
    rfl
  · obtain ⟨k, f, M, i, b, rfl, ⟨a, dx, u, rfl, na, ha, hR, hg⟩, q⟩ := h
    refine ⟨_, (pss_one (ps_ret (pe_call G__key_value (hr.mono (by omega)) (by rfl) T.g__key_value T.F__key_value.kp T.b__key_value .nil pass0 (pa_cons (pe_fldK (K := K) rfl (pv 0) rfl) (pa_cons (pv 1) (pa_cons (pv 2) pa_nil)))))), ?_⟩
    walk_at "g"
    refine ⟨a, _, dx, _, u, rfl, ha, T.cl_Key, T.nA_Key__parts, rfl, ?_⟩
    walk_at "g"
    exact ⟨u, f, M, i, b, rfl, hR, hg, q⟩
/-- idents -/
def wsOf (f : Fm) (ns : List Int) : List Int := ns.mapIdx fun i n => kval f n (i : Nat)
def idsOf (ws : List Int) : List PyData := ws.mapIdx fun i w => .tuple [.int w, .int ((ws.take i).count w : Nat)]
def identD (f : Fm) (ns : List Int) : PyData := .tuple (idsOf (wsOf f ns))
def sp_ids (T : Txt K mg) : Sp := fun vs H Q _ => ∃ (k v : V) (f : Fm) (ns : List Int) (M : Ms), vs = [k, v] ∧ KeyAt T.C_Key M H k f ∧ RowAt M H v ns ∧ ns.length ≤ 5 ∧ Mk M H ∧ Pu M H (fun d => d = identD f ns) Q
theorem ok_ids (T : Txt K mg) : FnOk P w K mg base CX0 9 T.f__idents T.d__idents ["key", "row"] (sp_ids T) := by
  have G_Key___call__ := ok_kcall (P := P) (w := w) (base := base) T
  refine T.F__idents.ok sc__idents (fun vs H Q E h => ?_) (fun cdv A outer s H vs Q E hr h => ?_)
  · obtain ⟨_, _, _, _, _, rfl, _⟩ := h
    rfl
  · obtain ⟨k, v, f, ns, M, rfl, hK, hR, h5, hM, q⟩ := h
    obtain ⟨b, rfl, nb, hb⟩ := hR
    refine ⟨_, (pss_cons (ps_set (i := 2) sc__idents.nd rfl (Or.inr rfl) (pe_lc (own := [("at", 3), ("item", 4)]) (g := gTup K 2 (gCons (gName 3) (gCons (gName 4) gNil))) (tt := tYes) (by rfl) sc__idents.nd (pi_enumTK (K := K) rfl (by rfl) T.m_enumerate (pa_cons (pv 1) pa_nil)) (blkOk_by (own := [("at", 3), ("item", 4)]) (N := ["key", "row", "values", "at", "item", "value"]) (sc := defScope s__idents) (by decide +kernel)) (fun _ _ _ _ _ => (pg_tupK (K := K) rfl rfl (pgs_cons (pg_name (i := 3) sc__idents.nd rfl (Or.inl rfl)) (pgs_cons (pg_name (i := 4) sc__idents.nd rfl (Or.inl rfl)) pgs_nil)))) (fun _ _ _ _ _ => pts_nil) (fun _ _ _ _ _ => (pe_callOI ⟨T.a_Key___call__, T.i_Key___call__, T.n_Key___call__⟩ G_Key___call__ T.b_Key___call__ (hr.mono (by omega)) pass0 (pv 0) (pa_cons (pv 4) (pa_cons (pv 3) pa_nil))))))
      (pss_one (ps_ret (pe_callTy (call_tupleK (K := K) rfl) (by rfl) T.m_tuple (by decide +kernel) (pa_cons (pe_lc (own := [("at", 3), ("value", 5)]) (g := gTup K 2 (gCons (gName 3) (gCons (gName 5) gNil))) (tt := tYes) (by rfl) sc__idents.nd (pi_enumK (K := K) rfl (by rfl) T.m_enumerate (pa_cons (pv 2) pa_nil)) (blkOk_by (own := [("at", 3), ("value", 5)]) (N := ["key", "row", "values", "at", "item", "value"]) (sc := defScope s__idents) (by decide +kernel)) (fun _ _ _ _ _ => (pg_tupK (K := K) rfl rfl (pgs_cons (pg_name (i := 3) sc__idents.nd rfl (Or.inl rfl)) (pgs_cons (pg_name (i := 5) sc__idents.nd rfl (Or.inl rfl)) pgs_nil)))) (fun _ _ _ _ _ => pts_nil) (fun _ _ _ _ _ => (pe_tup (pa_cons (pv 5) (pa_cons (pe_bmK2 (K := K) rfl PySem.F.plainAttrs_list PySem.F.slot_list_count PySem.F.type_list_count (mt_lcountK (K := K) rfl) (pe_slice (sl_listK (K := K) rfl) (pv 2) po_none (po_some (pv 3))) (pa_cons (pv 5) pa_nil)) pa_nil))))) pa_nil))))), ?_⟩
    walk_at "g"
    refine ⟨b, _, rfl, .inl hb, fun D hD => ?_⟩
    have lw : ((wsOf f ns).map V.int).length = (ns.map V.int).length := by
      rw [List.length_map, List.length_map]
      exact List.length_mapIdx
    refine lc_enumTV (ys := (wsOf f ns).map V.int) hD (.inl hb) lw (by rw [List.length_map]; omega) (fun i x y T' H' C N hx hy hT hs hDn hC => ?_) (fun H' hs hD' => ?_)
    · rw [List.getElem?_map] at hx hy
      obtain ⟨n, hn, rfl⟩ := Option.map_eq_some_iff.mp hx
      obtain ⟨w', hw, rfl⟩ := Option.map_eq_some_iff.mp hy
      have ew : w' = kval f n (i : Nat) := by
        unfold wsOf at hw
        rw [List.getElem?_mapIdx, hn] at hw
        exact (Option.some.inj hw).symm
      subst ew
      refine ⟨T', _, rfl, SqT.of upd_same, rfl, _, _, rfl, _, _, rfl, rfl, ?_⟩
      refine ⟨rfl, ?_⟩
      walk_at "g"
      have hK' := hK.sx (Sx.same (hs.trans (same_new (o := .tup [.int (i : Nat), .int n]) hT)))
      obtain ⟨a0, dx, u, rfl, na, ha, hu, hg⟩ := hK'
      refine ⟨a0, dx, [(sParts, u)], rfl, ?_⟩
      walk_at "g"
      refine ⟨ha, ?_⟩
      exact ⟨_, f, M, n, (i : Nat), rfl, ⟨a0, dx, u, rfl, na, ha, hu, hg⟩, fun H2 s2 => hC H2 s2⟩
    · walk_at "g"
      refine ⟨D, _, rfl, SqL.of hD', fun D2 hD2 => ?_⟩
      have l2 : (idsOf (wsOf f ns)).length = ((wsOf f ns).map V.int).length := by
        rw [List.length_map]
        exact List.length_mapIdx
      have lw5 : ((wsOf f ns).map V.int).length ≤ 5 := by rw [lw, List.length_map]; exact h5
      have hM' := hM.gr (Gr.same hs)
      refine lc_enumD (ys := idsOf (wsOf f ns)) M hM' hD2 (SqL.of hD') l2 (by omega) (fun i x y T' H2 C N hx hy hT s1 hMk hC => ?_) (fun H2 s2 hL => ?_)
      · rw [List.getElem?_map] at hx
        obtain ⟨w', hw, rfl⟩ := Option.map_eq_some_iff.mp hx
        have ey : y = .tuple [.int w', .int (((wsOf f ns).take i).count w' : Nat)] := by
          unfold idsOf at hy
          rw [List.getElem?_mapIdx, hw] at hy
          exact (Option.some.inj hy).symm
        subst ey
        have eD : upd H2 T' (.tup [.int (i : Nat), .int w']) D = some (.lst ((wsOf f ns).map V.int)) := same_new hT _ _ (s1 _ _ hD')
        refine ⟨T', _, rfl, SqT.of upd_same, rfl, _, _, rfl, _, _, rfl, rfl, ?_⟩
        refine ⟨rfl, ?_⟩
        walk_at "g"
        refine ⟨D, _, rfl, SqL.of eD, fun p hp => ⟨.inl ⟨rfl, _, SqL.of upd_same⟩, ?_⟩⟩
        refine ⟨_, rfl, p, (wsOf f ns).take i, w', rfl, rfl, SqL.of (by rw [upd_same, cut_hi, List.map_take]), ?_⟩
        refine ⟨szK rfl, fun p2 hp2 => ?_⟩
        have n1 : Same (upd H2 T' (.tup [.int (i : Nat), .int w'])) (upd (upd H2 T' (.tup [.int (i : Nat), .int w'])) p (.lst (cutV ((wsOf f ns).map V.int) none (some (i : Nat))))) := same_new hp
        refine hC _ _ (n1.trans (same_new hp2)) (.tup ((hMk.gr (Gr.same n1)).out hp2) (.inl upd_same) (.cons (.int _) (.one (.int _))))
      · walk_at "g"
        obtain ⟨nD, xs, eD2, rD⟩ := hL
        refine ⟨D2, xs, rfl, .inl ⟨SqL.of eD2, fun p hp => ?_⟩⟩
        have n1 : Same H2 (upd H2 p (.tup xs)) := same_new hp
        exact q _ _ _ (hs.trans (s2.trans n1)) (.tup ((hM'.gr (Gr.same s2)).out hp) (.inl upd_same) (rD.sx (Sx.same n1))) rfl
def sp_idents (T : Txt K mg) : Sp := fun vs H Q _ => ∃ (k v : V) (f : Fm) (ns : List Int) (M : Ms), vs = [k, v] ∧ KeyAt T.C_Key M H k f ∧ RowAt M H v ns ∧ goodRow ns ∧ Mk M H ∧ Pu M H (fun d => d = identD f ns) Q
theorem ok_idents (T : Txt K mg) : FnOk P w K mg base CX0 10 T.f_Key_idents T.d_Key_idents ["self", "row"] (sp_idents T) := by
  have G_check_rows := ok_check_rows (P := P) (w := w) (base := base) T
  have G__idents := ok_ids (P := P) (w := w) (base := base) T
  refine T.F_Key_idents.ok sc_Key_idents (fun vs H Q E h => ?_) (fun cdv A outer s H vs Q E hr h => ?_)
  · obtain ⟨_, _, _, _, _, rfl, _⟩ := h
    rfl
  · obtain ⟨k, v, f, ns, M, rfl, hK, hR, hg, hM, q⟩ := h
    refine ⟨_, (pss_cons (ps_expr (pe_call G_check_rows (hr.mono (by omega)) (by rfl) T.g_check_rows T.F_check_rows.kp T.b_check_rows .nil pass0 (pa_cons (pe_lst (pa_cons (pv 1) pa_nil)) pa_nil)))
      (pss_one (ps_ret (pe_call G__idents (hr.mono (by omega)) (by rfl) T.g__idents T.F__idents.kp T.b__idents .nil pass0 (pa_cons (pv 0) (pa_cons (pv 1) pa_nil)))))), ?_⟩
    walk_at "g"
    refine ⟨szK rfl, fun p hp => ?_⟩
    have n1 : Same H (upd H p (.lst [v])) := same_new hp
    refine ⟨p, [v], M, rfl, SqL.of upd_same, fun x hx => ⟨ns, by rw [List.mem_singleton.mp hx]; exact hR.sx (Sx.same n1), hg⟩, fun H1 s1 => ?_⟩
    walk_at "g"
    have s2 := n1.trans s1
    exact ⟨k, v, f, ns, M, rfl, hK.sx (Sx.same s2), hR.sx (Sx.same s2), hg.1, hM.gr (Gr.same s2), fun w' H2 d s3 r3 hd => q w' H2 d (s2.trans s3) r3 hd⟩
end
end D

namespace D
open PySem PySem.Spec PyProof.Rows L2
local macro_rules | `(tactic| walk_at "st") => `(tactic| first | exact SqT.of (by assumption) | exact Or.inl (by assumption) | exact SqT.of upd_same | fail "st")
local macro_rules | `(tactic| walk_at "ixt") => `(tactic| refine ⟨_, _, _, _, rfl, rfl, (by walk_at "st" : SqT _ _ _ _), by rfl, ?_⟩)
local macro_rules | `(tactic| walk_at "sq") => `(tactic| first | exact SqL.of (by assumption) | assumption | exact Or.inl (by assumption) | exact SqL.of upd_same | fail "sq")
local macro_rules | `(tactic| walk_at "ix") => `(tactic| refine ⟨_, _, _, _, rfl, rfl, (by walk_at "sq" : SqL _ _ _ _), by rfl, ?_⟩)
local macro_rules | `(tactic| walk_at "set") => `(tactic| refine ⟨_, _, _, _, rfl, rfl, by first | assumption | exact upd_same, by rfl, ?_⟩)
local macro_rules | `(tactic| walk_at "len") => `(tactic| refine ⟨_, _, rfl, Or.inl (by walk_at "sq" : SqL _ _ _ _), ?_⟩)
local macro_rules | `(tactic| walk_at "g") => `(tactic| repeat (first | refine ⟨_, rfl, ?_⟩ | refine ⟨_, _, rfl, rfl, ?_⟩ | refine ⟨Or.inr (by decide), ?_⟩ | refine ⟨Or.inl (by decide), ?_⟩ | refine ⟨(by decide : (0 : Int) < _), ?_⟩ | refine ⟨(⟨by decide, by decide⟩ : CDiv _ _), ?_⟩ | refine ⟨(⟨by decide, by decide, by decide⟩ : CPow _ _), ?_⟩ | refine Or.inl ⟨_, rfl, ?_⟩ | refine ⟨rfl, ?_⟩ | walk_at "ix" | walk_at "ixt" | walk_at "len" | fail "g"))
local macro_rules | `(tactic| walk_at "if") => `(tactic| refine ite2 (fun e => ?_) (fun e => ?_))
section
variable {P : Program} {w : World} {K : PySem.W.Frag} {mg : Str → Option Value} {base : Heap}
@[irreducible] def prs (f g : Fm) : List (Int × Int) := (List.range 50).map fun t => (kval f ((t / 5 : Nat) : Int) ((t % 5 : Nat) : Int), kval g ((t / 5 : Nat) : Int) ((t % 5 : Nat) : Int))
def funOk (L : List (Int × Int)) : Bool := decide (∀ p ∈ L, ∀ q ∈ L, p.2 = q.2 → p.1 = q.1)
def toldB (L : List (Int × Int)) (p : Int × Int) : Bool := decide (valV (toldK L) (.inl p.2) = some (.int p.1))
theorem told_funOk (L : List (Int × Int)) : (L.map (toldB L)).all id = funOk L := by
  unfold funOk
  rw [Bool.eq_iff_iff, decide_eq_true_iff, List.all_map, List.all_eq_true]
  constructor
  · intro h p hp x hx e
    have h1 : valV (toldK L) (.inl p.2) = some (.int p.1) := of_decide_eq_true (h p hp)
    have h2 : valV (toldK L) (.inl x.2) = some (.int x.1) := of_decide_eq_true (h x hx)
    rw [e, h2] at h1
    exact (V.int.inj (Option.some.inj h1)).symm
  · intro h p hp
    obtain ⟨v, ev, hv⟩ := told_get hp
    have e1 : v = p.1 := h _ hv p hp rfl
    rw [e1] at ev
    exact decide_eq_true ev
theorem toldB_at {L : List (Int × Int)} {p : Int × Int} {v : Int} (e : valV (toldK L) (.inl p.2) = some (.int v)) : toldB L p = decide (V.int v = V.int p.1) := by
  unfold toldB
  rw [e, decide_eq_decide]
  exact ⟨fun e => Option.some.inj e, fun e => by rw [e]⟩
def atMost (f g : Fm) : Bool := funOk (prs f g)
def prD (p : Int × Int) : PyData := .tuple [.int p.1, .int p.2]
theorem prs_at (f g : Fm) {i j : Nat} (hi : i < 10) (hj : j < 5) : (prs f g)[i * 5 + j]? = some (kval f (i : Int) (j : Int), kval g (i : Int) (j : Int)) := by
  unfold prs
  rw [List.getElem?_map, List.getElem?_range (by omega)]
  have e1 : (i * 5 + j) / 5 = i := by omega
  have e2 : (i * 5 + j) % 5 = j := by omega
  show some (kval f (((i * 5 + j) / 5 : Nat) : Int) (((i * 5 + j) % 5 : Nat) : Int), kval g (((i * 5 + j) / 5 : Nat) : Int) (((i * 5 + j) % 5 : Nat) : Int)) = some _
  rw [e1, e2]
theorem prs_len (f g : Fm) : (prs f g).length = 50 := by
  unfold prs
  rw [List.length_map, List.length_range]
def sp_le (T : Txt K mg) : Sp := fun vs H Q _ => ∃ (k1 k2 : V) (f g : Fm) (M : Ms), vs = [k1, k2] ∧ KeyAt T.C_Key M H k1 f ∧ KeyAt T.C_Key M H k2 g ∧ Mk M H ∧ ∀ H', Same H H' → Q (.bl (atMost f g)) H'
theorem ok_le (T : Txt K mg) : FnOk P w K mg base CX0 8 T.f_Key___le__ T.d_Key___le__ ["self", "other"] (sp_le T) := by
  have G__key_value := ok_key_value (P := P) (w := w) (base := base) T
  refine T.F_Key___le__.ok sc_Key___le__ (fun vs H Q E h => ?_) (fun cdv A outer s H vs Q E hr h => ?_)
  · obtain ⟨_, _, _, _, _, rfl, _⟩ := h
    rfl
  · obtain ⟨k1, k2, f, g, M, rfl, hK1, hK2, hM, q⟩ := h
    refine ⟨_, (pss_cons (ps_if (pt_not (pt_val (pe_callB (call_isCK T.in_Key) (by rfl) T.m_isinstance (by decide +kernel) (pa_cons (pv 1) (pa_cons (pe_glob (v := .ref T.C_Key) rfl T.g_Key rfl) pa_nil))))) (pss_one ps_never) pss_nil)
      (pss_cons (ps_setLc2 (i := 2) (own := [("item", 4), ("at", 5)]) (vs1 := [5]) (g := gName 4) (g1 := gName 5) (tt := tYes) (tt1 := tYes)  (by rfl) sc_Key___le__.nd rfl rfl (sw_true rfl rfl rfl (by decide +kernel)) (pi_range1 (by rfl) T.m_range (pa_cons pe_int pa_nil)) (blkOk_by (own := [("item", 4), ("at", 5)]) (N := ["self", "other", "values", "told", "item", "at", "first", "second"]) (sc := defScope s_Key___le__) (by decide +kernel)) (by decide) (fun _ _ _ _ _ => (pg_name (i := 4) sc_Key___le__.nd rfl (Or.inl rfl))) (fun _ _ _ _ _ => pts_nil) (fun _ _ _ _ _ => (pi_range1 (by rfl) T.m_range (pa_cons (pe_glob (v := .int 5) rfl T.c_MOST_ITEMS ⟨_, rfl⟩) pa_nil))) (fun _ _ _ _ _ => (pg_name (i := 5) sc_Key___le__.nd rfl (Or.inl rfl))) (fun _ _ _ _ _ => pts_nil) (fun _ _ _ _ _ => (pe_tup (pa_cons (pe_call G__key_value (hr.mono (by omega)) (by rfl) T.g__key_value T.F__key_value.kp T.b__key_value .nil pass0 (pa_cons (pe_fldK (K := K) rfl (pv 0) rfl) (pa_cons (pv 4) (pa_cons (pv 5) pa_nil)))) (pa_cons (pe_call G__key_value (hr.mono (by omega)) (by rfl) T.g__key_value T.F__key_value.kp T.b__key_value .nil pass0 (pa_cons (pe_fldK (K := K) rfl (pv 1) rfl) (pa_cons (pv 4) (pa_cons (pv 5) pa_nil)))) pa_nil)))))
      (pss_cons (ps_set (i := 3) sc_Key___le__.nd rfl (Or.inr rfl) (pe_dc (own := [("first", 6), ("second", 7)]) (g := gTup K 2 (gCons (gName 6) (gCons (gName 7) gNil))) (tt := tYes) (by rfl) sc_Key___le__.nd (pi_listK (K := K) rfl (pv 2)) (blkOk_by (own := [("first", 6), ("second", 7)]) (N := ["self", "other", "values", "told", "item", "at", "first", "second"]) (sc := defScope s_Key___le__) (by decide +kernel)) (fun _ _ _ _ _ => (pg_tupK (K := K) rfl rfl (pgs_cons (pg_name (i := 6) sc_Key___le__.nd rfl (Or.inl rfl)) (pgs_cons (pg_name (i := 7) sc_Key___le__.nd rfl (Or.inl rfl)) pgs_nil)))) (fun _ _ _ _ _ => pts_nil) (fun _ _ _ _ _ => (pv 7)) (fun _ _ _ _ _ => (pv 6))))
      (pss_one (ps_ret (pe_callB (cr_allK (K := K) rfl rfl) (by rfl) T.m_all (by decide +kernel) (pa_cons (pe_lc (own := [("first", 6), ("second", 7)]) (g := gTup K 2 (gCons (gName 6) (gCons (gName 7) gNil))) (tt := tYes) (by rfl) sc_Key___le__.nd (pi_listK (K := K) rfl (pv 2)) (blkOk_by (own := [("first", 6), ("second", 7)]) (N := ["self", "other", "values", "told", "item", "at", "first", "second"]) (sc := defScope s_Key___le__) (by decide +kernel)) (fun _ _ _ _ _ => (pg_tupK (K := K) rfl rfl (pgs_cons (pg_name (i := 6) sc_Key___le__.nd rfl (Or.inl rfl)) (pgs_cons (pg_name (i := 7) sc_Key___le__.nd rfl (Or.inl rfl)) pgs_nil)))) (fun _ _ _ _ _ => pts_nil) (fun _ _ _ _ _ => (pe_cmpR op_eq (pe_dget (hu_of hr) (pv 3) (pv 7) (fun _ _ => rfl)) (pv 6) (nomark _)))) pa_nil))))))), ?_⟩
    obtain ⟨a1, dx1, u1, rfl, na1, ha1, hu1, hg1⟩ := hK1
    obtain ⟨a2, dx2, u2, rfl, na2, ha2, hu2, hg2⟩ := hK2
    walk_at "g"
    refine ⟨a2, dx2, _, rfl, ha2, ?_⟩
    walk_at "g"
    refine ⟨by decide, by decide, fun D hD => ?_⟩
    refine rng_loop (n := 10) (fun i H' => Same H H' ∧ ∃ acc, H' D = some (.lst acc) ∧ RpAll (also M D) H' acc (((prs f g).take (i * 5)).map prD)) ⟨same_new hD, [], upd_same, .nil⟩ (fun i H1 hi p => ?_) (fun H1 p => ?_)
    · refine ⟨rfl, ?_⟩
      walk_at "g"
      refine ⟨by decide, by decide, ?_⟩
      refine rng_loop (n := 5) (fun j H' => Same H H' ∧ ∃ acc, H' D = some (.lst acc) ∧ RpAll (also M D) H' acc (((prs f g).take (i * 5 + j)).map prD)) p (fun j H2 hj p2 => ?_) (fun H2 p2 => by rw [Nat.succ_mul]; exact p2)
      obtain ⟨s2, acc, eD, r⟩ := p2
      refine ⟨rfl, ?_⟩
      walk_at "g"
      have hu1' := hu1.sx (Sx.same s2)
      have hlen := r.length
      rw [List.length_map, List.length_take] at hlen
      refine ⟨a1, _, dx1, _, u1, rfl, s2 _ _ ha1, T.cl_Key, T.nA_Key__parts, rfl, ?_⟩
      walk_at "g"
      refine ⟨u1, f, M, _, _, rfl, hu1', hg1, fun H3 s3 => ?_⟩
      walk_at "g"
      refine ⟨a2, _, dx2, _, u2, rfl, s3 _ _ (s2 _ _ ha2), T.cl_Key, T.nA_Key__parts, rfl, ?_⟩
      walk_at "g"
      refine ⟨u2, g, M, _, _, rfl, hu2.sx (Sx.same (s2.trans s3)), hg2, fun H4 s4 => ?_⟩
      refine ⟨szK rfl, fun p hp => ?_⟩
      have sp : Same H4 (upd H4 p (.tup [.int (kval f (0 + (i : Int)) (0 + (j : Int))), .int (kval g (0 + (i : Int)) (0 + (j : Int)))])) := same_new hp
      have s5 := s3.trans (s4.trans sp)
      refine ⟨acc, s5 _ _ eD, small1000000 (by omega), same_put (s2.trans s5) hD, acc ++ [.ref p], upd_same, ?_⟩
      have hp' : ¬ (also M D) p := fun z => by
        rcases z with z | z
        · exact (hM.gr (Gr.same (s2.trans (s3.trans s4)))).out hp z
        · have z' : p = D := z
          subst z'
          rw [s4 _ _ (s3 _ _ eD)] at hp
          cases hp
      have he : List.take (i * 5 + (j + 1)) (prs f g) = List.take (i * 5 + j) (prs f g) ++ [(kval f (i : Int) (j : Int), kval g (i : Int) (j : Int))] := by
        rw [← Nat.add_assoc, List.take_add_one, prs_at f g hi hj]
        rfl
      rw [he, List.map_append]
      refine RpAll.append ((r.sx (Sx.same s5)).sx (Sx.put (.inr rfl))) (.one ?_)
      refine Rp.sx (Sx.put (.inr rfl)) (.tup hp' (.inl upd_same) ?_)
      rw [Int.zero_add, Int.zero_add]
      exact .cons (.int _) (.one (.int _))
    · obtain ⟨sD, acc, eD, r⟩ := p
      have e50 : List.take (10 * 5) (prs f g) = prs f g := List.take_of_length_le (Nat.le_of_eq (prs_len f g))
      rw [e50] at r
      have lacc := r.length
      rw [List.length_map, prs_len] at lacc
      walk_at "g"
      refine ⟨⟨acc, SqL.of eD⟩, fun D2 hD2 => ?_⟩
      have nD : ¬ M D := hM.out hD
      refine list_loop (xs := acc) (fun i H' => Same H1 H' ∧ H' D2 = some (.dK (toldK ((prs f g).take i))) ∧ (toldK ((prs f g).take i)).length ≤ i) ⟨same_new hD2, upd_same, Nat.le_refl _⟩ (fun i H' _ p => SqL.of (p.1 _ _ eD)) (fun i x H' hx p => ?_) (fun H' p => ?_)
      · obtain ⟨s2, e2, l2⟩ := p
        obtain ⟨d, hd, rd⟩ := (r.sx (Sx.same s2)).get hx
        rw [List.getElem?_map] at hd
        obtain ⟨pq, hpq, rfl⟩ := Option.map_eq_some_iff.mp hd
        obtain ⟨b, xs, rfl, nb, hb, rx⟩ := Rp.tupN rd
        obtain ⟨v1, v2, rfl, r1, r2⟩ := rx.inv2
        cases r1
        cases r2
        have hi : i < 50 := by
          have := (List.getElem?_eq_some_iff.mp hpq).1
          rw [prs_len] at this
          exact this
        refine ⟨b, _, rfl, .inl hb, rfl, _, _, rfl, _, _, rfl, rfl, ?_⟩
        refine ⟨rfl, ?_⟩
        walk_at "g"
        have hst : toldK ((prs f g).take (i + 1)) = putK (toldK ((prs f g).take i)) (.inl pq.2) (.int pq.1) := by
          rw [List.take_add_one, hpq]
          exact toldK_snoc _ _
        refine ⟨_, .inl pq.2, rfl, e2, small1000 (by omega), same_put s2 hD2, ?_, ?_⟩
        · rw [upd_same, hst]
        · rw [hst]
          have := putK_le (toldK ((prs f g).take i)) (.inl pq.2) (.int pq.1)
          omega
      · obtain ⟨s2, e2, l2⟩ := p
        rw [lacc, show List.take 50 (prs f g) = prs f g from List.take_of_length_le (Nat.le_of_eq (prs_len f g))] at e2
        walk_at "g"
        refine ⟨⟨acc, SqL.of (s2 _ _ eD)⟩, fun D3 hD3 => ?_⟩
        refine lc_vals (ys := (prs f g).map fun p => V.bl (toldB (prs f g) p)) hD3 (SqL.of (s2 _ _ eD)) (by rw [List.length_map, prs_len, lacc]) (by omega) (fun i x y H2 C N hx hy s3 hC => ?_) (fun H2 s3 e3 => ?_)
        · obtain ⟨d, hd, rd⟩ := (r.sx (Sx.same (s2.trans s3))).get hx
          rw [List.getElem?_map] at hd hy
          obtain ⟨pq, hpq, rfl⟩ := Option.map_eq_some_iff.mp hd
          rw [hpq] at hy
          have hy : V.bl (toldB (prs f g) pq) = y := Option.some.inj hy
          obtain ⟨b, xs, rfl, nb, hb, rx⟩ := Rp.tupN rd
          obtain ⟨v1, v2, rfl, r1, r2⟩ := rx.inv2
          cases r1
          cases r2
          refine ⟨b, _, rfl, .inl hb, rfl, _, _, rfl, _, _, rfl, rfl, ?_⟩
          refine ⟨rfl, ?_⟩
          walk_at "g"
          obtain ⟨v, ev, hv⟩ := told_get (List.mem_of_getElem? hpq)
          refine ⟨D2, .int v, rfl, .inl ⟨_, .inl pq.2, .inl (s3 _ _ e2), rfl, ev.symm⟩, _, rfl, rfl, ?_⟩
          rw [← toldB_at ev, hy]
          exact hC
        · walk_at "g"
          have e4 : H2 D3 = some (.lst (((prs f g).map (toldB (prs f g))).map V.bl)) := by
            rw [e3, List.map_map]
            rfl
          refine ⟨D3, _, rfl, SqL.of e4, ?_⟩
          rw [told_funOk]
          exact q _ (sD.trans (s2.trans s3))
end
end D


namespace D
open PySem PySem.Spec PyProof.Rows L2
local macro_rules | `(tactic| walk_at "st") => `(tactic| first | exact SqT.of (by assumption) | exact Or.inl (by assumption) | exact SqT.of upd_same | fail "st")
local macro_rules | `(tactic| walk_at "ixt") => `(tactic| refine ⟨_, _, _, _, rfl, rfl, (by walk_at "st" : SqT _ _ _ _), by rfl, ?_⟩)
local macro_rules | `(tactic| walk_at "sq") => `(tactic| first | exact SqL.of (by assumption) | assumption | exact Or.inl (by assumption) | exact SqL.of upd_same | fail "sq")
local macro_rules | `(tactic| walk_at "ix") => `(tactic| refine ⟨_, _, _, _, rfl, rfl, (by walk_at "sq" : SqL _ _ _ _), by rfl, ?_⟩)
local macro_rules | `(tactic| walk_at "set") => `(tactic| refine ⟨_, _, _, _, rfl, rfl, by first | assumption | exact upd_same, by rfl, ?_⟩)
local macro_rules | `(tactic| walk_at "len") => `(tactic| refine ⟨_, _, rfl, Or.inl (by walk_at "sq" : SqL _ _ _ _), ?_⟩)
local macro_rules | `(tactic| walk_at "g") => `(tactic| repeat (first | refine ⟨_, rfl, ?_⟩ | refine ⟨_, _, rfl, rfl, ?_⟩ | refine ⟨Or.inr (by decide), ?_⟩ | refine ⟨Or.inl (by decide), ?_⟩ | refine ⟨(by decide : (0 : Int) < _), ?_⟩ | refine ⟨(⟨by decide, by decide⟩ : CDiv _ _), ?_⟩ | refine ⟨(⟨by decide, by decide, by decide⟩ : CPow _ _), ?_⟩ | refine Or.inl ⟨_, rfl, ?_⟩ | refine ⟨rfl, ?_⟩ | walk_at "ix" | walk_at "ixt" | walk_at "len" | fail "g"))
local macro_rules | `(tactic| walk_at "if") => `(tactic| refine ite2 (fun e => ?_) (fun e => ?_))
section
variable {P : Program} {w : World} {K : PySem.W.Frag} {mg : Str → Option Value} {base : Heap}
def namesD (ns : List Str) : PyData := .list (ns.map PyData.str)
def sp_form (K : PySem.W.Frag) (n : Nat) : Sp := fun vs H Q _ => ∃ (b : Addr) (v : V) (lv : Int) (ns : List Str) (M : Ms), vs = [.ref b, v, .int lv] ∧ Bag K M H b ∧ Mk M H ∧ Rp M H v (namesD ns) ∧ ns ≠ [] ∧ ns.length < 1000000 ∧ 1 ≤ lv ∧ lv ≤ n ∧
  Dr K M b H (fun x => ∃ f : Fm, x = f.enc ∧ (f.dep : Int) ≤ lv ∧ f.ok (· ∈ ns)) Q
theorem ok_form (T : Txt K mg) : ∀ n, FnOk P w K mg base CX0 (n + 3) T.f__law_form T.d__law_form ["_law_bag_here", "_law_readable", "_law_levels_here"] (sp_form K n) := by
  intro n
  induction n with
  | zero =>
    refine T.F__law_form.ok sc__law_form (fun vs H Q E h => ?_) (fun cdv A outer s H vs Q E hr h => ?_)
    · obtain ⟨_, _, _, _, _, _, _, _, _, _, _, h1, h2, _⟩ := h
      omega
    · obtain ⟨_, _, _, _, _, _, _, _, _, _, _, h1, h2, _⟩ := h
      omega
  | succ n ih =>
  have G__law_pick := ok_pick (P := P) (w := w) (base := base) T
  have G__law_choice := ok_choice (P := P) (w := w) (base := base) T
  have G__law_form := ih
  refine T.F__law_form.ok sc__law_form (fun vs H Q E h => ?_) (fun cdv A outer s H vs Q E hr h => ?_)
  · obtain ⟨_, _, _, _, _, rfl, _⟩ := h
    rfl
  · obtain ⟨b, v, lv, ns, M, rfl, hB, hM, hR, hne, hl, hlv1, hlv, q⟩ := h
    obtain ⟨a, xs, rfl, na, ha, rx⟩ := Rp.lstN hR
    have ex := rx.ofStrs
    subst ex
    have hpos : 0 < ns.length := List.length_pos_iff.mpr hne
    have hab : a ≠ b := fun z => na (by rw [z]; exact hB.w)
    have fin : ∀ (f : Fm) (H2 : Hp) (p : Addr) (us : List V), Sx (one b) H H2 → Gr H H2 → Bag K M H2 b → H2 p = none → FmAt M (upd H2 p (.tup us)) f us → (f.dep : Int) ≤ lv → f.ok (· ∈ ns) → Q (.ref p) (upd H2 p (.tup us)) := fun f H2 p us s g hB2 hp hf hd ho =>
      q _ _ f.enc (s.trans (Sx.new hp)) (g.trans Gr.upd) (hB2.same (same_new hp)) (hf.rp ((hM.gr g).out hp) (.inl upd_same)) ⟨f, rfl, hd, ho⟩
    refine ⟨_, (pss_cons (ps_set (i := 3) sc__law_form.nd rfl (Or.inl rfl) (pe_call G__law_pick (hr.mono (by omega)) (by rfl) T.g__law_pick T.F__law_pick.kp T.b__law_pick .nil pass0 (pa_cons (pv 0) (pa_cons pe_int pa_nil))))
      (pss_cons (ps_if (PW.pt (pw_or (pt_cmpR op_le (pv 2) pe_int (nomark _)) (pw_or1 (pt_cmpR op_lt (pv 3) pe_int (nomark _))))) (pss_cons (ps_if (PW.pt (pw_or (pt_not (pt_truthK (K := K) rfl (pv 1) (by intro _; rfl))) (pw_or1 (PW.pt (pw_and (pt_cmpR op_eq (pv 3) pe_int (nomark _)) (pw_and1 (pt_cmpR op_eq (pe_call G__law_pick (hr.mono (by omega)) (by rfl) T.g__law_pick T.F__law_pick.kp T.b__law_pick .nil pass0 (pa_cons (pv 0) (pa_cons pe_int pa_nil))) pe_int (nomark _)))))))) (pss_one (ps_ret (pe_tup (pa_cons pe_str (pa_cons (pe_call G__law_pick (hr.mono (by omega)) (by rfl) T.g__law_pick T.F__law_pick.kp T.b__law_pick .nil pass0 (pa_cons (pv 0) (pa_cons pe_int pa_nil))) pa_nil))))) pss_nil)
      (pss_one (ps_ret (pe_tup (pa_cons pe_str (pa_cons (pe_call G__law_choice (hr.mono (by omega)) (by rfl) T.g__law_choice T.F__law_choice.kp T.b__law_choice .nil pass0 (pa_cons (pv 0) (pa_cons (pv 1) pa_nil))) pa_nil)))))) pss_nil)
      (pss_cons (ps_set (i := 4) sc__law_form.nd rfl (Or.inl rfl) (pe_call G__law_form (hr.mono (by omega)) (by rfl) T.g__law_form T.F__law_form.kp T.b__law_form .nil pass0 (pa_cons (pv 0) (pa_cons (pv 1) (pa_cons (pe_op op_sub (pv 2) pe_int) pa_nil)))))
      (pss_cons (ps_set (i := 5) sc__law_form.nd rfl (Or.inl rfl) (pe_call G__law_form (hr.mono (by omega)) (by rfl) T.g__law_form T.F__law_form.kp T.b__law_form .nil pass0 (pa_cons (pv 0) (pa_cons (pv 1) (pa_cons (pe_op op_sub (pv 2) pe_int) pa_nil)))))
      (pss_cons (ps_if (pt_cmpR op_lt (pv 3) pe_int (nomark _)) (pss_one (ps_ret (pe_tup (pa_cons (pe_ix (ix_listK (K := K) rfl) (pe_lst (pa_cons pe_str (pa_cons pe_str (pa_cons pe_str pa_nil)))) (pe_op op_sub (pv 3) pe_int) (fun _ _ => rfl)) (pa_cons (pv 4) (pa_cons (pv 5) pa_nil)))))) pss_nil)
      (pss_one (ps_ret (pe_tup (pa_cons pe_str (pa_cons (pv 4) (pa_cons (pv 5) (pa_cons (pe_call G__law_form (hr.mono (by omega)) (by rfl) T.g__law_form T.F__law_form.kp T.b__law_form .nil pass0 (pa_cons (pv 0) (pa_cons (pv 1) (pa_cons (pe_op op_sub (pv 2) pe_int) pa_nil)))) pa_nil)))))))))))), ?_⟩
    walk_at "g"
    refine ⟨b, _, M, rfl, hB, by omega, by omega, fun way H1 h0 h1 hA1 hB1 => ?_⟩
    have g1 := At.gr hA1 hB1.there
    walk_at "g"
    have sM1 : Sx M H H1 := hA1.sx.le (one_le hB.w)
    have rest : ∀ f4 f5 : Fm, (f4.dep : Int) ≤ lv - 1 → (f5.dep : Int) ≤ lv - 1 → ((max f4.dep f5.dep + 1 : Nat) : Int) ≤ lv := fun f4 f5 h4 h5 => by omega
    have rest3 : ∀ f4 f5 f6 : Fm, (f4.dep : Int) ≤ lv - 1 → (f5.dep : Int) ≤ lv - 1 → (f6.dep : Int) ≤ lv - 1 → ((max f4.dep (max f5.dep f6.dep) + 1 : Nat) : Int) ≤ lv := fun f4 f5 f6 h4 h5 h6 => by omega
    have hw := hB.w
    refine ite2 (fun c1 => ?_) (fun c1 => ?_)
    rotate_left 1
    · walk_at "g"
      have c1' : ¬ lv ≤ 1 := fun z => c1 (decide_eq_true z)
      refine ite2 (fun c2 => ?_) (fun c2 => ?_)
      rotate_left 1
      · have c2' : ¬ way < 3 := fun z => c2 (decide_eq_true z)
        walk_at "g"
        refine ⟨b, .ref a, _, ns, M, rfl, hB1, hM.gr g1, hR.sx sM1, hne, hl, by omega, by omega, fun v4 H2 d4 s2 g2 hB2 hR4 hd4 => ?_⟩
        obtain ⟨f4, rfl, l4, o4⟩ := hd4
        have sM2 : Sx M H1 H2 := s2.le (one_le hw)
        walk_at "g"
        refine ⟨b, .ref a, _, ns, M, rfl, hB2, hM.gr (g1.trans g2), hR.sx (sM1.trans sM2), hne, hl, by omega, by omega, fun v5 H3 d5 s3 g3 hB3 hR5 hd5 => ?_⟩
        obtain ⟨f5, rfl, l5, o5⟩ := hd5
        have sM3 : Sx M H2 H3 := s3.le (one_le hw)
        have hR4' := hR4.sx sM3
        walk_at "g"
        walk_at "if"
        · rename_i c3
          have c3' : way < 6 := of_decide_eq_true c3
          have sf : ∀ p o, H3 p = none → Sx (one b) H (upd H3 p o) := fun p o hp => hA1.sx.trans (s2.trans (s3.trans (Sx.new hp)))
          have gf : ∀ p o, Gr H (upd H3 p o) := fun p o => g1.trans (g2.trans (g3.trans Gr.upd))
          obtain e | e | e : way = 3 ∨ way = 4 ∨ way = 5 := by omega
          all_goals
            subst e
            walk_at "g"
            refine ⟨szK rfl, fun p hp => ?_⟩
            walk_at "g"
            refine ⟨szK rfl, fun p2 hp2 => ?_⟩
          · exact fin (.sum f4 f5) _ p2 _ (sf _ _ hp) (gf _ _) (hB3.same (same_new hp)) hp2 (.sum ((hR4'.sx (Sx.new hp)).sx (Sx.new hp2)) ((hR5.sx (Sx.new hp)).sx (Sx.new hp2))) (rest f4 f5 l4 l5) ⟨o4, o5⟩
          · exact fin (.sum f4 f5) _ p2 _ (sf _ _ hp) (gf _ _) (hB3.same (same_new hp)) hp2 (.sum ((hR4'.sx (Sx.new hp)).sx (Sx.new hp2)) ((hR5.sx (Sx.new hp)).sx (Sx.new hp2))) (rest f4 f5 l4 l5) ⟨o4, o5⟩
          · exact fin (.same f4 f5) _ p2 _ (sf _ _ hp) (gf _ _) (hB3.same (same_new hp)) hp2 (.same ((hR4'.sx (Sx.new hp)).sx (Sx.new hp2)) ((hR5.sx (Sx.new hp)).sx (Sx.new hp2))) (rest f4 f5 l4 l5) ⟨o4, o5⟩
        · walk_at "g"
          refine ⟨b, .ref a, _, ns, M, rfl, hB3, hM.gr (g1.trans (g2.trans g3)), hR.sx (sM1.trans (sM2.trans sM3)), hne, hl, by omega, by omega, fun v6 H4 d6 s4 g4 hB4 hR6 hd6 => ?_⟩
          obtain ⟨f6, rfl, l6, o6⟩ := hd6
          have sM4 : Sx M H3 H4 := s4.le (one_le hw)
          refine ⟨szK rfl, fun p2 hp2 => ?_⟩
          exact fin (.pick f4 f5 f6) _ p2 _ (hA1.sx.trans (s2.trans (s3.trans s4))) (g1.trans (g2.trans (g3.trans g4))) hB4 hp2 (.pick ((hR4'.sx sM4).sx (Sx.new hp2)) ((hR5.sx sM4).sx (Sx.new hp2)) (hR6.sx (Sx.new hp2))) (rest3 f4 f5 f6 l4 l5 l6) ⟨o4, o5, o6⟩
      walk_at "g"
      have hS1 : SqL K H1 a (ns.map V.str) := sx_l hA1.sx (fun z : a = b => hab z) (.inl ha)
      refine ⟨true, .inl ⟨ns.map V.str, hS1, by cases ns with | nil => exact absurd rfl hne | cons _ _ => rfl⟩, ?_⟩
      walk_at "g"
      have one_lv : ((1 : Nat) : Int) ≤ lv := by omega
      have get : ∀ H2, At b H1 H2 → Bag K M H2 b → Gr H H2 → sp_choice K ([.ref b, .ref a] ++ []) H2 (fun v H3 => [V.str sGet, v].length ≤ sizeLine ∧ ∀ p, H3 p = none → Q (.ref p) (upd H3 p (.tup [.str sGet, v]))) E0 := fun H2 hA2 hB2 g2 => by
        refine ⟨b, a, _, M, rfl, hB2, sx_l hA2.sx (fun z : a = b => hab z) hS1, hab, by rw [List.length_map]; exact hpos, by rw [List.length_map]; exact hl, fun v H3 hv hA3 hB3 => ?_⟩
        obtain ⟨x, hx, rfl⟩ := List.mem_map.mp hv
        refine ⟨szK rfl, fun p hp => ?_⟩
        exact fin (.get x) _ p _ (hA1.sx.trans (hA2.sx.trans hA3.sx)) (g2.trans (At.gr hA3 hB3.there)) hB3 hp (.get x) one_lv hx
      walk_at "if"
      · walk_at "g"
        refine ⟨b, _, M, rfl, hB1, by omega, by omega, fun w2 H2 k0 k1 hA2 hB2 => ?_⟩
        walk_at "g"
        have g2 := g1.trans (At.gr hA2 hB2.there)
        walk_at "if"
        · walk_at "g"
          refine ⟨b, _, M, rfl, hB2, by omega, by omega, fun w3 H3 m0 m1 hA3 hB3 => ?_⟩
          refine ⟨szK rfl, fun p hp => ?_⟩
          exact fin (.is w3) _ p _ (hA1.sx.trans (hA2.sx.trans hA3.sx)) (g2.trans (At.gr hA3 hB3.there)) hB3 hp (.is _) one_lv ⟨m0, by omega⟩
        · walk_at "g"
          exact get H2 hA2 hB2 g2
      · walk_at "g"
        exact get H1 (fun _ _ => rfl) hB1 g1
    walk_at "g"
    have hS1 : SqL K H1 a (ns.map V.str) := sx_l hA1.sx (fun z : a = b => hab z) (.inl ha)
    refine ⟨true, .inl ⟨ns.map V.str, hS1, by cases ns with | nil => exact absurd rfl hne | cons _ _ => rfl⟩, ?_⟩
    walk_at "g"
    have one_lv : ((1 : Nat) : Int) ≤ lv := by omega
    have get : ∀ H2, At b H1 H2 → Bag K M H2 b → Gr H H2 → sp_choice K ([.ref b, .ref a] ++ []) H2 (fun v H3 => [V.str sGet, v].length ≤ sizeLine ∧ ∀ p, H3 p = none → Q (.ref p) (upd H3 p (.tup [.str sGet, v]))) E0 := fun H2 hA2 hB2 g2 => by
      refine ⟨b, a, _, M, rfl, hB2, sx_l hA2.sx (fun z : a = b => hab z) hS1, hab, by rw [List.length_map]; exact hpos, by rw [List.length_map]; exact hl, fun v H3 hv hA3 hB3 => ?_⟩
      obtain ⟨x, hx, rfl⟩ := List.mem_map.mp hv
      refine ⟨szK rfl, fun p hp => ?_⟩
      exact fin (.get x) _ p _ (hA1.sx.trans (hA2.sx.trans hA3.sx)) (g2.trans (At.gr hA3 hB3.there)) hB3 hp (.get x) one_lv hx
    walk_at "if"
    · walk_at "g"
      refine ⟨b, _, M, rfl, hB1, by omega, by omega, fun w2 H2 k0 k1 hA2 hB2 => ?_⟩
      walk_at "g"
      have g2 := g1.trans (At.gr hA2 hB2.there)
      walk_at "if"
      · walk_at "g"
        refine ⟨b, _, M, rfl, hB2, by omega, by omega, fun w3 H3 m0 m1 hA3 hB3 => ?_⟩
        refine ⟨szK rfl, fun p hp => ?_⟩
        exact fin (.is w3) _ p _ (hA1.sx.trans (hA2.sx.trans hA3.sx)) (g2.trans (At.gr hA3 hB3.there)) hB3 hp (.is _) one_lv ⟨m0, by omega⟩
      · walk_at "g"
        exact get H2 hA2 hB2 g2
    · walk_at "g"
      exact get H1 (fun _ _ => rfl) hB1 g1
end
end D


namespace D
open PySem PySem.Spec PyProof.Rows L2
local macro_rules | `(tactic| walk_at "st") => `(tactic| first | exact SqT.of (by assumption) | exact Or.inl (by assumption) | exact SqT.of upd_same | fail "st")
local macro_rules | `(tactic| walk_at "ixt") => `(tactic| refine ⟨_, _, _, _, rfl, rfl, (by walk_at "st" : SqT _ _ _ _), by rfl, ?_⟩)
local macro_rules | `(tactic| walk_at "sq") => `(tactic| first | exact SqL.of (by assumption) | assumption | exact Or.inl (by assumption) | exact SqL.of upd_same | fail "sq")
local macro_rules | `(tactic| walk_at "ix") => `(tactic| refine ⟨_, _, _, _, rfl, rfl, (by walk_at "sq" : SqL _ _ _ _), by rfl, ?_⟩)
local macro_rules | `(tactic| walk_at "set") => `(tactic| refine ⟨_, _, _, _, rfl, rfl, by first | assumption | exact upd_same, by rfl, ?_⟩)
local macro_rules | `(tactic| walk_at "len") => `(tactic| refine ⟨_, _, rfl, Or.inl (by walk_at "sq" : SqL _ _ _ _), ?_⟩)
local macro_rules | `(tactic| walk_at "g") => `(tactic| repeat (first | refine ⟨_, rfl, ?_⟩ | refine ⟨_, _, rfl, rfl, ?_⟩ | refine ⟨Or.inr (by decide), ?_⟩ | refine ⟨Or.inl (by decide), ?_⟩ | refine ⟨(by decide : (0 : Int) < _), ?_⟩ | refine ⟨(⟨by decide, by decide⟩ : CDiv _ _), ?_⟩ | refine ⟨(⟨by decide, by decide, by decide⟩ : CPow _ _), ?_⟩ | refine Or.inl ⟨_, rfl, ?_⟩ | refine ⟨rfl, ?_⟩ | walk_at "ix" | walk_at "ixt" | walk_at "len" | fail "g"))
local macro_rules | `(tactic| walk_at "if") => `(tactic| refine ite2 (fun e => ?_) (fun e => ?_))
section
variable {P : Program} {w : World} {K : PySem.W.Frag} {mg : Str → Option Value} {base : Heap}
def sp_row (K : PySem.W.Frag) : Sp := fun vs H Q _ => ∃ (b : Addr) (m : Int) (M : Ms), vs = [.ref b, .int m] ∧ Bag K M H b ∧ Mk M H ∧ 0 ≤ m ∧ m ≤ 1000 ∧
  Dr K M b H (fun x => ∃ ns : List Int, x = rowD ns ∧ (ns.length : Int) ≤ m ∧ ns.Nodup ∧ ∀ n ∈ ns, 0 ≤ n ∧ n ≤ 9) Q
theorem ok_row (T : Txt K mg) : FnOk P w K mg base CX0 4 T.f__law_row T.d__law_row ["_law_bag_here", "_law_most"] (sp_row K) := by
  have G__law_pick := ok_pick (P := P) (w := w) (base := base) T
  have G__law_mingled := ok_mingled (P := P) (w := w) (base := base) T
  refine T.F__law_row.ok sc__law_row (fun vs H Q E h => ?_) (fun cdv A outer s H vs Q E hr h => ?_)
  · obtain ⟨_, _, _, rfl, _⟩ := h
    rfl
  · obtain ⟨b, m, M, rfl, hB, hM, hm0, hm1, q⟩ := h
    refine ⟨_, (pss_cons (ps_set (i := 2) sc__law_row.nd rfl (Or.inl rfl) (pe_call G__law_mingled (hr.mono (by omega)) (by rfl) T.g__law_mingled T.F__law_mingled.kp T.b__law_mingled .nil pass0 (pa_cons (pv 0) (pa_cons (pe_slice (sl_listK (K := K) rfl) (pe_lst (pa_cons pe_int (pa_cons pe_int (pa_cons pe_int (pa_cons pe_int (pa_cons pe_int (pa_cons pe_int (pa_cons pe_int (pa_cons pe_int (pa_cons pe_int (pa_cons pe_int pa_nil))))))))))) po_none (po_some (pe_op op_add pe_int (pe_call G__law_pick (hr.mono (by omega)) (by rfl) T.g__law_pick T.F__law_pick.kp T.b__law_pick .nil pass0 (pa_cons (pv 0) (pa_cons pe_int pa_nil)))))) pa_nil))))
      (pss_one (ps_ret (pe_callTy (call_tupleK (K := K) rfl) (by rfl) T.m_tuple (by decide +kernel) (pa_cons (pe_slice (sl_listK (K := K) rfl) (pv 2) po_none (po_some (pe_call G__law_pick (hr.mono (by omega)) (by rfl) T.g__law_pick T.F__law_pick.kp T.b__law_pick .nil pass0 (pa_cons (pv 0) (pa_cons (pe_op op_add (pv 1) pe_int) pa_nil))))) pa_nil))))), ?_⟩
    walk_at "g"
    refine ⟨szK rfl, fun p1 hp1 => ?_⟩
    walk_at "g"
    have hB1 : Bag K M (upd H p1 (.lst (ten.map V.int))) b := hB.same (same_new hp1)
    refine ⟨b, _, M, rfl, hB1, by omega, by omega, fun w1 H1 h0 h1 hA1 hB1 => ?_⟩
    walk_at "g"
    have hb1 : p1 ≠ b := fun z => hB.there (by rw [← z]; exact hp1)
    have e1 : H1 p1 = some (.lst (ten.map V.int)) := (hA1 p1 hb1).trans upd_same
    refine ⟨p1, _, rfl, SqL.of e1, fun p2 hp2 => ?_⟩
    obtain ⟨j, rfl⟩ : ∃ j : Nat, w1 = (j : Int) := ⟨w1.toNat, by omega⟩
    have ec : cutV (ten.map V.int) none (some (2 + (j : Int))) = (ten.take (2 + j)).map V.int := by
      rw [show (2 : Int) + (j : Int) = ((2 + j : Nat) : Int) by omega, cut_hi, List.map_take]
    have g1 : Gr H H1 := (Gr.upd (o := .lst (ten.map V.int))).trans (At.gr hA1 hB1.there)
    have hM1 := hM.gr g1
    have sH1 : Sx (one b) H H1 := (Sx.new hp1).trans hA1.sx
    have r2 : Rp M (upd H1 p2 (.lst (cutV (ten.map V.int) none (some (2 + (j : Int)))))) (.ref p2) (.list ((ten.take (2 + j)).map PyData.int)) := by
      rw [ec]
      exact Rp.newL hM1 hp2 (RpAll.ints _)
    refine ⟨b, .ref p2, _, M, rfl, hB1.same (same_new hp2), hM1.new, r2, by rw [List.length_map, List.length_take]; have : ten.length = 10 := rfl; omega, fun v H2 d s2 g2 hB2 hR2 hd => ?_⟩
    obtain ⟨es, rfl, hper⟩ := hd
    obtain ⟨ns, hns, rfl⟩ := perm_ints hper
    obtain ⟨a, xs, rfl, na, ha, rx⟩ := Rp.lstN hR2
    have ex := rx.ofInts
    subst ex
    walk_at "g"
    refine ⟨b, _, M, rfl, hB2, by omega, by omega, fun w2 H3 k0 k1 hA3 hB3 => ?_⟩
    obtain ⟨j2, rfl⟩ : ∃ j2 : Nat, w2 = (j2 : Int) := ⟨w2.toNat, by omega⟩
    have hab : a ≠ b := fun z => na (by rw [z]; exact hB.w)
    have hS3 : SqL K H3 a (ns.map V.int) := sx_l hA3.sx (fun z : a = b => hab z) (.inl ha)
    have g3 : Gr H H3 := g1.trans (Gr.upd.trans (g2.trans (At.gr hA3 hB3.there)))
    have s3 : Sx (one b) H H3 := sH1.trans ((Sx.new hp2).trans (s2.trans hA3.sx))
    walk_at "g"
    refine ⟨a, _, rfl, hS3, fun p3 hp3 => ?_⟩
    refine ⟨p3, _, rfl, .inl ⟨SqL.of upd_same, fun p4 hp4 => ?_⟩⟩
    have ec2 : cutV (ns.map V.int) none (some (j2 : Int)) = (ns.take j2).map V.int := by rw [cut_hi, List.map_take]
    rw [ec2] at hp4 ⊢
    have nd := ten_take (2 + j)
    refine q _ _ (rowD (ns.take j2)) (s3.trans ((Sx.new hp3).trans (Sx.new hp4))) (g3.trans (Gr.upd.trans Gr.upd)) ((hB3.same (same_new hp3)).same (same_new hp4)) (Rp.newT (hM.gr (g3.trans Gr.upd)) hp4 (RpAll.ints _)) ⟨ns.take j2, rfl, ?_, ?_, fun n hn => ?_⟩
    · rw [List.length_take]
      omega
    · exact (hns.nodup_iff.mpr nd.1).sublist (List.take_sublist _ _)
    · exact nd.2 n (hns.mem_iff.mp (List.mem_of_mem_take hn))

end
end D

namespace D
open PySem PySem.Spec PyProof.Rows L2
local macro_rules | `(tactic| walk_at "st") => `(tactic| first | exact SqT.of (by assumption) | exact Or.inl (by assumption) | exact SqT.of upd_same | fail "st")
local macro_rules | `(tactic| walk_at "ixt") => `(tactic| refine ⟨_, _, _, _, rfl, rfl, (by walk_at "st" : SqT _ _ _ _), by rfl, ?_⟩)
local macro_rules | `(tactic| walk_at "sq") => `(tactic| first | exact SqL.of (by assumption) | assumption | exact Or.inl (by assumption) | exact SqL.of upd_same | fail "sq")
local macro_rules | `(tactic| walk_at "ix") => `(tactic| refine ⟨_, _, _, _, rfl, rfl, (by walk_at "sq" : SqL _ _ _ _), by rfl, ?_⟩)
local macro_rules | `(tactic| walk_at "set") => `(tactic| refine ⟨_, _, _, _, rfl, rfl, by first | assumption | exact upd_same, by rfl, ?_⟩)
local macro_rules | `(tactic| walk_at "len") => `(tactic| refine ⟨_, _, rfl, Or.inl (by walk_at "sq" : SqL _ _ _ _), ?_⟩)
local macro_rules | `(tactic| walk_at "g") => `(tactic| repeat (first | refine ⟨_, rfl, ?_⟩ | refine ⟨_, _, rfl, rfl, ?_⟩ | refine ⟨Or.inr (by decide), ?_⟩ | refine ⟨Or.inl (by decide), ?_⟩ | refine ⟨(by decide : (0 : Int) < _), ?_⟩ | refine ⟨(⟨by decide, by decide⟩ : CDiv _ _), ?_⟩ | refine ⟨(⟨by decide, by decide, by decide⟩ : CPow _ _), ?_⟩ | refine Or.inl ⟨_, rfl, ?_⟩ | refine ⟨rfl, ?_⟩ | walk_at "ix" | walk_at "ixt" | walk_at "len" | fail "g"))
local macro_rules | `(tactic| walk_at "if") => `(tactic| refine ite2 (fun e => ?_) (fun e => ?_))
section
variable {P : Program} {w : World} {K : PySem.W.Frag} {mg : Str → Option Value} {base : Heap}
def sp_levels (d : Nat) : Sp := fun vs H Q _ => ∃ (v : V) (f : Fm) (M : Ms), vs = [v] ∧ Rp M H v f.enc ∧ f.dep ≤ d ∧ ∀ H', Same H H' → Q (.int (f.dep : Nat)) H'
theorem ok_levels (T : Txt K mg) : ∀ d, FnOk P w K mg base CX0 (d + 1) T.f__law_levels T.d__law_levels ["_law_form_here"] (sp_levels d) := by
  intro d
  induction d with
  | zero =>
    refine T.F__law_levels.ok sc__law_levels (fun vs H Q E h => ?_) (fun cdv A outer s H vs Q E hr h => ?_)
    · obtain ⟨_, f, _, _, _, h1, _⟩ := h
      have := f.dep_pos
      omega
    · obtain ⟨_, f, _, _, _, h1, _⟩ := h
      have := f.dep_pos
      omega
  | succ d ih =>
  have G__law_levels := ih
  refine T.F__law_levels.ok sc__law_levels (fun vs H Q E h => ?_) (fun cdv A outer s H vs Q E hr h => ?_)
  · obtain ⟨_, _, _, rfl, _⟩ := h
    rfl
  · obtain ⟨v, f, M, rfl, hR, hd, q⟩ := h
    obtain ⟨a, xs, rfl, na, ha, hF⟩ := Rp.form hR
    refine ⟨_, (pss_cons (ps_if (PW.pt (pw_or (pt_cmpR op_eq (pe_ix (ix_tupK (K := K) rfl) (pv 0) pe_int (fun _ _ => rfl)) pe_str (nomark _)) (pw_or1 (pt_cmpR op_eq (pe_ix (ix_tupK (K := K) rfl) (pv 0) pe_int (fun _ _ => rfl)) pe_str (nomark _))))) (pss_one (ps_ret pe_int)) pss_nil)
      (pss_cons (ps_set (i := 1) sc__law_levels.nd rfl (Or.inl rfl) pe_int)
      (pss_cons (ps_for PassesOwn.never rfl (pi_tupK (K := K) rfl (pe_slice (sl_tupK (K := K) rfl) (pv 0) (po_some pe_int) po_none)) (pg_name (i := 2) sc__law_levels.nd rfl (Or.inl rfl)) (pss_cons (ps_set (i := 3) sc__law_levels.nd rfl (Or.inl rfl) (pe_call G__law_levels (hr.mono (by omega)) (by rfl) T.g__law_levels T.F__law_levels.kp T.b__law_levels .nil pass0 (pa_cons (pv 2) pa_nil)))
      (pss_one (ps_if (pt_cmpR op_gt (pv 3) (pv 1) (nomark _)) (pss_one (ps_set (i := 1) sc__law_levels.nd rfl (Or.inl rfl) (pv 3))) pss_nil))))
      (pss_one (ps_ret (pe_op op_add (pv 1) pe_int)))))), ?_⟩
    rcases hF.two with ⟨y, z, rfl, hy, e1⟩ | ⟨y, r, rfl, hr0, y1, y2, hr2, e1⟩
    · have fin := q H (Same.refl H)
      rw [e1] at fin
      rcases hy with rfl | rfl
      · walk_at "g"
        exact fin
      · walk_at "g"
        exact fin
    · have at0 : atI (V.str y :: r) 0 = some (V.str y) := atI_nat (show (V.str y :: r)[0]? = some (V.str y) from rfl)
      walk_at "g"
      refine ⟨_, _, _, _, rfl, rfl, .inl ha, at0, ?_⟩
      walk_at "g"
      rw [decide_eq_false (show ¬ V.str y = V.str (Str.ofString "is") from fun z => y1 (V.str.inj z))]
      walk_at "g"
      refine ⟨_, _, _, _, rfl, rfl, .inl ha, at0, ?_⟩
      walk_at "g"
      rw [decide_eq_false (show ¬ V.str y = V.str (Str.ofString "get") from fun z => y2 (V.str.inj z))]
      walk_at "g"
      refine ⟨a, _, rfl, .inl ha, fun z => ?_, fun _ p hp => ?_⟩
      · exfalso
        have z1 := z.1
        rw [show HT.sIx (V.str y :: r).length 0 (some 1) = min 1 (V.str y :: r).length from HT.sIx_nat _ _ 1] at z1
        rw [List.length_cons] at z1
        omega
      rw [cut1]
      have s1 : Same H (upd H p (.tup r)) := same_new hp
      refine ⟨p, rfl, ⟨r, SqT.of upd_same⟩, ?_⟩
      refine for_tup (K := K) (a := p) (xs := r) (fun i σ H' => ∃ y2 y3, σ = [some (.ref a), some (.int ((f.subs.take i).foldl mxd 0 : Nat)), y2, y3] ∧ Same (upd H p (.tup r)) H') ⟨_, _, rfl, Same.refl _⟩ (fun i σ H' _ pp => ?_) (fun i x σ H' hx pp => ?_) (fun σ H' pp => ?_)
      · obtain ⟨_, _, rfl, hs⟩ := pp
        exact same_sqt hs (SqT.of upd_same)
      · obtain ⟨_, _, rfl, hs⟩ := pp
        obtain ⟨e, he, re⟩ := ((hr2.sx (Sx.same s1)).sx (Sx.same hs)).get hx
        rw [List.getElem?_map] at he
        obtain ⟨g, hg, rfl⟩ := Option.map_eq_some_iff.mp he
        have hgd := subs_dep (List.mem_of_getElem? hg)
        have hst := fold_take mxd 0 f.subs i g hg
        walk_at "g"
        refine ⟨x, g, M, rfl, re, by omega, fun H2 s2 => ?_⟩
        walk_at "g"
        walk_at "if"
        · rename_i c
          have c' := of_decide_eq_true c
          walk_at "g"
          refine ⟨some x, some (.int (g.dep : Nat)), ?_, hs.trans s2⟩
          have e3 : List.foldl mxd 0 (List.take (i + 1) f.subs) = g.dep := by
            rw [hst]
            show max _ _ = _
            omega
          rw [e3]
          rfl
        · rename_i c
          have c' : ¬ ((List.foldl mxd 0 (List.take i f.subs) : Nat) : Int) < (g.dep : Int) := fun z => c (decide_eq_true z)
          refine ⟨some x, some (.int (g.dep : Nat)), ?_, hs.trans s2⟩
          have e3 : List.foldl mxd 0 (List.take (i + 1) f.subs) = List.foldl mxd 0 (List.take i f.subs) := by
            rw [hst]
            show max _ _ = _
            omega
          rw [e3]
          rfl
      · obtain ⟨_, _, rfl, hs⟩ := pp
        have el := hr2.length
        rw [List.length_map] at el
        rw [el, List.take_length]
        walk_at "g"
        have e4 : ((List.foldl mxd 0 f.subs : Nat) : Int) + 1 = ((f.dep : Nat) : Int) := by omega
        have fin := q _ (s1.trans hs)
        rw [← e4] at fin
        exact fin
end
end D

namespace D
open PySem PySem.Spec PyProof.Rows L2
local macro_rules | `(tactic| walk_at "st") => `(tactic| first | exact SqT.of (by assumption) | exact Or.inl (by assumption) | exact SqT.of upd_same | fail "st")
local macro_rules | `(tactic| walk_at "ixt") => `(tactic| refine ⟨_, _, _, _, rfl, rfl, (by walk_at "st" : SqT _ _ _ _), by rfl, ?_⟩)
local macro_rules | `(tactic| walk_at "sq") => `(tactic| first | exact SqL.of (by assumption) | assumption | exact Or.inl (by assumption) | exact SqL.of upd_same | fail "sq")
local macro_rules | `(tactic| walk_at "ix") => `(tactic| refine ⟨_, _, _, _, rfl, rfl, (by walk_at "sq" : SqL _ _ _ _), by rfl, ?_⟩)
local macro_rules | `(tactic| walk_at "set") => `(tactic| refine ⟨_, _, _, _, rfl, rfl, by first | assumption | exact upd_same, by rfl, ?_⟩)
local macro_rules | `(tactic| walk_at "len") => `(tactic| refine ⟨_, _, rfl, Or.inl (by walk_at "sq" : SqL _ _ _ _), ?_⟩)
local macro_rules | `(tactic| walk_at "g") => `(tactic| repeat (first | refine ⟨_, rfl, ?_⟩ | refine ⟨_, _, rfl, rfl, ?_⟩ | refine ⟨Or.inr (by decide), ?_⟩ | refine ⟨Or.inl (by decide), ?_⟩ | refine ⟨(by decide : (0 : Int) < _), ?_⟩ | refine ⟨(⟨by decide, by decide⟩ : CDiv _ _), ?_⟩ | refine ⟨(⟨by decide, by decide, by decide⟩ : CPow _ _), ?_⟩ | refine Or.inl ⟨_, rfl, ?_⟩ | refine ⟨rfl, ?_⟩ | walk_at "ix" | walk_at "ixt" | walk_at "len" | fail "g"))
local macro_rules | `(tactic| walk_at "if") => `(tactic| refine ite2 (fun e => ?_) (fun e => ?_))
section
variable {P : Program} {w : World} {K : PySem.W.Frag} {mg : Str → Option Value} {base : Heap}
def sp_anyKey (K : PySem.W.Frag) : Sp := fun vs H Q _ => ∃ (b : Addr) (M : Ms), vs = [.ref b] ∧ Bag K M H b ∧ Mk M H ∧ Dr K M b H (fun x => ∃ f : Fm, x = f.enc ∧ goodKey f) Q
theorem ok_anyKey (T : Txt K mg) : FnOk P w K mg base CX0 9 T.f__law_any_key T.d__law_any_key ["_law_bag_here"] (sp_anyKey K) := by
  have G__law_pick := ok_pick (P := P) (w := w) (base := base) T
  have G__law_choice := ok_choice (P := P) (w := w) (base := base) T
  have G__law_form := ok_form (P := P) (w := w) (base := base) T 5
  refine T.F__law_any_key.ok sc__law_any_key (fun vs H Q E h => ?_) (fun cdv A outer s H vs Q E hr h => ?_)
  · obtain ⟨_, _, rfl, _⟩ := h
    rfl
  · obtain ⟨b, M, rfl, hB, hM, q⟩ := h
    refine ⟨_, (pss_cons (ps_set (i := 1) sc__law_any_key.nd rfl (Or.inl rfl) (pe_call G__law_pick (hr.mono (by omega)) (by rfl) T.g__law_pick T.F__law_pick.kp T.b__law_pick .nil pass0 (pa_cons (pv 0) (pa_cons pe_int pa_nil))))
      (pss_cons (ps_set (i := 2) sc__law_any_key.nd rfl (Or.inl rfl) (pe_call G__law_choice (hr.mono (by omega)) (by rfl) T.g__law_choice T.F__law_choice.kp T.b__law_choice .nil pass0 (pa_cons (pv 0) (pa_cons (pe_lst (pa_cons pe_int (pa_cons pe_int (pa_cons pe_int (pa_cons pe_int (pa_cons pe_int (pa_cons pe_int (pa_cons pe_int (pa_cons pe_int (pa_cons pe_int (pa_cons pe_int (pa_cons pe_int pa_nil)))))))))))) pa_nil))))
      (pss_cons (ps_set (i := 3) sc__law_any_key.nd rfl (Or.inl rfl) (pe_call G__law_choice (hr.mono (by omega)) (by rfl) T.g__law_choice T.F__law_choice.kp T.b__law_choice .nil pass0 (pa_cons (pv 0) (pa_cons (pe_lst (pa_cons pe_int (pa_cons pe_int (pa_cons pe_int (pa_cons pe_int (pa_cons pe_int (pa_cons pe_int pa_nil))))))) pa_nil))))
      (pss_cons (ps_set (i := 4) sc__law_any_key.nd rfl (Or.inl rfl) (pe_tup (pa_cons pe_str (pa_cons pe_str pa_nil))))
      (pss_cons (ps_if (pt_cmpR op_eq (pv 1) pe_int (nomark _)) (pss_one (ps_ret (pv 4))) pss_nil)
      (pss_cons (ps_if (pt_cmpR op_eq (pv 1) pe_int (nomark _)) (pss_one (ps_ret (pe_tup (pa_cons pe_str (pa_cons pe_str pa_nil))))) pss_nil)
      (pss_cons (ps_if (pt_cmpR op_eq (pv 1) pe_int (nomark _)) (pss_one (ps_ret (pe_tup (pa_cons pe_str (pa_cons (pv 2) pa_nil))))) pss_nil)
      (pss_cons (ps_if (pt_cmpR op_eq (pv 1) pe_int (nomark _)) (pss_one (ps_ret (pe_tup (pa_cons pe_str (pa_cons (pv 4) (pa_cons (pe_tup (pa_cons pe_str (pa_cons (pv 2) pa_nil))) pa_nil)))))) pss_nil)
      (pss_cons (ps_if (pt_cmpR op_eq (pv 1) pe_int (nomark _)) (pss_one (ps_ret (pe_tup (pa_cons pe_str (pa_cons (pv 4) (pa_cons (pv 4) pa_nil)))))) pss_nil)
      (pss_cons (ps_if (pt_cmpR op_eq (pv 1) pe_int (nomark _)) (pss_one (ps_ret (pe_tup (pa_cons pe_str (pa_cons (pv 4) (pa_cons (pe_tup (pa_cons pe_str (pa_cons (pv 2) pa_nil))) pa_nil)))))) pss_nil)
      (pss_cons (ps_if (pt_cmpR op_eq (pv 1) pe_int (nomark _)) (pss_one (ps_ret (pe_tup (pa_cons pe_str (pa_cons (pe_tup (pa_cons pe_str (pa_cons (pv 4) (pa_cons (pe_tup (pa_cons pe_str (pa_cons (pv 2) pa_nil))) pa_nil)))) (pa_cons (pe_tup (pa_cons pe_str (pa_cons (pe_call G__law_pick (hr.mono (by omega)) (by rfl) T.g__law_pick T.F__law_pick.kp T.b__law_pick .nil pass0 (pa_cons (pv 0) (pa_cons pe_int pa_nil))) pa_nil))) (pa_cons (pv 4) pa_nil))))))) pss_nil)
      (pss_cons (ps_if (pt_cmpR op_eq (pv 1) pe_int (nomark _)) (pss_one (ps_ret (pe_tup (pa_cons pe_str (pa_cons (pv 4) (pa_cons (pe_tup (pa_cons pe_str (pa_cons pe_str pa_nil))) pa_nil)))))) pss_nil)
      (pss_cons (ps_if (pt_cmpR op_eq (pv 1) pe_int (nomark _)) (pss_one (ps_ret (pe_tup (pa_cons pe_str (pa_cons (pe_tup (pa_cons pe_str (pa_cons (pe_tup (pa_cons pe_str (pa_cons pe_str pa_nil))) (pa_cons (pe_tup (pa_cons pe_str (pa_cons (pv 3) pa_nil))) pa_nil)))) (pa_cons (pe_tup (pa_cons pe_str (pa_cons (pv 2) pa_nil))) (pa_cons (pv 4) pa_nil))))))) pss_nil)
      (pss_one (ps_ret (pe_call G__law_form (hr.mono (by omega)) (by rfl) T.g__law_form T.F__law_form.kp T.b__law_form .nil pass0 (pa_cons (pv 0) (pa_cons (pe_lst (pa_cons pe_str (pa_cons pe_str pa_nil))) (pa_cons (pe_op op_add pe_int (pe_call G__law_pick (hr.mono (by omega)) (by rfl) T.g__law_pick T.F__law_pick.kp T.b__law_pick .nil pass0 (pa_cons (pv 0) (pa_cons pe_int pa_nil)))) pa_nil))))))))))))))))))), ?_⟩
    have hw := hB.w
    walk_at "g"
    refine ⟨b, _, M, rfl, hB, by omega, by omega, fun way H1 h0 h1 hA1 hB1 => ?_⟩
    walk_at "g"
    walk_at "g"
    refine ⟨szK rfl, fun p1 hp1 => ?_⟩
    have n1 : p1 ≠ b := fun z => hB1.there (by rw [← z]; exact hp1)
    refine ⟨b, p1, _, M, rfl, hB1.same (same_new hp1), SqL.of upd_same, n1, by decide, by decide, fun v2 H2 hv2 hA2 hB2 => ?_⟩
    obtain ⟨worth, rfl, w0, w9⟩ := ints_mem (l := [9, 9, 0, 1, 2, 3, 4, 5, 6, 7, 8]) (by decide) hv2
    walk_at "g"
    walk_at "g"
    refine ⟨szK rfl, fun p2 hp2 => ?_⟩
    have n2 : p2 ≠ b := fun z => hB2.there (by rw [← z]; exact hp2)
    refine ⟨b, p2, _, M, rfl, hB2.same (same_new hp2), SqL.of upd_same, n2, by decide, by decide, fun v3 H3 hv3 hA3 hB3 => ?_⟩
    obtain ⟨spot, rfl, t0, t9⟩ := ints_mem (l := [4, 4, 0, 1, 2, 3]) (by decide) hv3
    walk_at "g"
    walk_at "g"
    refine ⟨szK rfl, fun p4 hp4 => ?_⟩
    have s4 : Sx (one b) H (upd H3 p4 (.tup [.str (Str.ofString "get"), .str (Str.ofString "item")])) := hA1.sx.trans ((Sx.new hp1).trans (hA2.sx.trans ((Sx.new hp2).trans (hA3.sx.trans (Sx.new hp4)))))
    have g4 : Gr H (upd H3 p4 (.tup [.str (Str.ofString "get"), .str (Str.ofString "item")])) := (At.gr hA1 hB1.there).trans (Gr.upd.trans ((At.gr hA2 hB2.there).trans (Gr.upd.trans ((At.gr hA3 hB3.there).trans Gr.upd))))
    have g3 : Gr H H3 := (At.gr hA1 hB1.there).trans (Gr.upd.trans ((At.gr hA2 hB2.there).trans (Gr.upd.trans (At.gr hA3 hB3.there))))
    have hB4 : Bag K M (upd H3 p4 (.tup [.str (Str.ofString "get"), .str (Str.ofString "item")])) b := hB3.same (same_new hp4)
    have hI : Rp M (upd H3 p4 (.tup [.str (Str.ofString "get"), .str (Str.ofString "item")])) (.ref p4) (Fm.get sItem).enc := Rp.newT (hM.gr g3) hp4 (.cons (.str _) (.one (.str _)))
    have hM4 := hM.gr g4
    generalize upd H3 p4 (.tup [.str (Str.ofString "get"), .str (Str.ofString "item")]) = H4 at s4 g4 hB4 hI hM4
    have fin : ∀ (f : Fm) v H', Sx (one b) H4 H' → Gr H4 H' → Bag K M H' b → Rp M H' v f.enc → f.dep ≤ 5 → f.ok isKN → Q v H' := fun f v H' sx gr hB' r d o => q v H' f.enc (s4.trans sx) (g4.trans gr) hB' r ⟨f, rfl, d, o⟩
    have finS : ∀ (f : Fm) v H', Same H4 H' → Rp M H' v f.enc → f.dep ≤ 5 → f.ok isKN → Q v H' := fun f v H' ss r d o => fin f v H' (Sx.same ss) (Gr.same ss) (hB4.same ss) r d o
    have kI : isKN sItem := .inl rfl
    have kA : isKN sAt := .inr rfl
    walk_at "g"
    walk_at "if"
    · walk_at "g"
      exact finS (.get sItem) _ _ (Same.refl _) hI (Nat.le_of_ble_eq_true rfl) kI
    walk_at "g"
    walk_at "if"
    · walk_at "g"
      walk_at "g"
      refine ⟨szK rfl, fun p5 hp5 => ?_⟩
      exact finS (.get sAt) _ _ (same_new hp5) (Rp.newT hM4 hp5 (.cons (.str _) (.one (.str _)))) (Nat.le_of_ble_eq_true rfl) kA
    walk_at "g"
    walk_at "if"
    · walk_at "g"
      walk_at "g"
      refine ⟨szK rfl, fun p5 hp5 => ?_⟩
      exact finS (.is worth) _ _ (same_new hp5) (Rp.newT hM4 hp5 (.cons (.str _) (.one (.int _)))) (Nat.le_of_ble_eq_true rfl) ⟨w0, w9⟩
    walk_at "g"
    walk_at "if"
    · walk_at "g"
      walk_at "g"
      refine ⟨szK rfl, fun p5 hp5 => ?_⟩
      walk_at "g"
      refine ⟨szK rfl, fun p6 hp6 => ?_⟩
      exact finS (.sum (.get sItem) (.is worth)) _ _ ((same_new hp5).trans (same_new hp6)) (Rp.newT hM4.new hp6 (.cons (.str _) (.cons (hI.sx (Sx.new hp5)) (.one (Rp.newT hM4 hp5 (.cons (.str _) (.one (.int _)))))))) (Nat.le_of_ble_eq_true rfl) ⟨kI, w0, w9⟩
    walk_at "g"
    walk_at "if"
    · walk_at "g"
      walk_at "g"
      refine ⟨szK rfl, fun p5 hp5 => ?_⟩
      exact finS (.sum (.get sItem) (.get sItem)) _ _ (same_new hp5) (Rp.newT hM4 hp5 (.cons (.str _) (.cons hI (.one hI)))) (Nat.le_of_ble_eq_true rfl) ⟨kI, kI⟩
    walk_at "g"
    walk_at "if"
    · walk_at "g"
      walk_at "g"
      refine ⟨szK rfl, fun p5 hp5 => ?_⟩
      walk_at "g"
      refine ⟨szK rfl, fun p6 hp6 => ?_⟩
      exact finS (.same (.get sItem) (.is worth)) _ _ ((same_new hp5).trans (same_new hp6)) (Rp.newT hM4.new hp6 (.cons (.str _) (.cons (hI.sx (Sx.new hp5)) (.one (Rp.newT hM4 hp5 (.cons (.str _) (.one (.int _)))))))) (Nat.le_of_ble_eq_true rfl) ⟨kI, w0, w9⟩
    walk_at "g"
    walk_at "if"
    · walk_at "g"
      walk_at "g"
      refine ⟨szK rfl, fun p5 hp5 => ?_⟩
      walk_at "g"
      refine ⟨szK rfl, fun p6 hp6 => ?_⟩
      have r6 : Rp M _ (.ref p6) (Fm.same (.get sItem) (.is worth)).enc := Rp.newT hM4.new hp6 (.cons (.str _) (.cons (hI.sx (Sx.new hp5)) (.one (Rp.newT hM4 hp5 (.cons (.str _) (.one (.int _)))))))
      walk_at "g"
      refine ⟨b, _, M, rfl, (hB4.same (same_new hp5)).same (same_new hp6), by omega, by omega, fun w7 H7 k0 k1 hA7 hB7 => ?_⟩
      have s7 := hA7.sx.le (one_le hw)
      have g7 := At.gr hA7 hB7.there
      have hM7 := (hM4.new.new).gr g7
      walk_at "g"
      refine ⟨szK rfl, fun p8 hp8 => ?_⟩
      walk_at "g"
      refine ⟨szK rfl, fun p9 hp9 => ?_⟩
      refine fin (.pick (.same (.get sItem) (.is worth)) (.is w7) (.get sItem)) _ _ ((Sx.new hp5).trans ((Sx.new hp6).trans (hA7.sx.trans ((Sx.new hp8).trans (Sx.new hp9))))) (Gr.upd.trans (Gr.upd.trans (g7.trans (Gr.upd.trans Gr.upd)))) ((hB7.same (same_new hp8)).same (same_new hp9)) ?_ (Nat.le_of_ble_eq_true rfl) ⟨⟨kI, w0, w9⟩, ⟨k0, by omega⟩, kI⟩
      exact Rp.newT hM7.new hp9 (.cons (.str _) (.cons ((r6.sx s7).sx (Sx.new hp8)) (.cons (Rp.newT hM7 hp8 (.cons (.str _) (.one (.int _)))) (.one ((((hI.sx (Sx.new hp5)).sx (Sx.new hp6)).sx s7).sx (Sx.new hp8))))))
    walk_at "g"
    walk_at "if"
    · walk_at "g"
      walk_at "g"
      refine ⟨szK rfl, fun p5 hp5 => ?_⟩
      walk_at "g"
      refine ⟨szK rfl, fun p6 hp6 => ?_⟩
      exact finS (.sum (.get sItem) (.get sAt)) _ _ ((same_new hp5).trans (same_new hp6)) (Rp.newT hM4.new hp6 (.cons (.str _) (.cons (hI.sx (Sx.new hp5)) (.one (Rp.newT hM4 hp5 (.cons (.str _) (.one (.str _)))))))) (Nat.le_of_ble_eq_true rfl) ⟨kI, kA⟩
    walk_at "g"
    walk_at "if"
    · walk_at "g"
      walk_at "g"
      refine ⟨szK rfl, fun p5 hp5 => ?_⟩
      walk_at "g"
      refine ⟨szK rfl, fun p6 hp6 => ?_⟩
      walk_at "g"
      refine ⟨szK rfl, fun p7 hp7 => ?_⟩
      walk_at "g"
      walk_at "g"
      refine ⟨szK rfl, fun p8 hp8 => ?_⟩
      walk_at "g"
      walk_at "g"
      refine ⟨szK rfl, fun p9 hp9 => ?_⟩
      refine finS (.pick (.same (.get sAt) (.is spot)) (.is worth) (.get sItem)) _ _ ((same_new hp5).trans ((same_new hp6).trans ((same_new hp7).trans ((same_new hp8).trans (same_new hp9))))) ?_ (Nat.le_of_ble_eq_true rfl) ⟨⟨kA, t0, t9⟩, ⟨w0, w9⟩, kI⟩
      exact Rp.newT hM4.new.new.new.new hp9 (.cons (.str _) (.cons ((Rp.newT hM4.new.new hp7 (.cons (.str _) (.cons ((Rp.newT hM4 hp5 (.cons (.str _) (.one (.str _)))).sx (Sx.new hp6)) (.one (Rp.newT hM4.new hp6 (.cons (.str _) (.one (.int _)))))))).sx (Sx.new hp8)) (.cons (Rp.newT hM4.new.new.new hp8 (.cons (.str _) (.one (.int _)))) (.one ((((hI.sx (Sx.new hp5)).sx (Sx.new hp6)).sx (Sx.new hp7)).sx (Sx.new hp8))))))
    walk_at "g"
    walk_at "g"
    refine ⟨szK rfl, fun p5 hp5 => ?_⟩
    walk_at "g"
    refine ⟨b, _, M, rfl, hB4.same (same_new hp5), by omega, by omega, fun w7 H7 k0 k1 hA7 hB7 => ?_⟩
    have s7 := hA7.sx.le (one_le hw)
    have g7 := At.gr hA7 hB7.there
    have r5 : Rp M _ (.ref p5) (namesD [sItem, sAt]) := (Rp.newL hM4 hp5 (RpAll.strs [sItem, sAt])).sx s7
    walk_at "g"
    refine ⟨b, .ref p5, _, [sItem, sAt], M, rfl, hB7, hM4.new.gr g7, r5, by simp, by decide, by omega, by omega, fun v H8 d s8 g8 hB8 r8 hd => ?_⟩
    obtain ⟨f, rfl, l8, o8⟩ := hd
    exact fin f v H8 ((Sx.new hp5).trans (hA7.sx.trans s8)) (Gr.upd.trans (g7.trans g8)) hB8 r8 (by omega) (f.ok_imp (fun x hx => by
      rcases List.mem_cons.mp hx with e | hx
      · exact .inl e
      · exact .inr (List.mem_singleton.mp hx)) o8)
end
end D

namespace D
open PySem PySem.Spec PyProof.Rows L2
local macro_rules | `(tactic| walk_at "st") => `(tactic| first | exact SqT.of (by assumption) | exact Or.inl (by assumption) | exact SqT.of upd_same | fail "st")
local macro_rules | `(tactic| walk_at "ixt") => `(tactic| refine ⟨_, _, _, _, rfl, rfl, (by walk_at "st" : SqT _ _ _ _), by rfl, ?_⟩)
local macro_rules | `(tactic| walk_at "sq") => `(tactic| first | exact SqL.of (by assumption) | assumption | exact Or.inl (by assumption) | exact SqL.of upd_same | fail "sq")
local macro_rules | `(tactic| walk_at "ix") => `(tactic| refine ⟨_, _, _, _, rfl, rfl, (by walk_at "sq" : SqL _ _ _ _), by rfl, ?_⟩)
local macro_rules | `(tactic| walk_at "set") => `(tactic| refine ⟨_, _, _, _, rfl, rfl, by first | assumption | exact upd_same, by rfl, ?_⟩)
local macro_rules | `(tactic| walk_at "len") => `(tactic| refine ⟨_, _, rfl, Or.inl (by walk_at "sq" : SqL _ _ _ _), ?_⟩)
local macro_rules | `(tactic| walk_at "g") => `(tactic| repeat (first | refine ⟨_, rfl, ?_⟩ | refine ⟨_, _, rfl, rfl, ?_⟩ | refine ⟨Or.inr (by decide), ?_⟩ | refine ⟨Or.inl (by decide), ?_⟩ | refine ⟨(by decide : (0 : Int) < _), ?_⟩ | refine ⟨(⟨by decide, by decide⟩ : CDiv _ _), ?_⟩ | refine ⟨(⟨by decide, by decide, by decide⟩ : CPow _ _), ?_⟩ | refine Or.inl ⟨_, rfl, ?_⟩ | refine ⟨rfl, ?_⟩ | walk_at "ix" | walk_at "ixt" | walk_at "len" | fail "g"))
local macro_rules | `(tactic| walk_at "if") => `(tactic| refine ite2 (fun e => ?_) (fun e => ?_))
section
variable {P : Program} {w : World} {K : PySem.W.Frag} {mg : Str → Option Value} {base : Heap}
def sp_bent (K : PySem.W.Frag) : Sp := fun vs H Q _ => ∃ (b : Addr) (v : V) (f : Fm) (M : Ms), vs = [.ref b, v] ∧ Bag K M H b ∧ Mk M H ∧ Rp M H v f.enc ∧ f.dep ≤ 3 ∧ f.ok isKN ∧ Dr K M b H (fun x => ∃ g : Fm, x = g.enc ∧ goodKey g) Q
theorem ok_bent (T : Txt K mg) : FnOk P w K mg base CX0 4 T.f__law_bent T.d__law_bent ["_law_bag_here", "_law_form_here"] (sp_bent K) := by
  have G__law_pick := ok_pick (P := P) (w := w) (base := base) T
  have G__law_choice := ok_choice (P := P) (w := w) (base := base) T
  refine T.F__law_bent.ok sc__law_bent (fun vs H Q E h => ?_) (fun cdv A outer s H vs Q E hr h => ?_)
  · obtain ⟨_, _, _, _, rfl, _⟩ := h
    rfl
  · obtain ⟨b, v, f, M, rfl, hB, hM, hR, hd, ho, q⟩ := h
    refine ⟨_, (pss_cons (ps_set (i := 2) sc__law_bent.nd rfl (Or.inl rfl) (pe_call G__law_choice (hr.mono (by omega)) (by rfl) T.g__law_choice T.F__law_choice.kp T.b__law_choice .nil pass0 (pa_cons (pv 0) (pa_cons (pe_lst (pa_cons pe_int (pa_cons pe_int (pa_cons pe_int (pa_cons pe_int (pa_cons pe_int (pa_cons pe_int (pa_cons pe_int (pa_cons pe_int (pa_cons pe_int (pa_cons pe_int (pa_cons pe_int (pa_cons pe_int pa_nil))))))))))))) pa_nil))))
      (pss_cons (ps_set (i := 3) sc__law_bent.nd rfl (Or.inl rfl) (pe_call G__law_choice (hr.mono (by omega)) (by rfl) T.g__law_choice T.F__law_choice.kp T.b__law_choice .nil pass0 (pa_cons (pv 0) (pa_cons (pe_lst (pa_cons pe_int (pa_cons pe_int (pa_cons pe_int (pa_cons pe_int (pa_cons pe_int (pa_cons pe_int pa_nil))))))) pa_nil))))
      (pss_cons (ps_set (i := 4) sc__law_bent.nd rfl (Or.inl rfl) (pe_tup (pa_cons pe_str (pa_cons (pe_tup (pa_cons pe_str (pa_cons (pe_tup (pa_cons pe_str (pa_cons pe_str pa_nil))) (pa_cons (pe_tup (pa_cons pe_str (pa_cons (pv 3) pa_nil))) pa_nil)))) (pa_cons (pe_tup (pa_cons pe_str (pa_cons (pe_call G__law_pick (hr.mono (by omega)) (by rfl) T.g__law_pick T.F__law_pick.kp T.b__law_pick .nil pass0 (pa_cons (pv 0) (pa_cons pe_int pa_nil))) pa_nil))) (pa_cons (pv 1) pa_nil))))))
      (pss_one (ps_ret (pe_tup (pa_cons pe_str (pa_cons (pe_tup (pa_cons pe_str (pa_cons (pe_tup (pa_cons pe_str (pa_cons pe_str pa_nil))) (pa_cons (pe_tup (pa_cons pe_str (pa_cons (pv 2) pa_nil))) pa_nil)))) (pa_cons (pv 4) (pa_cons (pv 1) pa_nil)))))))))), ?_⟩
    have hw := hB.w
    walk_at "g"
    walk_at "g"
    refine ⟨szK rfl, fun p1 hp1 => ?_⟩
    have n1 : p1 ≠ b := fun z => hB.there (by rw [← z]; exact hp1)
    refine ⟨b, p1, _, M, rfl, hB.same (same_new hp1), SqL.of upd_same, n1, by decide, by decide, fun v2 H2 hv2 hA2 hB2 => ?_⟩
    obtain ⟨worth, rfl, w0, w9⟩ := ints_mem (l := [9, 9, 9, 0, 1, 2, 3, 4, 5, 6, 7, 8]) (by decide) hv2
    walk_at "g"
    walk_at "g"
    refine ⟨szK rfl, fun p2 hp2 => ?_⟩
    have n2 : p2 ≠ b := fun z => hB2.there (by rw [← z]; exact hp2)
    refine ⟨b, p2, _, M, rfl, hB2.same (same_new hp2), SqL.of upd_same, n2, by decide, by decide, fun v3 H3 hv3 hA3 hB3 => ?_⟩
    obtain ⟨spot, rfl, t0, t9⟩ := ints_mem (l := [4, 4, 0, 1, 2, 3]) (by decide) hv3
    walk_at "g"
    have s3 : Sx (one b) H H3 := (Sx.new hp1).trans (hA2.sx.trans ((Sx.new hp2).trans hA3.sx))
    have g3 : Gr H H3 := Gr.upd.trans ((At.gr hA2 hB2.there).trans (Gr.upd.trans (At.gr hA3 hB3.there)))
    have hM3 := hM.gr g3
    have hR3 := hR.sx (s3.le (one_le hw))
    walk_at "g"
    refine ⟨szK rfl, fun p5 hp5 => ?_⟩
    walk_at "g"
    refine ⟨szK rfl, fun p6 hp6 => ?_⟩
    walk_at "g"
    refine ⟨szK rfl, fun p7 hp7 => ?_⟩
    have r7 : Rp M _ (.ref p7) (Fm.same (.get sAt) (.is spot)).enc := Rp.newT hM3.new.new hp7 (.cons (.str _) (.cons ((Rp.newT hM3 hp5 (.cons (.str _) (.one (.str _)))).sx (Sx.new hp6)) (.one (Rp.newT hM3.new hp6 (.cons (.str _) (.one (.int _)))))))
    have hR7 := ((hR3.sx (Sx.new (o := .tup [.str (Str.ofString "get"), .str (Str.ofString "at")]) hp5)).sx (Sx.new (o := .tup [.str (Str.ofString "is"), .int spot]) hp6)).sx (Sx.new (o := .tup [.str (Str.ofString "same"), .ref p5, .ref p6]) hp7)
    walk_at "g"
    refine ⟨b, _, M, rfl, ((hB3.same (same_new hp5)).same (same_new hp6)).same (same_new hp7), by omega, by omega, fun w8 H8 k0 k1 hA8 hB8 => ?_⟩
    have s8 := hA8.sx.le (one_le hw)
    have g8 := At.gr hA8 hB8.there
    have hM8 := hM3.new.new.new.gr g8
    walk_at "g"
    refine ⟨szK rfl, fun p9 hp9 => ?_⟩
    walk_at "g"
    refine ⟨szK rfl, fun p10 hp10 => ?_⟩
    have r10 : Rp M _ (.ref p10) (Fm.pick (Fm.same (.get sAt) (.is spot)) (.is w8) f).enc := Rp.newT hM8.new hp10 (.cons (.str _) (.cons ((r7.sx s8).sx (Sx.new hp9)) (.cons (Rp.newT hM8 hp9 (.cons (.str _) (.one (.int _)))) (.one ((hR7.sx s8).sx (Sx.new hp9))))))
    have hR10 := ((hR7.sx s8).sx (Sx.new (o := .tup [.str (Str.ofString "is"), .int w8]) hp9)).sx (Sx.new (o := .tup [.str (Str.ofString "pick"), .ref p7, .ref p9, v]) hp10)
    walk_at "g"
    walk_at "g"
    refine ⟨szK rfl, fun p11 hp11 => ?_⟩
    walk_at "g"
    refine ⟨szK rfl, fun p12 hp12 => ?_⟩
    walk_at "g"
    refine ⟨szK rfl, fun p13 hp13 => ?_⟩
    walk_at "g"
    walk_at "g"
    refine ⟨szK rfl, fun p14 hp14 => ?_⟩
    have hM10 := hM8.new (p := p9) (o := .tup [.str (Str.ofString "is"), .int w8]) |>.new (p := p10) (o := .tup [.str (Str.ofString "pick"), .ref p7, .ref p9, v])
    have r13 : Rp M _ (.ref p13) (Fm.same (.get sItem) (.is worth)).enc := Rp.newT hM10.new.new hp13 (.cons (.str _) (.cons ((Rp.newT hM10 hp11 (.cons (.str _) (.one (.str _)))).sx (Sx.new hp12)) (.one (Rp.newT hM10.new hp12 (.cons (.str _) (.one (.int _)))))))
    refine q _ _ (Fm.pick (.same (.get sItem) (.is worth)) (.pick (Fm.same (.get sAt) (.is spot)) (.is w8) f) f).enc
      (s3.trans ((Sx.new hp5).trans ((Sx.new hp6).trans ((Sx.new hp7).trans (hA8.sx.trans ((Sx.new hp9).trans ((Sx.new hp10).trans ((Sx.new hp11).trans ((Sx.new hp12).trans ((Sx.new hp13).trans (Sx.new hp14)))))))))))
      (g3.trans (Gr.upd.trans (Gr.upd.trans (Gr.upd.trans (g8.trans (Gr.upd.trans (Gr.upd.trans (Gr.upd.trans (Gr.upd.trans (Gr.upd.trans Gr.upd))))))))))
      ((((((hB8.same (same_new hp9)).same (same_new hp10)).same (same_new hp11)).same (same_new hp12)).same (same_new hp13)).same (same_new hp14))
      (Rp.newT hM10.new.new.new hp14 (.cons (.str _) (.cons r13 (.cons (((r10.sx (Sx.new hp11)).sx (Sx.new hp12)).sx (Sx.new hp13)) (.one (((hR10.sx (Sx.new hp11)).sx (Sx.new hp12)).sx (Sx.new hp13))))))) ⟨_, rfl, ?_, ⟨.inl rfl, w0, w9⟩, ⟨⟨.inr rfl, t0, t9⟩, ⟨k0, by omega⟩, ho⟩, ho⟩
    show max (max 1 1 + 1) (max (max (max 1 1 + 1) (max 1 f.dep) + 1) f.dep) + 1 ≤ 5
    omega
end
end D

namespace D
open PySem PySem.Spec PyProof.Rows L2
local macro_rules | `(tactic| walk_at "st") => `(tactic| first | exact SqT.of (by assumption) | exact Or.inl (by assumption) | exact SqT.of upd_same | fail "st")
local macro_rules | `(tactic| walk_at "ixt") => `(tactic| refine ⟨_, _, _, _, rfl, rfl, (by walk_at "st" : SqT _ _ _ _), by rfl, ?_⟩)
local macro_rules | `(tactic| walk_at "sq") => `(tactic| first | exact SqL.of (by assumption) | assumption | exact Or.inl (by assumption) | exact SqL.of upd_same | fail "sq")
local macro_rules | `(tactic| walk_at "ix") => `(tactic| refine ⟨_, _, _, _, rfl, rfl, (by walk_at "sq" : SqL _ _ _ _), by rfl, ?_⟩)
local macro_rules | `(tactic| walk_at "set") => `(tactic| refine ⟨_, _, _, _, rfl, rfl, by first | assumption | exact upd_same, by rfl, ?_⟩)
local macro_rules | `(tactic| walk_at "len") => `(tactic| refine ⟨_, _, rfl, Or.inl (by walk_at "sq" : SqL _ _ _ _), ?_⟩)
local macro_rules | `(tactic| walk_at "g") => `(tactic| repeat (first | refine ⟨_, rfl, ?_⟩ | refine ⟨_, _, rfl, rfl, ?_⟩ | refine ⟨Or.inr (by decide), ?_⟩ | refine ⟨Or.inl (by decide), ?_⟩ | refine ⟨(by decide : (0 : Int) < _), ?_⟩ | refine ⟨(⟨by decide, by decide⟩ : CDiv _ _), ?_⟩ | refine ⟨(⟨by decide, by decide, by decide⟩ : CPow _ _), ?_⟩ | refine Or.inl ⟨_, rfl, ?_⟩ | refine ⟨rfl, ?_⟩ | walk_at "ix" | walk_at "ixt" | walk_at "len" | fail "g"))
local macro_rules | `(tactic| walk_at "if") => `(tactic| refine ite2 (fun e => ?_) (fun e => ?_))
section
variable {P : Program} {w : World} {K : PySem.W.Frag} {mg : Str → Option Value} {base : Heap}
def sp_lids : Sp := fun vs H Q _ => ∃ (k v : V) (f : Fm) (ns : List Int) (M : Ms), vs = [k, v] ∧ Rp M H k f.enc ∧ goodKey f ∧ RowAt M H v ns ∧ ns.length ≤ 5 ∧ Mk M H ∧ Pu M H (fun d => d = .list (idsOf (wsOf f ns))) Q
theorem ids_take {ws : List Int} {i : Nat} {w' : Int} (h : ws[i]? = some w') : (idsOf ws).take (i + 1) = (idsOf ws).take i ++ [.tuple [.int w', .int ((ws.take i).count w' : Nat)]] := by
  rw [List.take_add_one]
  congr 1
  unfold idsOf
  rw [List.getElem?_mapIdx, h]
  rfl
theorem ok_lids (T : Txt K mg) : FnOk P w K mg base CX0 7 T.f__law_idents T.d__law_idents ["_law_key", "_law_row_here"] (sp_lids) := by
  have G__law_value := ok_law_value (P := P) (w := w) (base := base) T 5
  refine T.F__law_idents.ok sc__law_idents (fun vs H Q E h => ?_) (fun cdv A outer s H vs Q E hr h => ?_)
  · obtain ⟨_, _, _, _, _, rfl, _⟩ := h
    rfl
  · obtain ⟨k, v, f, ns, M, rfl, hK, hg, hR, h5, hM, q⟩ := h
    obtain ⟨b, rfl, nb, hb⟩ := hR
    refine ⟨_, (pss_cons (ps_set (i := 2) sc__law_idents.nd rfl (Or.inl rfl) (pe_lst pa_nil))
      (pss_cons (ps_for PassesOwn.never rfl (pi_enumTK (K := K) rfl (by rfl) T.m_enumerate (pa_cons (pv 1) pa_nil)) (pg_tupK (K := K) rfl rfl (pgs_cons (pg_name (i := 3) sc__law_idents.nd rfl (Or.inl rfl)) (pgs_cons (pg_name (i := 4) sc__law_idents.nd rfl (Or.inl rfl)) pgs_nil))) (pss_cons (ps_set (i := 5) sc__law_idents.nd rfl (Or.inr rfl) (pe_call G__law_value (hr.mono (by omega)) (by rfl) T.g__law_value T.F__law_value.kp T.b__law_value .nil pass0 (pa_cons (pv 0) (pa_cons (pe_disp (pps_cons pe_str (pv 4) (pps_cons pe_str (pv 3) pps_nil)) (by rfl) (by rfl) (fun z => by cases z) (by decide)) pa_nil))))
      (pss_one (ps_expr (pe_bmK2 (K := K) rfl PySem.F.plainAttrs_list PySem.F.slot_list_append PySem.F.type_list_append mt_append (pv 2) (pa_cons (pe_tup (pa_cons (pv 5) (pa_cons (pe_callB (call_lenK (K := K) rfl) (by rfl) T.m_len PySem.boot_len (pa_cons (pe_lc (own := [("_law_told", 6)]) (g := gName 6)  (by rfl) sc__law_idents.nd (pi_listK (K := K) rfl (pv 2)) (blkOk_by (own := [("_law_told", 6)]) (N := ["_law_key", "_law_row_here", "_law_out", "_law_at", "_law_item", "_law_worth", "_law_told"]) (sc := defScope s__law_idents) (by decide +kernel)) (fun _ _ _ _ _ => (pg_name (i := 6) sc__law_idents.nd rfl (Or.inl rfl))) (fun _ _ _ _ _ => (pts_one (pt_cmpR op_eq (pe_ix (ix_tupK (K := K) rfl) (pv 6) pe_int (fun _ _ => rfl)) (pv 5) (nomark _)))) (fun _ _ _ _ _ => (pv 6))) pa_nil)) pa_nil))) pa_nil))))))
      (pss_one (ps_ret (pv 2))))), ?_⟩
    walk_at "g"
    refine ⟨szK rfl, fun o ho => ?_⟩
    walk_at "g"
    refine ⟨b, _, rfl, .inl (by have := same_rd (same_new (o := .lst []) ho) hb; exact this), ?_⟩
    have hlw : (wsOf f ns).length = ns.length := List.length_mapIdx
    refine for_enumT (K := K) (a := b) (xs := ns.map V.int) (fun i σ H' => ∃ y3 y4 y5 y6, σ = [some k, some (.ref b), some (.ref o), y3, y4, y5, y6] ∧ Same H H' ∧ ∃ acc, H' o = some (.lst acc) ∧ RpAll (also M o) H' acc ((idsOf (wsOf f ns)).take i)) ⟨_, _, _, _, rfl, same_new ho, [], upd_same, .nil⟩ (fun i σ H' _ p => ?_) (fun i x T' σ H' hx hT p => ?_) (fun σ H' p => ?_)
    · obtain ⟨_, _, _, _, rfl, hs, _⟩ := p
      exact same_sqt hs (.inl hb)
    · obtain ⟨_, _, _, _, rfl, hs, acc, eo, ra⟩ := p
      rw [List.getElem?_map] at hx
      obtain ⟨n, hn, rfl⟩ := Option.map_eq_some_iff.mp hx
      have hi : i < ns.length := (List.getElem?_eq_some_iff.mp hn).1
      have hw' : (wsOf f ns)[i]? = some (kval f n (i : Nat)) := by
        unfold wsOf
        rw [List.getElem?_mapIdx, hn]
        rfl
      generalize hws : wsOf f ns = ws at *
      have s1 : Same H' (upd H' T' (.tup [.int (i : Nat), .int n])) := same_new hT
      refine ⟨T', _, rfl, SqT.of upd_same, rfl, _, _, rfl, _, _, rfl, rfl, ?_⟩
      walk_at "g"
      intro p hp
      walk_at "g"
      refine ⟨upd_same, [(Sum.inr sItem, .int n), (Sum.inr sAt, .int (i : Nat))], rfl, (by show 2 ≤ 15; decide), ?_⟩
      rw [upd_upd]
      have s2 := same_new (o := .dK (mergeK [] [((Sum.inr sItem : Key), V.int n), (Sum.inr sAt, V.int (i : Nat))])) hp
      have s12 := s1.trans s2
      refine ⟨k, p, f, M, _, rho n (i : Nat), isKN, rfl, hK.sx (Sx.same (hs.trans s12)), hg.1, hg.2, upd_same, env_kvs n (i : Nat), ?_⟩
      walk_at "g"
      have eo' := s12 _ _ eo
      have ra' := (ra.sx (Sx.same s12))
      have hs' := hs.trans s12
      generalize upd (upd H' T' (.tup [.int (i : Nat), .int n])) p (.dK (mergeK [] [((Sum.inr sItem : Key), V.int n), (Sum.inr sAt, V.int (i : Nat))])) = Hc at eo' ra' hs'
      have lacc : acc.length = i := by
        have := ra.length
        have l2 : (idsOf ws).length = ws.length := List.length_mapIdx
        rw [List.length_take] at this
        omega
      refine ⟨.inl ⟨rfl, _, SqL.of eo'⟩, ?_⟩
      walk_at "g"
      refine ⟨⟨acc, SqL.of eo'⟩, fun D hD => ?_⟩
      have nDo : D ≠ o := fun z => by rw [z, eo'] at hD; cases hD
      refine list_loop (xs := acc) (fun j H2 => Same Hc H2 ∧ ∃ acc2, H2 D = some (.lst acc2) ∧ acc2.length = ((ws.take i).take j).count (kval f n (i : Nat))) ⟨same_new hD, [], upd_same, by rw [List.take_zero, List.count_nil]; rfl⟩ (fun j H2 _ pp => SqL.of (pp.1 _ _ eo')) (fun j x H2 hx2 pp => ?_) (fun H2 pp => ?_)
      · obtain ⟨s5, acc2, e5, l5⟩ := pp
        obtain ⟨d, hd, rd⟩ := (ra'.sx (Sx.same s5)).get hx2
        have hj : j < i := by
          have := (List.getElem?_eq_some_iff.mp hx2).1
          omega
        rw [List.getElem?_take_of_lt hj] at hd
        unfold idsOf at hd
        rw [List.getElem?_mapIdx] at hd
        obtain ⟨u, hu, rfl⟩ := Option.map_eq_some_iff.mp hd
        obtain ⟨a0, xs0, rfl, na0, ha0, rx0⟩ := Rp.tupN rd
        obtain ⟨v1, v2, rfl, r1, r2⟩ := rx0.inv2
        cases r1
        cases r2
        have hc : List.count (kval f n (i : Nat)) ((ws.take i).take (j + 1)) = List.count (kval f n (i : Nat)) ((ws.take i).take j) + if u = kval f n (i : Nat) then 1 else 0 := by
          rw [List.take_add_one, List.getElem?_take_of_lt hj, hu, List.count_append]
          congr 1
          show List.count _ [u] = _
          rw [List.count_singleton]
          by_cases c : u = kval f n (i : Nat)
          · rw [if_pos c, if_pos (beq_iff_eq.mpr c)]
          · rw [if_neg c, if_neg (fun z => c (beq_iff_eq.mp z))]
        refine ⟨rfl, ?_⟩
        walk_at "g"
        walk_at "if"
        · rename_i c
          have c' : u = kval f n (i : Nat) := V.int.inj (of_decide_eq_true c)
          walk_at "g"
          refine ⟨acc2, e5, small1000 (by have := List.count_le_length (a := kval f n (i : Nat)) (l := (ws.take i).take j); rw [List.length_take, List.length_take] at this; omega), same_put s5 hD, acc2 ++ [.ref a0], upd_same, ?_⟩
          rw [List.length_append, hc, if_pos c', l5]
          rfl
        · rename_i c
          have c' : ¬ u = kval f n (i : Nat) := fun z => c (decide_eq_true (by rw [z]; rfl))
          refine ⟨s5, acc2, e5, ?_⟩
          rw [hc, if_neg c', l5]
          rfl
      · obtain ⟨s5, acc2, e5, l5⟩ := pp
        rw [lacc, List.take_of_length_le (by rw [List.length_take]; omega)] at l5
        walk_at "g"
        refine ⟨szK rfl, fun p9 hp9 => ?_⟩
        rw [l5]
        have s6 : Same Hc (upd H2 p9 (.tup [.int (kval f n (i : Nat)), .int ((ws.take i).count (kval f n (i : Nat)) : Nat)])) := s5.trans (same_new hp9)
        walk_at "g"
        refine ⟨o, acc, .ref p9, rfl, rfl, s6 _ _ eo', small1000 (by omega), ?_⟩
        refine ⟨_, _, _, _, rfl, same_put (hs'.trans s6) ho, acc ++ [.ref p9], upd_same, ?_⟩
        rw [ids_take hw']
        have hp9' : ¬ (also M o) p9 := fun z => by
          rcases z with z | z
          · exact (hM.gr (Gr.same (hs'.trans s5))).out hp9 z
          · have z' : p9 = o := z
            rw [z', s5 _ _ eo'] at hp9
            cases hp9
        exact ((ra'.sx (Sx.same s6)).sx (Sx.put (.inr rfl))).append (.one (Rp.sx (Sx.put (.inr rfl)) (.tup hp9' (.inl upd_same) (.cons (.int _) (.one (.int _))))))
    · obtain ⟨_, _, _, _, rfl, hs, acc, eo, ra⟩ := p
      have el : (ns.map V.int).length = (idsOf (wsOf f ns)).length := by
        unfold idsOf
        rw [List.length_map, List.length_mapIdx, hlw]
      rw [el, List.take_length] at ra
      refine ⟨.ref o, rfl, q _ _ _ hs (.lst (hM.out ho) (.inl eo) (ra.less also_le)) rfl⟩
end
end D


namespace D
open PySem PySem.Spec PyProof.Rows L2
local macro_rules | `(tactic| walk_at "st") => `(tactic| first | exact SqT.of (by assumption) | exact Or.inl (by assumption) | exact SqT.of upd_same | fail "st")
local macro_rules | `(tactic| walk_at "ixt") => `(tactic| refine ⟨_, _, _, _, rfl, rfl, (by walk_at "st" : SqT _ _ _ _), by rfl, ?_⟩)
local macro_rules | `(tactic| walk_at "sq") => `(tactic| first | exact SqL.of (by assumption) | assumption | exact Or.inl (by assumption) | exact SqL.of upd_same | fail "sq")
local macro_rules | `(tactic| walk_at "ix") => `(tactic| refine ⟨_, _, _, _, rfl, rfl, (by walk_at "sq" : SqL _ _ _ _), by rfl, ?_⟩)
local macro_rules | `(tactic| walk_at "set") => `(tactic| refine ⟨_, _, _, _, rfl, rfl, by first | assumption | exact upd_same, by rfl, ?_⟩)
local macro_rules | `(tactic| walk_at "len") => `(tactic| refine ⟨_, _, rfl, Or.inl (by walk_at "sq" : SqL _ _ _ _), ?_⟩)
local macro_rules | `(tactic| walk_at "g") => `(tactic| repeat (first | refine ⟨_, rfl, ?_⟩ | refine ⟨_, _, rfl, rfl, ?_⟩ | refine ⟨Or.inr (by decide), ?_⟩ | refine ⟨Or.inl (by decide), ?_⟩ | refine ⟨(by decide : (0 : Int) < _), ?_⟩ | refine ⟨(⟨by decide, by decide⟩ : CDiv _ _), ?_⟩ | refine ⟨(⟨by decide, by decide, by decide⟩ : CPow _ _), ?_⟩ | refine Or.inl ⟨_, rfl, ?_⟩ | refine ⟨rfl, ?_⟩ | walk_at "ix" | walk_at "ixt" | walk_at "len" | fail "g"))
local macro_rules | `(tactic| walk_at "if") => `(tactic| refine ite2 (fun e => ?_) (fun e => ?_))
section
variable {P : Program} {w : World} {K : PySem.W.Frag} {mg : Str → Option Value} {base : Heap}
theorem funOk_true {L : List (Int × Int)} (h : ∀ a b : Nat, b < a → ∀ p q : Int × Int, L[a]? = some p → L[b]? = some q → ¬ (p.2 = q.2 ∧ p.1 ≠ q.1)) : funOk L = true := by
  unfold funOk
  rw [decide_eq_true_iff]
  intro p hp q hq e
  obtain ⟨a, ha⟩ := List.mem_iff_getElem?.mp hp
  obtain ⟨b, hb⟩ := List.mem_iff_getElem?.mp hq
  rcases Nat.lt_trichotomy a b with c | c | c
  · have := h b a c q p hb ha
    by_cases z : q.1 = p.1
    · exact z.symm
    · exact absurd ⟨e.symm, z⟩ this
  · subst c
    rw [ha] at hb
    cases hb
    rfl
  · have := h a b c p q ha hb
    by_cases z : p.1 = q.1
    · exact z
    · exact absurd ⟨e, z⟩ this
theorem funOk_false {L : List (Int × Int)} {a b : Nat} {p q : Int × Int} (ha : L[a]? = some p) (hb : L[b]? = some q) (e : p.2 = q.2) (n : p.1 ≠ q.1) : funOk L = false := by
  unfold funOk
  rw [decide_eq_false_iff_not]
  intro h
  exact n (h p (List.mem_of_getElem? ha) q (List.mem_of_getElem? hb) e)
def sp_most : Sp := fun vs H Q _ => ∃ (u v : V) (f g : Fm) (M : Ms), vs = [u, v] ∧ Rp M H u f.enc ∧ goodKey f ∧ Rp M H v g.enc ∧ goodKey g ∧ ∀ H', Same H H' → Q (.bl (atMost f g)) H'
theorem ok_most (T : Txt K mg) : FnOk P w K mg base CX0 7 T.f__law_at_most T.d__law_at_most ["_law_first", "_law_second"] (sp_most) := by
  have G__law_value := ok_law_value (P := P) (w := w) (base := base) T 5
  refine T.F__law_at_most.ok sc__law_at_most (fun vs H Q E h => ?_) (fun cdv A outer s H vs Q E hr h => ?_)
  · obtain ⟨_, _, _, _, _, rfl, _⟩ := h
    rfl
  · obtain ⟨u, v, f, g, M, rfl, hU, hf, hV, hg, q⟩ := h
    refine ⟨_, (pss_cons (ps_set (i := 2) sc__law_at_most.nd rfl (Or.inl rfl) (pe_lst pa_nil))
      (pss_cons (ps_set (i := 3) sc__law_at_most.nd rfl (Or.inl rfl) (pe_lst pa_nil))
      (pss_cons (ps_for PassesOwn.never rfl (pi_range1 (by rfl) T.m_range (pa_cons pe_int pa_nil)) (pg_name (i := 4) sc__law_at_most.nd rfl (Or.inl rfl)) (pss_one (ps_for PassesOwn.never rfl (pi_range1 (by rfl) T.m_range (pa_cons pe_int pa_nil)) (pg_name (i := 5) sc__law_at_most.nd rfl (Or.inl rfl)) (pss_cons (ps_expr (pe_bmK2 (K := K) rfl PySem.F.plainAttrs_list PySem.F.slot_list_append PySem.F.type_list_append mt_append (pv 2) (pa_cons (pe_call G__law_value (hr.mono (by omega)) (by rfl) T.g__law_value T.F__law_value.kp T.b__law_value .nil pass0 (pa_cons (pv 0) (pa_cons (pe_disp (pps_cons pe_str (pv 4) (pps_cons pe_str (pv 5) pps_nil)) (by rfl) (by rfl) (fun z => by cases z) (by decide)) pa_nil))) pa_nil)))
      (pss_one (ps_expr (pe_bmK2 (K := K) rfl PySem.F.plainAttrs_list PySem.F.slot_list_append PySem.F.type_list_append mt_append (pv 3) (pa_cons (pe_call G__law_value (hr.mono (by omega)) (by rfl) T.g__law_value T.F__law_value.kp T.b__law_value .nil pass0 (pa_cons (pv 1) (pa_cons (pe_disp (pps_cons pe_str (pv 4) (pps_cons pe_str (pv 5) pps_nil)) (by rfl) (by rfl) (fun z => by cases z) (by decide)) pa_nil))) pa_nil))))))))
      (pss_cons (ps_for PassesOwn.never rfl (pi_range1 (by rfl) T.m_range (pa_cons pe_int pa_nil)) (pg_name (i := 6) sc__law_at_most.nd rfl (Or.inl rfl)) (pss_one (ps_for PassesOwn.never rfl (pi_range1 (by rfl) T.m_range (pa_cons (pv 6) pa_nil)) (pg_name (i := 7) sc__law_at_most.nd rfl (Or.inl rfl)) (pss_one (ps_if (PW.pt (pw_and (pt_cmpR op_eq (pe_ix (ix_listK (K := K) rfl) (pv 3) (pv 6) (fun _ _ => rfl)) (pe_ix (ix_listK (K := K) rfl) (pv 3) (pv 7) (fun _ _ => rfl)) (nomark _)) (pw_and1 (pt_cmpR op_ne (pe_ix (ix_listK (K := K) rfl) (pv 2) (pv 6) (fun _ _ => rfl)) (pe_ix (ix_listK (K := K) rfl) (pv 2) (pv 7) (fun _ _ => rfl)) (nomark _))))) (pss_one (ps_ret pe_bl)) pss_nil)))))
      (pss_one (ps_ret pe_bl)))))), ?_⟩
    walk_at "g"
    refine ⟨szK rfl, fun o1 ho1 => ?_⟩
    walk_at "g"
    refine ⟨szK rfl, fun o2 ho2 => ?_⟩
    walk_at "g"
    have n21 : o2 ≠ o1 := fun z => by rw [z, upd_same] at ho2; cases ho2
    have ho2' : H o2 = none := by rw [upd_ne n21] at ho2; exact ho2
    refine ⟨by decide, by decide, ?_⟩
    let St : Nat → Hp → Prop := fun t H' => Same H H' ∧ H' o1 = some (.lst ((((prs f g).take t).map (·.1)).map V.int)) ∧ H' o2 = some (.lst ((((prs f g).take t).map (·.2)).map V.int))
    refine for_range (lo := 0) (n := 10) (fun i σ H' => (∃ y4 y5 y6 y7, σ = [some u, some v, some (.ref o1), some (.ref o2), y4, y5, y6, y7]) ∧ St (i * 5) H') ⟨⟨_, _, _, _, rfl⟩, (same_new ho1).trans (same_new ho2), by rw [upd_ne n21.symm, upd_same]; rfl, upd_same⟩ (fun i σ H1 hi p => ?_) (fun σ H1 p => ?_)
    · obtain ⟨⟨y4, y5, y6, y7, rfl⟩, st⟩ := p
      walk_at "g"
      refine ⟨by decide, by decide, ?_⟩
      refine for_range (lo := 0) (n := 5) (fun j σ H' => (∃ y5 y6 y7, σ = [some u, some v, some (.ref o1), some (.ref o2), some (.int (i : Nat)), y5, y6, y7]) ∧ St (i * 5 + j) H') ⟨⟨_, _, _, by rw [Int.zero_add]; rfl⟩, st⟩ (fun j σ H2 hj p2 => ?_) (fun σ H2 p2 => by
        obtain ⟨⟨y5, y6, y7, rfl⟩, st⟩ := p2
        exact ⟨⟨_, _, _, _, rfl⟩, by rw [Nat.succ_mul]; exact st⟩)
      obtain ⟨⟨y5, y6, y7, rfl⟩, sH, e1, e2⟩ := p2
      have hp : (prs f g)[i * 5 + j]? = some (kval f (i : Int) (j : Int), kval g (i : Int) (j : Int)) := prs_at f g hi hj
      have hl : ((prs f g).take (i * 5 + j)).length ≤ 50 := by
        rw [List.length_take, prs_len]
        omega
      walk_at "g"
      rw [Int.zero_add]
      refine ⟨.inl ⟨rfl, _, SqL.of e1⟩, ?_⟩
      walk_at "g"
      intro p3 hp3
      walk_at "g"
      refine ⟨upd_same, [(Sum.inr sItem, .int (i : Nat)), (Sum.inr sAt, .int (j : Nat))], rfl, (by show 2 ≤ 15; decide), ?_⟩
      rw [upd_upd]
      have s3 := same_new (o := .dK (mergeK [] [((Sum.inr sItem : Key), V.int (i : Nat)), (Sum.inr sAt, V.int (j : Nat))])) hp3
      have sH3 := sH.trans s3
      refine ⟨u, p3, f, M, _, rho (i : Nat) (j : Nat), isKN, rfl, hU.sx (Sx.same sH3), hf.1, hf.2, upd_same, env_kvs (i : Nat) (j : Nat), ?_⟩
      have e1' := s3 _ _ e1
      have e2' := s3 _ _ e2
      generalize upd H2 p3 (.dK (mergeK [] [((Sum.inr sItem : Key), V.int (i : Nat)), (Sum.inr sAt, V.int (j : Nat))])) = H3 at e1' e2' sH3
      refine ⟨o1, _, _, rfl, rfl, e1', small1000 (by rw [List.length_map, List.length_map]; omega), ?_⟩
      have e2'' : upd H3 o1 (.lst ((((prs f g).take (i * 5 + j)).map (·.1)).map V.int ++ [.int (Fm.val (rho (i : Nat) (j : Nat)) f)])) o2 = some (.lst ((((prs f g).take (i * 5 + j)).map (·.2)).map V.int)) := by rw [upd_ne n21]; exact e2'
      have sH4 := same_put (o := .lst ((((prs f g).take (i * 5 + j)).map (·.1)).map V.int ++ [.int (Fm.val (rho (i : Nat) (j : Nat)) f)])) sH3 ho1
      have e1'' : upd H3 o1 (.lst ((((prs f g).take (i * 5 + j)).map (·.1)).map V.int ++ [.int (Fm.val (rho (i : Nat) (j : Nat)) f)])) o1 = _ := upd_same
      generalize upd H3 o1 (.lst ((((prs f g).take (i * 5 + j)).map (·.1)).map V.int ++ [.int (Fm.val (rho (i : Nat) (j : Nat)) f)])) = H4 at e1'' e2'' sH4
      walk_at "g"
      refine ⟨.inl ⟨rfl, _, SqL.of e2''⟩, ?_⟩
      walk_at "g"
      intro p5 hp5
      walk_at "g"
      refine ⟨upd_same, [(Sum.inr sItem, .int (i : Nat)), (Sum.inr sAt, .int (j : Nat))], rfl, (by show 2 ≤ 15; decide), ?_⟩
      rw [upd_upd]
      have s5 := same_new (o := .dK (mergeK [] [((Sum.inr sItem : Key), V.int (i : Nat)), (Sum.inr sAt, V.int (j : Nat))])) hp5
      have sH5 := sH4.trans s5
      refine ⟨v, p5, g, M, _, rho (i : Nat) (j : Nat), isKN, rfl, hV.sx (Sx.same sH5), hg.1, hg.2, upd_same, env_kvs (i : Nat) (j : Nat), ?_⟩
      refine ⟨o2, _, _, rfl, rfl, s5 _ _ e2'', small1000 (by rw [List.length_map, List.length_map]; omega), ?_⟩
      have ht : (prs f g).take (i * 5 + (j + 1)) = (prs f g).take (i * 5 + j) ++ [(kval f (i : Int) (j : Int), kval g (i : Int) (j : Int))] := by
        rw [← Nat.add_assoc, List.take_add_one, hp]
        rfl
      refine ⟨⟨_, _, _, rfl⟩, same_put sH5 ho2', ?_, ?_⟩
      · rw [upd_ne n21.symm, s5 _ _ e1'', ht, List.map_append, List.map_append]
        rfl
      · rw [upd_same, ht, List.map_append, List.map_append]
        rfl
    · obtain ⟨⟨y4, y5, y6, y7, rfl⟩, sH, e1, e2⟩ := p
      have t50 : (prs f g).take (10 * 5) = prs f g := List.take_of_length_le (Nat.le_of_eq (prs_len f g))
      have e1 : H1 o1 = some (.lst (((prs f g).map (·.1)).map V.int)) := by rw [← t50]; exact e1
      have e2 : H1 o2 = some (.lst (((prs f g).map (·.2)).map V.int)) := by rw [← t50]; exact e2
      walk_at "g"
      refine ⟨by decide, by decide, ?_⟩
      refine for_range (lo := 0) (n := 50) (fun i σ H' => (∃ y4 y5 y6 y7, σ = [some u, some v, some (.ref o1), some (.ref o2), y4, y5, y6, y7]) ∧ H' = H1 ∧ ∀ a b : Nat, b < a → a < i → ∀ p q : Int × Int, (prs f g)[a]? = some p → (prs f g)[b]? = some q → ¬ (p.2 = q.2 ∧ p.1 ≠ q.1)) ⟨⟨_, _, _, _, rfl⟩, rfl, fun a b _ h => absurd h (by omega)⟩ (fun i σ H' hi p => ?_) (fun σ H' p => ?_)
      · obtain ⟨⟨y4, y5, y6, y7, rfl⟩, rfl, hg1⟩ := p
        walk_at "g"
        rw [Int.zero_add]
        refine ⟨by omega, by omega, ?_⟩
        refine for_range (lo := 0) (n := i) (fun j σ H2 => (∃ y4 y5 y7, σ = [some u, some v, some (.ref o1), some (.ref o2), y4, y5, some (.int (i : Nat)), y7]) ∧ H2 = H' ∧ ∀ b : Nat, b < j → ∀ p q : Int × Int, (prs f g)[i]? = some p → (prs f g)[b]? = some q → ¬ (p.2 = q.2 ∧ p.1 ≠ q.1)) ⟨⟨_, _, _, rfl⟩, rfl, fun b h => absurd h (by omega)⟩ (fun j σ H2 hj p => ?_) (fun σ H2 p => ?_)
        · obtain ⟨⟨y4, y5, y7, rfl⟩, rfl, hg2⟩ := p
          have at1 : ∀ (k : Nat) (p : Int × Int), (prs f g)[k]? = some p → atI (((prs f g).map (·.1)).map V.int) (k : Int) = some (.int p.1) := fun k p h => atI_nat (by rw [List.getElem?_map, List.getElem?_map, h]; rfl)
          have at2 : ∀ (k : Nat) (p : Int × Int), (prs f g)[k]? = some p → atI (((prs f g).map (·.2)).map V.int) (k : Int) = some (.int p.2) := fun k p h => atI_nat (by rw [List.getElem?_map, List.getElem?_map, h]; rfl)
          obtain ⟨pi, hpi⟩ : ∃ p, (prs f g)[i]? = some p := ⟨_, List.getElem?_eq_getElem (by rw [prs_len]; exact hi)⟩
          obtain ⟨pj, hpj⟩ : ∃ p, (prs f g)[j]? = some p := ⟨_, List.getElem?_eq_getElem (by rw [prs_len]; omega)⟩
          have nxt : ¬ (pi.2 = pj.2 ∧ pi.1 ≠ pj.1) → ∀ b : Nat, b < j + 1 → ∀ p q : Int × Int, (prs f g)[i]? = some p → (prs f g)[b]? = some q → ¬ (p.2 = q.2 ∧ p.1 ≠ q.1) := fun hn b hb p q hp hq => by
            rcases Nat.lt_or_eq_of_le (Nat.le_of_lt_succ hb) with c | c
            · exact hg2 b c p q hp hq
            · subst c
              rw [hpi] at hp
              rw [hpj] at hq
              cases hp
              cases hq
              exact hn
          rw [Int.zero_add]
          walk_at "g"
          refine ⟨_, _, _, _, rfl, rfl, SqL.of e2, at2 i pi hpi, ?_⟩
          walk_at "g"
          refine ⟨_, _, _, _, rfl, rfl, SqL.of e2, at2 j pj hpj, ?_⟩
          walk_at "g"
          walk_at "if"
          · rename_i c
            have c2 : pi.2 = pj.2 := V.int.inj (of_decide_eq_true c)
            walk_at "g"
            refine ⟨_, _, _, _, rfl, rfl, SqL.of e1, at1 i pi hpi, ?_⟩
            walk_at "g"
            refine ⟨_, _, _, _, rfl, rfl, SqL.of e1, at1 j pj hpj, ?_⟩
            walk_at "g"
            walk_at "if"
            · rename_i c3
              have c4 : pi.1 ≠ pj.1 := fun z => by rw [z, decide_eq_true rfl] at c3; cases c3
              walk_at "g"
              have fin := q _ sH
              have e : atMost f g = false := funOk_false hpi hpj c2 c4
              rw [e] at fin
              exact fin
            · rename_i c3
              have c4 : pi.1 = pj.1 := by
                by_cases z : pi.1 = pj.1
                · exact z
                · exfalso
                  apply c3
                  rw [decide_eq_false (fun y => z (V.int.inj y))]
                  rfl
              exact ⟨⟨_, _, _, rfl⟩, rfl, nxt (fun z => z.2 c4)⟩
          · rename_i c
            have c2 : ¬ pi.2 = pj.2 := fun z => c (decide_eq_true (by rw [z]))
            walk_at "g"
            exact ⟨⟨_, _, _, rfl⟩, rfl, nxt (fun z => c2 z.1)⟩
        · obtain ⟨⟨y4, y5, y7, rfl⟩, rfl, hg2⟩ := p
          refine ⟨⟨_, _, _, _, rfl⟩, rfl, fun a b h1 h2 p q ha hb => ?_⟩
          rcases Nat.lt_or_eq_of_le (Nat.le_of_lt_succ h2) with c | c
          · exact hg1 a b h1 c p q ha hb
          · subst c
            exact hg2 b h1 p q ha hb
      · obtain ⟨⟨y4, y5, y6, y7, rfl⟩, rfl, hg1⟩ := p
        walk_at "g"
        have fin := q _ sH
        have e : atMost f g = true := funOk_true fun a b h p q ha hb => hg1 a b h (by have := (List.getElem?_eq_some_iff.mp ha).1; rw [prs_len] at this; exact this) p q ha hb
        rw [e] at fin
        exact fin
end
end D


namespace D
open PySem PySem.Spec PyProof.Rows L2
local macro_rules | `(tactic| walk_at "st") => `(tactic| first | exact SqT.of (by assumption) | exact Or.inl (by assumption) | exact SqT.of upd_same | fail "st")
local macro_rules | `(tactic| walk_at "ixt") => `(tactic| refine ⟨_, _, _, _, rfl, rfl, (by walk_at "st" : SqT _ _ _ _), by rfl, ?_⟩)
local macro_rules | `(tactic| walk_at "sq") => `(tactic| first | exact SqL.of (by assumption) | assumption | exact Or.inl (by assumption) | exact SqL.of upd_same | fail "sq")
local macro_rules | `(tactic| walk_at "ix") => `(tactic| refine ⟨_, _, _, _, rfl, rfl, (by walk_at "sq" : SqL _ _ _ _), by rfl, ?_⟩)
local macro_rules | `(tactic| walk_at "set") => `(tactic| refine ⟨_, _, _, _, rfl, rfl, by first | assumption | exact upd_same, by rfl, ?_⟩)
local macro_rules | `(tactic| walk_at "len") => `(tactic| refine ⟨_, _, rfl, Or.inl (by walk_at "sq" : SqL _ _ _ _), ?_⟩)
local macro_rules | `(tactic| walk_at "g") => `(tactic| repeat (first | refine ⟨_, rfl, ?_⟩ | refine ⟨_, _, rfl, rfl, ?_⟩ | refine ⟨Or.inr (by decide), ?_⟩ | refine ⟨Or.inl (by decide), ?_⟩ | refine ⟨(by decide : (0 : Int) < _), ?_⟩ | refine ⟨(⟨by decide, by decide⟩ : CDiv _ _), ?_⟩ | refine ⟨(⟨by decide, by decide, by decide⟩ : CPow _ _), ?_⟩ | refine Or.inl ⟨_, rfl, ?_⟩ | refine ⟨rfl, ?_⟩ | walk_at "ix" | walk_at "ixt" | walk_at "len" | fail "g"))
local macro_rules | `(tactic| walk_at "if") => `(tactic| refine ite2 (fun e => ?_) (fun e => ?_))
section
variable {P : Program} {w : World} {K : PySem.W.Frag} {mg : Str → Option Value} {base : Heap}
def sp_tp : Sp := fun vs H Q _ => ∃ (v1 v2 : V) (ws : List Int) (M : Ms), vs = [v1, v2] ∧ Rp M H v1 (.tuple (idsOf ws)) ∧ Rp M H v2 (.list (idsOf ws)) ∧ ws.length ≤ 5 ∧ Q (.bl true) H
theorem ok_tp (T : Txt K mg) : FnOk P w K mg base CX0 2 T.f__law_told_pairs T.d__law_told_pairs ["_law_told", "_law_due"] (sp_tp) := by
  have G__law_number := ok_number (P := P) (w := w) (base := base) T
  refine T.F__law_told_pairs.ok sc__law_told_pairs (fun vs H Q E h => ?_) (fun cdv A outer s H vs Q E hr h => ?_)
  · obtain ⟨_, _, _, _, rfl, _⟩ := h
    rfl
  · obtain ⟨v1, v2, ws, M, rfl, h1, h2, h5, q⟩ := h
    obtain ⟨a, xs, rfl, na, ha, rx⟩ := Rp.tupN h1
    obtain ⟨b, ys, rfl, nb, hb, ry⟩ := Rp.lstN h2
    have lx := rx.length
    have ly := ry.length
    have li : (idsOf ws).length = ws.length := List.length_mapIdx
    refine ⟨_, (pss_cons (ps_if (PW.pt (pw_or (pt_not (pt_val (pe_callB (call_isi1K (K := K) rfl) (by rfl) T.m_isinstance (by decide +kernel) (pa_cons (pv 0) (pa_cons (pe_bltn (v := .ty "tuple") (u := .type "tuple") (by rfl) T.m_tuple (by decide +kernel) rfl) pa_nil))))) (pw_or1 (pt_cmpR op_ne (pe_callB (call_lenK (K := K) rfl) (by rfl) T.m_len PySem.boot_len (pa_cons (pv 0) pa_nil)) (pe_callB (call_lenK (K := K) rfl) (by rfl) T.m_len PySem.boot_len (pa_cons (pv 1) pa_nil)) (nomark _))))) (pss_one (ps_ret pe_bl)) pss_nil)
      (pss_cons (ps_for PassesOwn.never rfl (pi_range1 (by rfl) T.m_range (pa_cons (pe_callB (call_lenK (K := K) rfl) (by rfl) T.m_len PySem.boot_len (pa_cons (pv 1) pa_nil)) pa_nil)) (pg_name (i := 2) sc__law_told_pairs.nd rfl (Or.inl rfl)) (pss_cons (ps_set (i := 3) sc__law_told_pairs.nd rfl (Or.inl rfl) (pe_ix (ix_tupK (K := K) rfl) (pv 0) (pv 2) (fun _ _ => rfl)))
      (pss_cons (ps_if (PW.pt (pw_or (pt_not (pt_val (pe_callB (call_isi1K (K := K) rfl) (by rfl) T.m_isinstance (by decide +kernel) (pa_cons (pv 3) (pa_cons (pe_bltn (v := .ty "tuple") (u := .type "tuple") (by rfl) T.m_tuple (by decide +kernel) rfl) pa_nil))))) (pw_or1 (pt_cmpR op_ne (pe_callB (call_lenK (K := K) rfl) (by rfl) T.m_len PySem.boot_len (pa_cons (pv 3) pa_nil)) pe_int (nomark _))))) (pss_one (ps_ret pe_bl)) pss_nil)
      (pss_cons (ps_if (PW.pt (pw_or (pt_not (pt_val (pe_call G__law_number (hr.mono (by omega)) (by rfl) T.g__law_number T.F__law_number.kp T.b__law_number .nil pass0 (pa_cons (pe_ix (ix_tupK (K := K) rfl) (pv 3) pe_int (fun _ _ => rfl)) pa_nil)))) (pw_or1 (pt_not (pt_val (pe_call G__law_number (hr.mono (by omega)) (by rfl) T.g__law_number T.F__law_number.kp T.b__law_number .nil pass0 (pa_cons (pe_ix (ix_tupK (K := K) rfl) (pv 3) pe_int (fun _ _ => rfl)) pa_nil))))))) (pss_one (ps_ret pe_bl)) pss_nil)
      (pss_one (ps_if (PW.pt (pw_or (pt_cmpR op_ne (pe_ix (ix_tupK (K := K) rfl) (pv 3) pe_int (fun _ _ => rfl)) (pe_ix (ix_tupK (K := K) rfl) (pe_ix (ix_listK (K := K) rfl) (pv 1) (pv 2) (fun _ _ => rfl)) pe_int (fun _ _ => rfl)) (nomark _)) (pw_or1 (pt_cmpR op_ne (pe_ix (ix_tupK (K := K) rfl) (pv 3) pe_int (fun _ _ => rfl)) (pe_ix (ix_tupK (K := K) rfl) (pe_ix (ix_listK (K := K) rfl) (pv 1) (pv 2) (fun _ _ => rfl)) pe_int (fun _ _ => rfl)) (nomark _))))) (pss_one (ps_ret pe_bl)) pss_nil))))))
      (pss_one (ps_ret pe_bl)))), ?_⟩
    walk_at "g"
    refine ⟨_, _, _, _, true, rfl, .ty _, rd_ty ha, kit_ty (by decide +kernel), ?_⟩
    walk_at "g"
    refine ⟨_, _, rfl, .inr (.inl ha), ?_⟩
    walk_at "g"
    rw [decide_eq_true (show V.int (xs.length : Int) = V.int (ys.length : Int) by rw [lx, ly])]
    walk_at "g"
    refine ⟨by omega, by omega, ?_⟩
    refine for_range (lo := 0) (n := (ys.length : Int).toNat) (fun i σ H' => (∃ y2 y3, σ = [some (.ref a), some (.ref b), y2, y3]) ∧ H' = H) ⟨⟨_, _, rfl⟩, rfl⟩ (fun i σ H' hi p => ?_) (fun σ H' p => ?_)
    · obtain ⟨⟨y2, y3, rfl⟩, rfl⟩ := p
      have hi' : i < ws.length := by omega
      have hid : (idsOf ws)[i]? = some (.tuple [.int ws[i], .int ((ws.take i).count ws[i] : Nat)]) := by
        unfold idsOf
        rw [List.getElem?_mapIdx, List.getElem?_eq_getElem hi']
        rfl
      obtain ⟨x, hx, rdx⟩ := rx.getD hid
      obtain ⟨y, hy, rdy⟩ := ry.getD hid
      obtain ⟨a1, xs1, rfl, na1, ha1, rx1⟩ := Rp.tupN rdx
      obtain ⟨u1, u2, rfl, r1, r2⟩ := rx1.inv2
      cases r1
      cases r2
      obtain ⟨b1, ys1, rfl, nb1, hb1, ry1⟩ := Rp.tupN rdy
      obtain ⟨w1, w2, rfl, r1, r2⟩ := ry1.inv2
      cases r1
      cases r2
      rw [Int.zero_add]
      have atx : atI xs (i : Int) = some (.ref a1) := atI_nat hx
      have aty : atI ys (i : Int) = some (.ref b1) := atI_nat hy
      walk_at "g"
      refine ⟨_, _, _, _, rfl, rfl, .inl ha, atx, ?_⟩
      walk_at "g"
      refine ⟨_, _, _, _, true, rfl, .ty _, rd_ty ha1, kit_ty (by decide +kernel), ?_⟩
      walk_at "g"
      refine ⟨_, _, rfl, .inr (.inl ha1), ?_⟩
      walk_at "g"
      refine ⟨_, _, _, _, rfl, rfl, .inl hb, aty, ?_⟩
      walk_at "g"
      rw [decide_eq_true (show V.int ws[i] = V.int ws[i] from rfl)]
      walk_at "g"
      refine ⟨_, _, _, _, rfl, rfl, .inl hb, aty, ?_⟩
      walk_at "g"
      rw [decide_eq_true (show V.int ((ws.take i).count ws[i] : Nat) = V.int ((ws.take i).count ws[i] : Nat) from rfl)]
      walk_at "g"
      exact ⟨⟨_, _, rfl⟩, rfl⟩
    · obtain ⟨⟨y2, y3, rfl⟩, rfl⟩ := p
      walk_at "g"
      exact q
theorem enc_plain : ∀ f : Fm, PyData.eqv f.enc f.enc = true
  | .is n => by simp [Fm.enc, PyData.eqv, PyData.eqvAll]
  | .get x => by simp [Fm.enc, PyData.eqv, PyData.eqvAll]
  | .sum f g => by simp [Fm.enc, PyData.eqv, PyData.eqvAll, enc_plain f, enc_plain g]
  | .same f g => by simp [Fm.enc, PyData.eqv, PyData.eqvAll, enc_plain f, enc_plain g]
  | .pick f g k => by simp [Fm.enc, PyData.eqv, PyData.eqvAll, enc_plain f, enc_plain g, enc_plain k]
theorem ok_words : PyData.strOk sIs = true ∧ PyData.strOk sGet = true ∧ PyData.strOk sSum = true ∧ PyData.strOk sSame = true ∧ PyData.strOk sPick = true ∧ PyData.strOk sItem = true ∧ PyData.strOk sAt = true := by decide +kernel
theorem enc_lay : ∀ f : Fm, f.ok isKN → PyData.canLay0 f.enc = true
  | .is n, _ => by
    obtain ⟨a, b, c, d, e, x, y⟩ := ok_words
    simp [Fm.enc, PyData.canLay0, PyData.canLayAll0, a]
  | .get x, h => by
    obtain ⟨a, b, c, d, e, x1, y⟩ := ok_words
    rcases h with rfl | rfl <;> simp [Fm.enc, PyData.canLay0, PyData.canLayAll0, b, x1, y]
  | .sum f g, h => by
    obtain ⟨a, b, c, d, e, x, y⟩ := ok_words
    simp [Fm.enc, PyData.canLay0, PyData.canLayAll0, c, enc_lay f h.1, enc_lay g h.2]
  | .same f g, h => by
    obtain ⟨a, b, c, d, e, x, y⟩ := ok_words
    simp [Fm.enc, PyData.canLay0, PyData.canLayAll0, d, enc_lay f h.1, enc_lay g h.2]
  | .pick f g k, h => by
    obtain ⟨a, b, c, d, e, x, y⟩ := ok_words
    simp [Fm.enc, PyData.canLay0, PyData.canLayAll0, e, enc_lay f h.1, enc_lay g h.2.1, enc_lay k h.2.2]
theorem enc_deep : ∀ f : Fm, PyData.depth f.enc ≤ f.dep
  | .is n => by simp [Fm.enc, PyData.depth, PyData.depthAll, Fm.dep]
  | .get x => by simp [Fm.enc, PyData.depth, PyData.depthAll, Fm.dep]
  | .sum f g => by
    have h1 := enc_deep f; have h2 := enc_deep g
    simp only [Fm.enc, PyData.depth, PyData.depthAll, Fm.dep]
    omega
  | .same f g => by
    have h1 := enc_deep f; have h2 := enc_deep g
    simp only [Fm.enc, PyData.depth, PyData.depthAll, Fm.dep]
    omega
  | .pick f g k => by
    have h1 := enc_deep f; have h2 := enc_deep g; have h3 := enc_deep k
    simp only [Fm.enc, PyData.depth, PyData.depthAll, Fm.dep]
    omega
theorem enc_shaped (f : Fm) (h : goodKey f) : SeqAt.shaped f.enc = true := by
  have h1 := enc_deep f
  have h2 := h.1
  exact Bool.and_eq_true_iff.mpr ⟨enc_lay f h.2, decide_eq_true (by omega)⟩
def sp_table (T : Txt K mg) : Sp := fun vs H Q _ => ∃ (k v : V) (f : Fm) (M : Ms), vs = [k, v] ∧ KeyAt T.C_Key M H k f ∧ Rp M H v f.enc ∧ ∀ H', Same H H' → Q (.bl true) H'
theorem ok_table (T : Txt K mg) : FnOk P w K mg base CX0 9 T.f__law_table T.d__law_table ["_law_key", "_law_form_here"] (sp_table T) := by
  have G__law_number := ok_number (P := P) (w := w) (base := base) T
  have G__law_value := ok_law_value (P := P) (w := w) (base := base) T 5
  have G_Key___call__ := ok_kcall (P := P) (w := w) (base := base) T
  have G_Key_parts := ok_parts (P := P) (w := w) (base := base) T
  refine T.F__law_table.ok sc__law_table (fun vs H Q E h => ?_) (fun cdv A outer s H vs Q E hr h => ?_)
  · obtain ⟨_, _, _, _, rfl, _⟩ := h
    rfl
  · obtain ⟨k, v, f, M, rfl, hK, hV, q⟩ := h
    refine ⟨_, (pss_cons (ps_if (PW.pt (pw_or (pt_not (pt_val (pe_callB (call_isi1K (K := K) rfl) (by rfl) T.m_isinstance (by decide +kernel) (pa_cons (pe_prop (pv 0) T.cl_Key T.P_Key_parts G_Key_parts (hr.mono (by omega)) T.b_Key_parts .nil pass0 rfl) (pa_cons (pe_bltn (v := .ty "tuple") (u := .type "tuple") (by rfl) T.m_tuple (by decide +kernel) rfl) pa_nil))))) (pw_or1 (pt_cmpR (op_neDK (K := K) rfl hr.units) (pe_prop (pv 0) T.cl_Key T.P_Key_parts G_Key_parts (hr.mono (by omega)) T.b_Key_parts .nil pass0 rfl) (pv 1) (nomark _))))) (pss_one (ps_ret pe_bl)) pss_nil)
      (pss_cons (ps_for PassesOwn.never rfl (pi_range1 (by rfl) T.m_range (pa_cons pe_int pa_nil)) (pg_name (i := 2) sc__law_table.nd rfl (Or.inl rfl)) (pss_one (ps_for PassesOwn.never rfl (pi_range1 (by rfl) T.m_range (pa_cons pe_int pa_nil)) (pg_name (i := 3) sc__law_table.nd rfl (Or.inl rfl)) (pss_cons (ps_set (i := 4) sc__law_table.nd rfl (Or.inl rfl) (pe_callOI ⟨T.a_Key___call__, T.i_Key___call__, T.n_Key___call__⟩ G_Key___call__ T.b_Key___call__ (hr.mono (by omega)) pass0 (pv 0) (pa_cons (pv 2) (pa_cons (pv 3) pa_nil))))
      (pss_one (ps_if (PW.pt (pw_or (pt_not (pt_val (pe_call G__law_number (hr.mono (by omega)) (by rfl) T.g__law_number T.F__law_number.kp T.b__law_number .nil pass0 (pa_cons (pv 4) pa_nil)))) (pw_or1 (pt_cmpR op_ne (pv 4) (pe_call G__law_value (hr.mono (by omega)) (by rfl) T.g__law_value T.F__law_value.kp T.b__law_value .nil pass0 (pa_cons (pv 1) (pa_cons (pe_disp (pps_cons pe_str (pv 2) (pps_cons pe_str (pv 3) pps_nil)) (by rfl) (by rfl) (fun z => by cases z) (by decide)) pa_nil))) (nomark _))))) (pss_one (ps_ret pe_bl)) pss_nil))))))
      (pss_one (ps_ret pe_bl)))), ?_⟩
    obtain ⟨a1, dx, u, e, na1, ha1, hu, hg⟩ := id hK
    subst e
    walk_at "g"
    refine ⟨a1, dx, _, rfl, ha1, .ref a1, f, M, rfl, hK, fun v' r' => ?_⟩
    obtain ⟨c, xs, rfl, nc, hc, _⟩ := Rp.form r'
    walk_at "g"
    refine ⟨_, _, _, _, true, rfl, .ty _, rd_ty hc, kit_ty (by decide +kernel), ?_⟩
    walk_at "g"
    refine ⟨a1, dx, _, rfl, ha1, .ref a1, f, M, rfl, hK, fun v'' r'' => ?_⟩
    walk_at "g"
    refine ⟨f.enc, f.enc, Rp.dp _ _ r'', Rp.dp _ _ hV, enc_shaped f hg, enc_shaped f hg, ?_⟩
    rw [enc_plain]
    walk_at "g"
    refine ⟨by decide, by decide, ?_⟩
    refine for_range (lo := 0) (n := 10) (fun i σ H' => (∃ y2 y3 y4, σ = [some (.ref a1), some v, y2, y3, y4]) ∧ Same H H') ⟨⟨_, _, _, rfl⟩, Same.refl _⟩ (fun i σ H1 hi p => ?_) (fun σ H1 p => ?_)
    · obtain ⟨⟨y2, y3, y4, rfl⟩, s1⟩ := p
      walk_at "g"
      rw [Int.zero_add]
      refine ⟨by decide, by decide, ?_⟩
      refine for_range (lo := 0) (n := 5) (fun j σ H' => (∃ y3 y4, σ = [some (.ref a1), some v, some (.int (i : Nat)), y3, y4]) ∧ Same H H') ⟨⟨_, _, rfl⟩, s1⟩ (fun j σ H2 hj p2 => ?_) (fun σ H2 p2 => by
        obtain ⟨⟨y3, y4, rfl⟩, st⟩ := p2
        exact ⟨⟨_, _, _, rfl⟩, st⟩)
      obtain ⟨⟨y3, y4, rfl⟩, s2⟩ := p2
      rw [Int.zero_add]
      walk_at "g"
      have hK2 := hK.sx (Sx.same s2)
      refine ⟨a1, dx, [(sParts, u)], rfl, ?_⟩
      walk_at "g"
      refine ⟨s2 _ _ ha1, _, f, M, (i : Nat), (j : Nat), rfl, hK2, fun H3 s3 => ?_⟩
      walk_at "g"
      intro p5 hp5
      walk_at "g"
      refine ⟨upd_same, [(Sum.inr sItem, .int (i : Nat)), (Sum.inr sAt, .int (j : Nat))], rfl, (by show 2 ≤ 15; decide), ?_⟩
      rw [upd_upd]
      have s5 := same_new (o := .dK (mergeK [] [((Sum.inr sItem : Key), V.int (i : Nat)), (Sum.inr sAt, V.int (j : Nat))])) hp5
      have sH5 := s2.trans (s3.trans s5)
      refine ⟨v, p5, f, M, _, rho (i : Nat) (j : Nat), isKN, rfl, hV.sx (Sx.same sH5), hg.1, hg.2, upd_same, env_kvs (i : Nat) (j : Nat), ?_⟩
      refine ⟨rfl, ?_⟩
      rw [decide_eq_true (show V.int (kval f (i : Nat) (j : Nat)) = V.int (Fm.val (rho (i : Nat) (j : Nat)) f) from rfl)]
      walk_at "g"
      exact ⟨⟨_, _, rfl⟩, sH5⟩
    · obtain ⟨⟨y2, y3, y4, rfl⟩, s1⟩ := p
      walk_at "g"
      exact q _ s1
end
end D


namespace D
open PySem PySem.Spec PyProof.Rows L2
local macro_rules | `(tactic| walk_at "st") => `(tactic| first | exact SqT.of (by assumption) | exact Or.inl (by assumption) | exact SqT.of upd_same | fail "st")
local macro_rules | `(tactic| walk_at "ixt") => `(tactic| refine ⟨_, _, _, _, rfl, rfl, (by walk_at "st" : SqT _ _ _ _), by rfl, ?_⟩)
local macro_rules | `(tactic| walk_at "sq") => `(tactic| first | exact SqL.of (by assumption) | assumption | exact Or.inl (by assumption) | exact SqL.of upd_same | fail "sq")
local macro_rules | `(tactic| walk_at "ix") => `(tactic| refine ⟨_, _, _, _, rfl, rfl, (by walk_at "sq" : SqL _ _ _ _), by rfl, ?_⟩)
local macro_rules | `(tactic| walk_at "set") => `(tactic| refine ⟨_, _, _, _, rfl, rfl, by first | assumption | exact upd_same, by rfl, ?_⟩)
local macro_rules | `(tactic| walk_at "len") => `(tactic| refine ⟨_, _, rfl, Or.inl (by walk_at "sq" : SqL _ _ _ _), ?_⟩)
local macro_rules | `(tactic| walk_at "g") => `(tactic| repeat (first | refine ⟨_, rfl, ?_⟩ | refine ⟨_, _, rfl, rfl, ?_⟩ | refine ⟨Or.inr (by decide), ?_⟩ | refine ⟨Or.inl (by decide), ?_⟩ | refine ⟨(by decide : (0 : Int) < _), ?_⟩ | refine ⟨(⟨by decide, by decide⟩ : CDiv _ _), ?_⟩ | refine ⟨(⟨by decide, by decide, by decide⟩ : CPow _ _), ?_⟩ | refine Or.inl ⟨_, rfl, ?_⟩ | refine ⟨rfl, ?_⟩ | walk_at "ix" | walk_at "ixt" | walk_at "len" | fail "g"))
local macro_rules | `(tactic| walk_at "if") => `(tactic| refine ite2 (fun e => ?_) (fun e => ?_))
section
variable {P : Program} {w : World} {K : PySem.W.Frag} {mg : Str → Option Value} {base : Heap}
def sp_law (K : PySem.W.Frag) : Sp := fun vs H Q _ => ∃ (a : Addr) (ns : List Int), vs = [.ref a] ∧ SqL K H a (ns.map V.int) ∧ ns.length ≤ 63 ∧ ∀ H', Q (.bl true) H'
def KeysAt (C : Addr) (M : Ms) (H : Hp) (acc : List V) (fs : List Fm) : Prop := acc.length = fs.length ∧ ∀ (j : Nat) (f : Fm), fs[j]? = some f → ∃ k, acc[j]? = some k ∧ KeyAt C M H k f
theorem KeysAt.sx {C : Addr} {M : Ms} {H H' : Hp} {acc : List V} {fs : List Fm} (h : KeysAt C M H acc fs) (s : Sx M H H') : KeysAt C M H' acc fs := ⟨h.1, fun j f e => by
  obtain ⟨k, e1, r⟩ := h.2 j f e
  exact ⟨k, e1, r.sx s⟩⟩
theorem KeyAt.less {C : Addr} {M N : Ms} {H : Hp} {k : V} {f : Fm} (h : KeyAt C M H k f) (le : ∀ a, N a → M a) : KeyAt C N H k f := by
  obtain ⟨a, dx, u, e, n, ha, r, g⟩ := h
  exact ⟨a, dx, u, e, fun z => n (le _ z), ha, r.less le, g⟩
theorem ok_law (T : Txt K mg) (U : TMany K mg w) : FnOk P w K mg base CX0 12 T.f_law T.d_law ["_law_script"] (sp_law K) := by
  have G__law_bag := ok_bag (P := P) (w := w) (base := base) T
  have G__law_pick := ok_pick (P := P) (w := w) (base := base) T
  have G__law_any_key := ok_anyKey (P := P) (w := w) (base := base) T
  have G__law_mingled := ok_mingled (P := P) (w := w) (base := base) T
  have G__law_levels := ok_levels (P := P) (w := w) (base := base) T 5
  have G__law_bent := ok_bent (P := P) (w := w) (base := base) T
  have G__law_row := ok_row (P := P) (w := w) (base := base) T
  have G__law_table := ok_table (P := P) (w := w) (base := base) T
  have G__law_told_pairs := ok_tp (P := P) (w := w) (base := base) T
  have G__law_idents := ok_lids (P := P) (w := w) (base := base) T
  have G__law_at_most := ok_most (P := P) (w := w) (base := base) T
  have G_Key___init__ := ok_init (P := P) (w := w) (base := base) T U
  have G_Key_idents := ok_idents (P := P) (w := w) (base := base) T
  have G_Key___le__ := ok_le (P := P) (w := w) (base := base) T
  refine T.F_law.ok sc_law (fun vs H Q E h => ?_) (fun cdv A outer s H vs Q E hr h => ?_)
  · obtain ⟨_, _, rfl, _⟩ := h
    rfl
  · obtain ⟨a, ns, rfl, hS, hl, q⟩ := h
    refine ⟨_, (pss_cons (ps_set (i := 1) sc_law.nd rfl (Or.inl rfl) (pe_call G__law_bag (hr.mono (by omega)) (by rfl) T.g__law_bag T.F__law_bag.kp T.b__law_bag .nil pass0 (pa_cons (pv 0) pa_nil)))
      (pss_cons (ps_set (i := 2) sc_law.nd rfl (Or.inl rfl) (pe_lst (pa_cons (pe_call G__law_any_key (hr.mono (by omega)) (by rfl) T.g__law_any_key T.F__law_any_key.kp T.b__law_any_key .nil pass0 (pa_cons (pv 1) pa_nil)) (pa_cons (pe_call G__law_any_key (hr.mono (by omega)) (by rfl) T.g__law_any_key T.F__law_any_key.kp T.b__law_any_key .nil pass0 (pa_cons (pv 1) pa_nil)) pa_nil))))
      (pss_cons (ps_if (PW.pt (pw_and (pt_cmpR op_eq (pe_call G__law_pick (hr.mono (by omega)) (by rfl) T.g__law_pick T.F__law_pick.kp T.b__law_pick .nil pass0 (pa_cons (pv 1) (pa_cons pe_int pa_nil))) pe_int (nomark _)) (pw_and1 (pt_cmpR op_le (pe_call G__law_levels (hr.mono (by omega)) (by rfl) T.g__law_levels T.F__law_levels.kp T.b__law_levels .nil pass0 (pa_cons (pe_ix (ix_listK (K := K) rfl) (pv 2) pe_int (fun _ _ => rfl)) pa_nil)) pe_int (nomark _))))) (pss_one (ps_asg (pe_call G__law_bent (hr.mono (by omega)) (by rfl) T.g__law_bent T.F__law_bent.kp T.b__law_bent .nil pass0 (pa_cons (pv 1) (pa_cons (pe_ix (ix_listK (K := K) rfl) (pv 2) pe_int (fun _ _ => rfl)) pa_nil))) (pg_sub (pv 2) pe_int set_list))) pss_nil)
      (pss_cons (ps_setLc (i := 3) (own := [("_law_form_here", 10)]) (g := gName 10) (tt := tYes) (by rfl) sc_law.nd rfl rfl (sw_true rfl rfl rfl (by decide +kernel)) (pi_listK (K := K) rfl (pv 2)) (blkOk_by (own := [("_law_form_here", 10)]) (N := ["_law_script", "_law_bag_here", "_law_forms", "_law_both", "_law_rows", "_law_which", "_law_row_here", "_law_one", "_law_two", "_law_told", "_law_form_here"]) (sc := defScope s_law) (by decide +kernel)) (fun _ _ _ _ _ => (pg_name (i := 10) sc_law.nd rfl (Or.inl rfl))) (fun _ _ _ _ _ => pts_nil) (fun _ _ _ _ _ => (pe_make ⟨T.mk_Key, T.a_Key___init__, T.i_Key___init__, T.kc_Key⟩ G_Key___init__ (hr.mono (by omega)) (by rfl) T.g_Key T.b_Key___init__ .nil pass0 (pa_cons (pv 10) pa_nil))))
      (pss_cons (ps_set (i := 4) sc_law.nd rfl (Or.inl rfl) (pe_lst (pa_cons (pe_call G__law_row (hr.mono (by omega)) (by rfl) T.g__law_row T.F__law_row.kp T.b__law_row .nil pass0 (pa_cons (pv 1) (pa_cons pe_int pa_nil))) (pa_cons (pe_call G__law_row (hr.mono (by omega)) (by rfl) T.g__law_row T.F__law_row.kp T.b__law_row .nil pass0 (pa_cons (pv 1) (pa_cons pe_int pa_nil))) (pa_cons (pe_callTy (call_tupleK (K := K) rfl) (by rfl) T.m_tuple (by decide +kernel) (pa_cons (pe_slice (sl_listK (K := K) rfl) (pe_call G__law_mingled (hr.mono (by omega)) (by rfl) T.g__law_mingled T.F__law_mingled.kp T.b__law_mingled .nil pass0 (pa_cons (pv 1) (pa_cons (pe_lst (pa_cons pe_int (pa_cons pe_int (pa_cons pe_int (pa_cons pe_int (pa_cons pe_int (pa_cons pe_int (pa_cons pe_int (pa_cons pe_int (pa_cons pe_int (pa_cons pe_int pa_nil))))))))))) pa_nil))) po_none (po_some pe_int)) pa_nil)) pa_nil)))))
      (pss_cons (ps_for PassesOwn.never rfl (pi_range1 (by rfl) T.m_range (pa_cons pe_int pa_nil)) (pg_name (i := 5) sc_law.nd rfl (Or.inl rfl)) (pss_one (ps_if (pt_not (pt_val (pe_call G__law_table (hr.mono (by omega)) (by rfl) T.g__law_table T.F__law_table.kp T.b__law_table .nil pass0 (pa_cons (pe_ix (ix_listK (K := K) rfl) (pv 3) (pv 5) (fun _ _ => rfl)) (pa_cons (pe_ix (ix_listK (K := K) rfl) (pv 2) (pv 5) (fun _ _ => rfl)) pa_nil))))) (pss_one (ps_ret pe_bl)) pss_nil)))
      (pss_cons (ps_for PassesOwn.never rfl (pi_listK (K := K) rfl (pe_op op_cat (pv 4) (pe_slice (sl_listK (K := K) rfl) (pv 4) po_none (po_some pe_int)))) (pg_name (i := 6) sc_law.nd rfl (Or.inl rfl)) (pss_one (ps_for PassesOwn.never rfl (pi_range1 (by rfl) T.m_range (pa_cons pe_int pa_nil)) (pg_name (i := 5) sc_law.nd rfl (Or.inl rfl)) (pss_one (ps_if (pt_not (pt_val (pe_call G__law_told_pairs (hr.mono (by omega)) (by rfl) T.g__law_told_pairs T.F__law_told_pairs.kp T.b__law_told_pairs .nil pass0 (pa_cons (pe_meth (pe_ix (ix_listK (K := K) rfl) (pv 3) (pv 5) (fun _ _ => rfl)) T.cl_Key ⟨T.a_Key_idents, T.i_Key_idents, T.F_Key_idents.kp⟩ G_Key_idents (hr.mono (by omega)) T.b_Key_idents .nil pass0 (pa_cons (pv 6) pa_nil)) (pa_cons (pe_call G__law_idents (hr.mono (by omega)) (by rfl) T.g__law_idents T.F__law_idents.kp T.b__law_idents .nil pass0 (pa_cons (pe_ix (ix_listK (K := K) rfl) (pv 2) (pv 5) (fun _ _ => rfl)) (pa_cons (pv 6) pa_nil))) pa_nil))))) (pss_one (ps_ret pe_bl)) pss_nil)))))
      (pss_cons (ps_for PassesOwn.never rfl (pi_range1 (by rfl) T.m_range (pa_cons pe_int pa_nil)) (pg_name (i := 7) sc_law.nd rfl (Or.inl rfl)) (pss_one (ps_for PassesOwn.never rfl (pi_range1 (by rfl) T.m_range (pa_cons pe_int pa_nil)) (pg_name (i := 8) sc_law.nd rfl (Or.inl rfl)) (pss_cons (ps_set (i := 9) sc_law.nd rfl (Or.inl rfl) (pe_cmpR (op_ownI (fun _ _ => rfl) T.a_Key___le__ T.i_Key___le__ T.nf_Key G_Key___le__ T.b_Key___le__ (hr.mono (by omega)) pass0) (pe_ix (ix_listK (K := K) rfl) (pv 3) (pv 7) (fun _ _ => rfl)) (pe_ix (ix_listK (K := K) rfl) (pv 3) (pv 8) (fun _ _ => rfl)) (nomark _)))
      (pss_one (ps_if (PW.pt (pw_or (pt_not (pt_val (pe_callB (call_isi1K (K := K) rfl) (by rfl) T.m_isinstance (by decide +kernel) (pa_cons (pv 9) (pa_cons (pe_bltn (v := .ty "bool") (u := .type "bool") (by rfl) T.m_bool (by decide +kernel) rfl) pa_nil))))) (pw_or1 (pt_cmpR op_ne (pv 9) (pe_call G__law_at_most (hr.mono (by omega)) (by rfl) T.g__law_at_most T.F__law_at_most.kp T.b__law_at_most .nil pass0 (pa_cons (pe_ix (ix_listK (K := K) rfl) (pv 2) (pv 7) (fun _ _ => rfl)) (pa_cons (pe_ix (ix_listK (K := K) rfl) (pv 2) (pv 8) (fun _ _ => rfl)) pa_nil))) (nomark _))))) (pss_one (ps_ret pe_bl)) pss_nil))))))
      (pss_one (ps_ret pe_bl)))))))))), ?_⟩
    walk_at "g"
    refine ⟨a, ns, rfl, hS, hl, fun b H1 s1 nb hB1 => ?_⟩
    walk_at "g"
    have hM1 : Mk (one b) H1 := fun c z => by rw [show c = b from z]; exact hB1.there
    refine ⟨b, one b, rfl, hB1, hM1, fun v1 H2 d s2 g2 hB2 r1 hd => ?_⟩
    obtain ⟨f1, rfl, k1⟩ := hd
    walk_at "g"
    refine ⟨b, one b, rfl, hB2, hM1.gr g2, fun v2 H3 d s3 g3 hB3 r2 hd => ?_⟩
    obtain ⟨f2, rfl, k2⟩ := hd
    have r1' := r1.sx s3
    refine ⟨szK rfl, fun p1 hp1 => ?_⟩
    have nb1 : p1 ≠ b := fun z => hB3.there (by rw [← z]; exact hp1)
    have hM3 : Mk (one b) H3 := (hM1.gr g2).gr g3
    have e1 : upd H3 p1 (.lst [v1, v2]) p1 = some (.lst [v1, v2]) := upd_same
    have R1 : Rp (also (one b) p1) (upd H3 p1 (.lst [v1, v2])) v1 f1.enc := (r1'.fresh hp1).sx (Sx.new hp1)
    have R2 : Rp (also (one b) p1) (upd H3 p1 (.lst [v1, v2])) v2 f2.enc := (r2.fresh hp1).sx (Sx.new hp1)
    have hB4 : Bag K (also (one b) p1) (upd H3 p1 (.lst [v1, v2])) b := (hB3.more hp1).same (same_new hp1)
    have hM4 : Mk (also (one b) p1) (upd H3 p1 (.lst [v1, v2])) := (hM3.gr Gr.upd).also upd_there
    generalize upd H3 p1 (.lst [v1, v2]) = H4 at e1 R1 R2 hB4 hM4
    have nB : ∀ {H5 H6 : Hp}, Sx (one b) H5 H6 → Sx (also (one b) p1) H5 H6 := fun s => s.le fun c z => .inl z
    have keep1 : ∀ {H5 H6 : Hp} {o : HO}, Sx (one b) H5 H6 → H5 p1 = some o → H6 p1 = some o := fun s e => s _ _ (fun z => nb1 z) e
    dsimp only [gName]
    with_reducible refine seq_join (fun σ3 H' => σ3 = [some (.ref a), some (.ref b), some (.ref p1), none, none, none, none, none, none, none, none] ∧ ∃ v f, H' p1 = some (.lst [v1, v]) ∧ Rp (also (one b) p1) H' v1 f1.enc ∧ Rp (also (one b) p1) H' v f.enc ∧ goodKey f ∧ Bag K (also (one b) p1) H' b ∧ Mk (also (one b) p1) H') (fun hN => ?_) (fun σ H5 c => ?_)
    · walk_at "g"
      refine ⟨b, _, also (one b) p1, rfl, hB4, by omega, by omega, fun w5 H5 m0 m1 hA5 hB5 => ?_⟩
      have e5 := keep1 hA5.sx e1
      have R15 := R1.sx (nB hA5.sx)
      have R25 := R2.sx (nB hA5.sx)
      have hM5 := hM4.gr (At.gr hA5 hB5.there)
      have same2 := hN _ _ ⟨rfl, v2, f2, e5, R15, R25, k2, hB5, hM5⟩
      walk_at "g"
      walk_at "if"
      · walk_at "g"
        refine ⟨v1, f1, _, rfl, R15, k1.1, fun H6 s6 => ?_⟩
        have e6 := s6 _ _ e5
        have R16 := R15.sx (Sx.same s6)
        have R26 := R25.sx (Sx.same s6)
        have hM6 := hM5.gr (Gr.same s6)
        have hB6 := hB5.same s6
        walk_at "g"
        walk_at "if"
        · rename_i c
          have c' : (f1.dep : Int) ≤ 3 := of_decide_eq_true c
          walk_at "g"
          refine ⟨b, v1, f1, _, rfl, hB6, hM6, R16, by omega, k1.2, fun v7 H7 d s7 g7 hB7 r7 hd => ?_⟩
          obtain ⟨f7, rfl, k7⟩ := hd
          walk_at "g"
          have e7 := keep1 s7 e6
          walk_at "set"
          have sp := (Sx.put (M := also (one b) p1) (H := H7) (o := .lst [v1, v7]) (.inr rfl : also (one b) p1 p1))
          exact hN _ _ ⟨rfl, v7, f7, upd_same, (R16.sx (nB s7)).sx sp, r7.sx sp, k7, hB7.keep (N := one p1) (Sx.put rfl) (fun z => nb1 z.symm) (fun c z => .inr z), (hM6.gr g7).gr Gr.upd⟩
        · exact hN _ _ ⟨rfl, v2, f2, e6, R16, R26, k2, hB6, hM6⟩
      · exact same2
    obtain ⟨rfl, v2', f2', e5, R15, R25, k2', hB5, hM5⟩ := c
    have hw : (also (one b) p1) b := .inl rfl
    walk_at "g"
    refine ⟨⟨_, SqL.of e5⟩, fun D hD => ?_⟩
    have atf : ∀ (j : Nat) (x : V), [v1, v2'][j]? = some x → ∃ f, [f1, f2'][j]? = some f ∧ Rp (also (one b) p1) H5 x f.enc ∧ goodKey f := fun j x hx => by
      match j, hx with
      | 0, hx => cases hx; exact ⟨f1, rfl, R15, k1⟩
      | 1, hx => cases hx; exact ⟨f2', rfl, R25, k2'⟩
      | j + 2, hx => simp at hx
    refine list_loop (xs := [v1, v2']) (fun i H' => Same H5 H' ∧ ∃ acc, H' D = some (.lst acc) ∧ KeysAt T.C_Key (also (also (one b) p1) D) H' acc ([f1, f2'].take i)) ⟨same_new hD, [], upd_same, rfl, fun j f e => by simp at e⟩ (fun i H' _ p => SqL.of (p.1 _ _ e5)) (fun i x H' hx p => ?_) (fun H6 p => ?_)
    · obtain ⟨s6, acc, eD, hk⟩ := p
      obtain ⟨f, hf, rf, kf⟩ := atf i x hx
      have hi : i < 2 := (List.getElem?_eq_some_iff.mp hf).1
      refine ⟨rfl, ?_⟩
      walk_at "g"
      intro xa dx hxa hdx hne
      have hM6 : Mk (also (also (one b) p1) D) H' := (hM5.gr (Gr.same s6)).also (ne_none eD)
      have nm : ∀ c, H' c = none → ¬ (also (also (one b) p1) D) c := fun c h => hM6.out h
      have hx2 : upd H' dx (.own xa) xa = none := by rw [upd_ne (fun z => hne z.symm)]; exact hxa
      have sA : Same H' (upd (upd H' dx (.own xa)) xa (.ins T.C_Key dx [])) := (same_new hdx).trans (same_new hx2)
      have rf6 : Rp (also (also (one b) p1) D) H' x f.enc := ((rf.fresh hD).sx (Sx.same s6))
      refine ⟨xa, dx, x, f, also (also (one b) p1) D, rfl, upd_same, rf6.sx (Sx.same sA), hM6.gr (Gr.same sA), kf, fun H8 s8 => ?_⟩
      have s9 : Same H' (upd H8 xa (.ins T.C_Key dx [(sParts, x)])) := same_put (sA.trans s8) hxa
      refine ⟨rfl, acc, s9 _ _ eD, small1000 (by rw [hk.1, List.length_take]; omega), same_put (s6.trans s9) hD, acc ++ [.ref xa], upd_same, ?_, fun j g hg => ?_⟩
      · rw [List.length_append, hk.1, List.take_add_one, hf, List.length_append]
        rfl
      · have sp := Sx.put (M := also (also (one b) p1) D) (H := upd H8 xa (.ins T.C_Key dx [(sParts, x)])) (o := .lst (acc ++ [.ref xa])) (.inr rfl : also (also (one b) p1) D D)
        rw [List.take_add_one, hf] at hg
        by_cases c : j < acc.length
        · have c2 : j < ([f1, f2'].take i).length := by rw [← hk.1]; exact c
          rw [List.getElem?_append_left c2] at hg
          obtain ⟨k, ek, rk⟩ := hk.2 j g hg
          exact ⟨k, by rw [List.getElem?_append_left c]; exact ek, (rk.sx (Sx.same s9)).sx sp⟩
        · have c2 : ([f1, f2'].take i).length ≤ j := by rw [← hk.1]; omega
          rw [List.getElem?_append_right c2] at hg
          have hj : j - ([f1, f2'].take i).length = 0 := by
            have : j - ([f1, f2'].take i).length < 1 := (List.getElem?_eq_some_iff.mp hg).1
            omega
          rw [hj] at hg
          have e : f = g := Option.some.inj hg
          subst e
          refine ⟨.ref xa, ?_, ?_⟩
          · rw [List.getElem?_append_right (by omega), hk.1, hj]
            rfl
          · refine KeyAt.sx ?_ sp
            exact ⟨xa, dx, x, rfl, nm xa hxa, upd_same, rf6.sx (Sx.same s9), kf⟩
    · obtain ⟨s6, acc, eD, hk⟩ := p
      have hk6 : KeysAt T.C_Key (also (one b) p1) H6 acc [f1, f2'] := ⟨hk.1, fun j f e => by
        obtain ⟨k, ek, rk⟩ := hk.2 j f e
        exact ⟨k, ek, rk.less also_le⟩⟩
      have nDb : D ≠ b := fun z => hB5.there (by rw [← z]; exact hD)
      have e6 := s6 _ _ e5
      have hB6 := hB5.same s6
      have hM6 := hM5.gr (Gr.same s6)
      have R16 := R15.sx (Sx.same s6)
      have R26 := R25.sx (Sx.same s6)
      walk_at "g"
      refine ⟨b, 5, _, rfl, hB6, hM6, by omega, by omega, fun w1 H7 d s7 g7 hB7 q1 hd => ?_⟩
      obtain ⟨n1, rfl, l1, d1, t1⟩ := hd
      walk_at "g"
      refine ⟨b, 5, _, rfl, hB7, hM6.gr g7, by omega, by omega, fun w2 H8 d s8 g8 hB8 q2 hd => ?_⟩
      obtain ⟨n2, rfl, l2, d2, t2⟩ := hd
      walk_at "g"
      refine ⟨szK rfl, fun p4 hp4 => ?_⟩
      have hM8 := (hM6.gr g7).gr g8
      walk_at "g"
      refine ⟨b, .ref p4, _, _, rfl, hB8.same (same_new hp4), hM8.new, Rp.newL hM8 hp4 (RpAll.ints ten), by decide, fun w3 H9 d s9 g9 hB9 q3 hd => ?_⟩
      obtain ⟨es, rfl, hper⟩ := hd
      obtain ⟨n3, hn3, rfl⟩ := perm_ints hper
      obtain ⟨a3, xs3, rfl, na3, ha3, rx3⟩ := Rp.lstN q3
      have ex3 := rx3.ofInts
      subst ex3
      walk_at "g"
      refine ⟨a3, _, rfl, .inl ha3, fun p5 hp5 => ?_⟩
      walk_at "g"
      refine ⟨p5, _, rfl, .inl ⟨SqL.of upd_same, fun p6 hp6 => ?_⟩⟩
      walk_at "g"
      refine ⟨szK rfl, fun p7 hp7 => ?_⟩
      have ec : cutV (n3.map V.int) none (some 5) = (n3.take 5).map V.int := by
        rw [show (5 : Int) = ((5 : Nat) : Int) from rfl, cut_hi, List.map_take]
      have s4 := Sx.new (M := also (one b) p1) (o := .lst (ten.map V.int)) hp4
      have s5 := Sx.new (M := also (one b) p1) (o := .lst (cutV (n3.map V.int) none (some 5))) hp5
      have s6' := Sx.new (M := also (one b) p1) (o := .tup (cutV (n3.map V.int) none (some 5))) hp6
      have s7' := Sx.new (M := also (one b) p1) (o := .lst [w1, w2, .ref p6]) hp7
      have hM9 := (hM8.new (p := p4) (o := .lst (ten.map V.int))).gr g9
      have rest : Sx (also (one b) p1) H8 _ := s4.trans ((nB s9).trans (s5.trans (s6'.trans s7')))
      have restA : Sx (also (one b) p1) H6 _ := (nB s7).trans ((nB s8).trans rest)
      have oldB : Sx (one b) H6 _ := s7.trans (s8.trans ((Sx.new hp4).trans (s9.trans ((Sx.new hp5).trans ((Sx.new hp6).trans (Sx.new (o := .lst [w1, w2, .ref p6]) hp7))))))
      have RR : RpAll (also (one b) p1) _ [w1, w2, .ref p6] ([n1, n2, n3.take 5].map rowD) :=
        .cons (((q1.sx (nB s8)).sx rest)) (.cons (q2.sx rest) (.one (Rp.sx s7' (by
          have := Rp.newT (M := also (one b) p1) (us := cutV (n3.map V.int) none (some 5)) (hM9.new (p := p5) (o := .lst (cutV (n3.map V.int) none (some 5)))) hp6 (by rw [ec]; exact RpAll.ints (n3.take 5))
          exact this))))
      have e7 : upd (upd (upd H9 p5 (.lst (cutV (n3.map V.int) none (some 5)))) p6 (.tup (cutV (n3.map V.int) none (some 5)))) p7 (.lst [w1, w2, .ref p6]) p7 = some (.lst [w1, w2, .ref p6]) := upd_same
      have eL := oldB _ _ (fun z => nb1 z) e6
      have eD' := oldB _ _ (fun z => nDb z) eD
      have hkF := hk6.sx restA
      have RF1 := R16.sx restA
      have RF2 := R26.sx restA
      have hMF := ((hM9.new (p := p5) (o := .lst (cutV (n3.map V.int) none (some 5)))).new (p := p6) (o := .tup (cutV (n3.map V.int) none (some 5)))).new (p := p7) (o := .lst [w1, w2, .ref p6])
      have good : ∀ ns ∈ [n1, n2, n3.take 5], goodRow ns := by
        intro ns hns
        rcases List.mem_cons.mp hns with rfl | hns
        · exact ⟨by omega, d1, t1⟩
        rcases List.mem_cons.mp hns with rfl | hns
        · exact ⟨by omega, d2, t2⟩
        rw [List.mem_singleton.mp hns]
        have t10 := ten_take 10
        refine ⟨by rw [List.length_take]; omega, ((hn3.nodup_iff.mpr t10.1).sublist (List.take_sublist _ _)), fun n hn => t10.2 n (hn3.mem_iff.mp (List.mem_of_mem_take hn))⟩
      generalize upd (upd (upd H9 p5 (.lst (cutV (n3.map V.int) none (some 5)))) p6 (.tup (cutV (n3.map V.int) none (some 5)))) p7 (.lst [w1, w2, .ref p6]) = Hf at RR e7 eL eD' hkF RF1 RF2 hMF
      clear s4 s5 s6' s7' rest restA oldB
      generalize also (one b) p1 = N at RR hkF RF1 RF2 hMF
      have two : ∀ (i : Nat), i < 2 → ∃ k x f, acc[i]? = some k ∧ [v1, v2'][i]? = some x ∧ KeyAt T.C_Key N Hf k f ∧ Rp N Hf x f.enc ∧ goodKey f := fun i hi => by
        match i, hi with
        | 0, _ =>
          obtain ⟨k, ek, rk⟩ := hkF.2 0 f1 rfl
          exact ⟨k, v1, f1, ek, rfl, rk, RF1, k1⟩
        | 1, _ =>
          obtain ⟨k, ek, rk⟩ := hkF.2 1 f2' rfl
          exact ⟨k, v2', f2', ek, rfl, rk, RF2, k2'⟩
      walk_at "g"
      refine ⟨by decide, by decide, ?_⟩
      refine for_range (lo := 0) (n := 2) (fun i σ H' => (∃ y5 y6 y7 y8 y9 y10, σ = [some (.ref a), some (.ref b), some (.ref p1), some (.ref D), some (.ref p7), y5, y6, y7, y8, y9, y10]) ∧ Same Hf H') ⟨⟨_, _, _, _, _, _, rfl⟩, Same.refl _⟩ (fun i σ H' hi p => ?_) (fun σ H' p => ?_)
      · obtain ⟨⟨y5, y6, y7, y8, y9, y10, rfl⟩, ss⟩ := p
        obtain ⟨k, x, f, ek, ex, rk, rx, gk⟩ := two i hi
        rw [Int.zero_add]
        walk_at "g"
        refine ⟨_, _, _, _, rfl, rfl, SqL.of (ss _ _ eD'), atI_nat ek, ?_⟩
        walk_at "g"
        refine ⟨_, _, _, _, rfl, rfl, SqL.of (ss _ _ eL), atI_nat ex, ?_⟩
        walk_at "g"
        refine ⟨k, x, f, N, rfl, rk.sx (Sx.same ss), rx.sx (Sx.same ss), fun H2 s2 => ?_⟩
        walk_at "g"
        exact ⟨⟨_, _, _, _, _, _, rfl⟩, ss.trans s2⟩
      · obtain ⟨⟨y5, y6, y7, y8, y9, y10, rfl⟩, ss⟩ := p
        have e7' := ss _ _ e7
        walk_at "g"
        refine ⟨p7, _, rfl, SqL.of e7', fun p8 hp8 => ?_⟩
        have n78 : p7 ≠ p8 := ne_of_none e7' hp8
        have sa : Same H' (upd H' p8 (.lst (cutV [w1, w2, .ref p6] none (some 1)))) := same_new hp8
        refine ⟨p7, p8, _, _, rfl, rfl, sa _ _ e7', upd_same, szK rfl, fun p9 hp9 => ?_⟩
        have sb := same_new (o := .lst ([w1, w2, .ref p6] ++ cutV [w1, w2, .ref p6] none (some 1))) hp9
        have sc := ss.trans (sa.trans sb)
        have e9 : upd (upd H' p8 (.lst (cutV [w1, w2, .ref p6] none (some 1)))) p9 (.lst ([w1, w2, .ref p6] ++ cutV [w1, w2, .ref p6] none (some 1))) p9 = some (.lst ([w1, w2, .ref p6] ++ [w1])) := upd_same
        have R4 : RpAll N Hf ([w1, w2, .ref p6] ++ [w1]) (([n1, n2, n3.take 5] ++ [n1]).map rowD) := by
          rw [List.map_append]
          exact RR.append (RR.take 1)
        have good4 : ∀ ns ∈ [n1, n2, n3.take 5] ++ [n1], goodRow ns := fun ns h => by
          rcases List.mem_append.mp h with h | h
          · exact good ns h
          · rw [List.mem_singleton.mp h]; exact good n1 List.mem_cons_self
        generalize upd (upd H' p8 (.lst (cutV [w1, w2, .ref p6] none (some 1)))) p9 (.lst ([w1, w2, .ref p6] ++ cutV [w1, w2, .ref p6] none (some 1))) = Hg at sc e9
        clear sa sb
        refine ⟨p9, rfl, ⟨_, SqL.of e9⟩, ?_⟩
        refine for_list (K := K) (a := p9) (xs := [w1, w2, .ref p6] ++ [w1]) (fun i σ H2 => (∃ y5 y6 y7 y8 y9 y10, σ = [some (.ref a), some (.ref b), some (.ref p1), some (.ref D), some (.ref p7), y5, y6, y7, y8, y9, y10]) ∧ Same Hg H2) ⟨⟨_, _, _, _, _, _, rfl⟩, Same.refl _⟩ (fun i σ H2 _ p => SqL.of (p.2 _ _ e9)) (fun i x σ H2 hx p => ?_) (fun σ H2 p => ?_)
        · obtain ⟨⟨y5, y6, y7, y8, y9, y10, rfl⟩, sd⟩ := p
          obtain ⟨d, hd, rx⟩ := (R4.sx (Sx.same (sc.trans sd))).get hx
          rw [List.getElem?_map] at hd
          obtain ⟨nr, hnr, rfl⟩ := Option.map_eq_some_iff.mp hd
          have gr := good4 nr (List.mem_of_getElem? hnr)
          walk_at "g"
          refine ⟨by decide, by decide, ?_⟩
          refine for_range (lo := 0) (n := 2) (fun i σ H3 => (∃ y5 y7 y8 y9 y10, σ = [some (.ref a), some (.ref b), some (.ref p1), some (.ref D), some (.ref p7), y5, some x, y7, y8, y9, y10]) ∧ Same H2 H3) ⟨⟨_, _, _, _, _, rfl⟩, Same.refl _⟩ (fun i σ H3 hi p => ?_) (fun σ H3 p => by
            obtain ⟨⟨y5, y7, y8, y9, y10, rfl⟩, st⟩ := p
            exact ⟨⟨_, _, _, _, _, _, rfl⟩, sd.trans st⟩)
          obtain ⟨⟨y5, y7, y8, y9, y10, rfl⟩, se⟩ := p
          obtain ⟨k, z, f, ek, ez, rk, rz, gk⟩ := two i hi
          have sf := sc.trans (sd.trans se)
          rw [Int.zero_add]
          walk_at "g"
          refine ⟨_, _, _, _, rfl, rfl, SqL.of (sf _ _ eD'), atI_nat ek, ?_⟩
          obtain ⟨ka, kdx, ku, rfl, kna, kha, kr, kg⟩ := id (rk.sx (Sx.same sf))
          refine ⟨ka, kdx, _, rfl, kha, rfl, ?_⟩
          walk_at "g"
          refine ⟨.ref ka, x, f, nr, N, rfl, rk.sx (Sx.same sf), (rx.sx (Sx.same se)).rowAt, gr, hMF.gr (Gr.same sf), fun v4 H4 d s4 r4 hd => ?_⟩
          subst hd
          have sg := sf.trans s4
          walk_at "g"
          refine ⟨_, _, _, _, rfl, rfl, SqL.of (sg _ _ eL), atI_nat ez, ?_⟩
          walk_at "g"
          refine ⟨z, x, f, nr, N, rfl, rz.sx (Sx.same sg), gk, (rx.sx (Sx.same (se.trans s4))).rowAt, gr.1, hMF.gr (Gr.same sg), fun v5 H5 d s5 r5 hd => ?_⟩
          subst hd
          refine ⟨v4, v5, wsOf f nr, N, rfl, r4.sx (Sx.same s5), r5, ?_, ?_⟩
          · have : (wsOf f nr).length = nr.length := List.length_mapIdx
            rw [this]
            exact gr.1
          · walk_at "g"
            exact ⟨⟨_, _, _, _, _, rfl⟩, se.trans (s4.trans s5)⟩
        · obtain ⟨⟨y5, y6, y7, y8, y9, y10, rfl⟩, sd⟩ := p
          have sh := sc.trans sd
          walk_at "g"
          refine ⟨by decide, by decide, ?_⟩
          refine for_range (lo := 0) (n := 2) (fun i σ H3 => (∃ y5 y6 y7 y8 y9 y10, σ = [some (.ref a), some (.ref b), some (.ref p1), some (.ref D), some (.ref p7), y5, y6, y7, y8, y9, y10]) ∧ Same Hf H3) ⟨⟨_, _, _, _, _, _, rfl⟩, sh⟩ (fun i σ H3 hi p => ?_) (fun σ H3 p => by
            obtain ⟨⟨y5, y6, y7, y8, y9, y10, rfl⟩, st⟩ := p
            walk_at "g"
            exact q _)
          obtain ⟨⟨y5, y6, y7, y8, y9, y10, rfl⟩, se⟩ := p
          obtain ⟨k, z, f, ek, ez, rk, rz, gk⟩ := two i hi
          rw [Int.zero_add]
          walk_at "g"
          refine ⟨by decide, by decide, ?_⟩
          refine for_range (lo := 0) (n := 2) (fun j σ H4 => (∃ y5 y6 y8 y9 y10, σ = [some (.ref a), some (.ref b), some (.ref p1), some (.ref D), some (.ref p7), y5, y6, some (.int (i : Nat)), y8, y9, y10]) ∧ Same Hf H4) ⟨⟨_, _, _, _, _, rfl⟩, se⟩ (fun j σ H4 hj p => ?_) (fun σ H4 p => by
            obtain ⟨⟨y5, y6, y8, y9, y10, rfl⟩, st⟩ := p
            exact ⟨⟨_, _, _, _, _, _, rfl⟩, st⟩)
          obtain ⟨⟨y5, y6, y8, y9, y10, rfl⟩, sf⟩ := p
          obtain ⟨k2, z2, g, ek2, ez2, rk2, rz2, gk2⟩ := two j hj
          rw [Int.zero_add]
          walk_at "g"
          refine ⟨_, _, _, _, rfl, rfl, SqL.of (sf _ _ eD'), atI_nat ek, ?_⟩
          walk_at "g"
          refine ⟨_, _, _, _, rfl, rfl, SqL.of (sf _ _ eD'), atI_nat ek2, ?_⟩
          have K1 := rk.sx (Sx.same sf)
          have K2 := rk2.sx (Sx.same sf)
          obtain ⟨ka, kdx, ku, rfl, kna, kha, kr, kg⟩ := id K1
          obtain ⟨kb, kdx2, ku2, rfl, knb, khb, kr2, kg2⟩ := id K2
          refine ⟨ka, kdx, _, kb, kdx2, _, rfl, rfl, kha, khb, .ref ka, .ref kb, f, g, N, rfl, K1, K2, hMF.gr (Gr.same sf), fun H5 s5 => ?_⟩
          have sg := sf.trans s5
          walk_at "g"
          refine ⟨_, _, _, _, true, rfl, .ty _, .base (.bl _), kit_ty (by decide +kernel), ?_⟩
          walk_at "g"
          refine ⟨_, _, _, _, rfl, rfl, SqL.of (sg _ _ eL), atI_nat ez, ?_⟩
          walk_at "g"
          refine ⟨_, _, _, _, rfl, rfl, SqL.of (sg _ _ eL), atI_nat ez2, ?_⟩
          walk_at "g"
          refine ⟨z, z2, f, g, N, rfl, rz.sx (Sx.same sg), gk, rz2.sx (Sx.same sg), gk2, fun H6 s6 => ?_⟩
          refine ⟨rfl, ?_⟩
          rw [decide_eq_true (show V.bl (atMost f g) = V.bl (atMost f g) from rfl)]
          walk_at "g"
          exact ⟨⟨_, _, _, _, _, rfl⟩, sg.trans s6⟩
end
end D

namespace D
open PySem PySem.Spec PyProof.Rows L2
theorem all_mk {l : PySem.W.OpenLaw} {w : World} {K : PySem.W.Frag} {h : Heap} {mg : Str → Option Value} {fa : Addr} {f_is_whole f_is_value f_is_name f_inner_forms f__well_made f_check_form f_value_of f_names_in f_is_row f_check_rows f__key_value f__idents f__law_mixed f__law_bag f__law_pick f__law_choice f__law_mingled f__law_number f__law_form f__law_value f__law_idents f__law_row f__law_any_key f__law_levels f__law_bent f__law_at_most f__law_told_pairs f__law_table f_law C_Key f_Key___init__ f_Key_parts p_Key_parts f_Key___call__ f_Key___le__ f_Key_idents : Addr} (X : K.In h) (G : h.Ns mainGlobals mg) (hfa : mg "law" = some (.ref fa))
    {od_is_whole an_is_whole : Option Addr} {sl_is_whole : Array (Option Value)} {oc_is_whole kV_is_whole dc_is_whole pm_is_whole cd_is_whole ct_is_whole : Value}
    (a_is_whole : PySem.W.nsIn K mainGlobals "is_whole" = some (some (.ref f_is_whole))) (l_is_whole : K.lookup f_is_whole = some ⟨oc_is_whole, od_is_whole, .func (PySem.W.fnOf "is_whole" "is_whole" (defArgs s_is_whole) (defBody s_is_whole) (defScope s_is_whole) .none kV_is_whole dc_is_whole pm_is_whole an_is_whole cd_is_whole ct_is_whole), sl_is_whole⟩) (c_is_whole : PySem.W.codeIn K cd_is_whole "is_whole" = true) (k_is_whole : PySem.W.keepIn K (.ref f_is_whole) = true)
    {od_is_value an_is_value : Option Addr} {sl_is_value : Array (Option Value)} {oc_is_value kV_is_value dc_is_value pm_is_value cd_is_value ct_is_value : Value}
    (a_is_value : PySem.W.nsIn K mainGlobals "is_value" = some (some (.ref f_is_value))) (l_is_value : K.lookup f_is_value = some ⟨oc_is_value, od_is_value, .func (PySem.W.fnOf "is_value" "is_value" (defArgs s_is_value) (defBody s_is_value) (defScope s_is_value) .none kV_is_value dc_is_value pm_is_value an_is_value cd_is_value ct_is_value), sl_is_value⟩) (c_is_value : PySem.W.codeIn K cd_is_value "is_value" = true) (k_is_value : PySem.W.keepIn K (.ref f_is_value) = true)
    {od_is_name an_is_name : Option Addr} {sl_is_name : Array (Option Value)} {oc_is_name kV_is_name dc_is_name pm_is_name cd_is_name ct_is_name : Value}
    (a_is_name : PySem.W.nsIn K mainGlobals "is_name" = some (some (.ref f_is_name))) (l_is_name : K.lookup f_is_name = some ⟨oc_is_name, od_is_name, .func (PySem.W.fnOf "is_name" "is_name" (defArgs s_is_name) (defBody s_is_name) (defScope s_is_name) .none kV_is_name dc_is_name pm_is_name an_is_name cd_is_name ct_is_name), sl_is_name⟩) (c_is_name : PySem.W.codeIn K cd_is_name "is_name" = true) (k_is_name : PySem.W.keepIn K (.ref f_is_name) = true)
    {od_inner_forms an_inner_forms : Option Addr} {sl_inner_forms : Array (Option Value)} {oc_inner_forms kV_inner_forms dc_inner_forms pm_inner_forms cd_inner_forms ct_inner_forms : Value}
    (a_inner_forms : PySem.W.nsIn K mainGlobals "inner_forms" = some (some (.ref f_inner_forms))) (l_inner_forms : K.lookup f_inner_forms = some ⟨oc_inner_forms, od_inner_forms, .func (PySem.W.fnOf "inner_forms" "inner_forms" (defArgs s_inner_forms) (defBody s_inner_forms) (defScope s_inner_forms) .none kV_inner_forms dc_inner_forms pm_inner_forms an_inner_forms cd_inner_forms ct_inner_forms), sl_inner_forms⟩) (c_inner_forms : PySem.W.codeIn K cd_inner_forms "inner_forms" = true) (k_inner_forms : PySem.W.keepIn K (.ref f_inner_forms) = true)
    {od__well_made an__well_made : Option Addr} {sl__well_made : Array (Option Value)} {oc__well_made kV__well_made dc__well_made pm__well_made cd__well_made ct__well_made : Value}
    (a__well_made : PySem.W.nsIn K mainGlobals "_well_made" = some (some (.ref f__well_made))) (l__well_made : K.lookup f__well_made = some ⟨oc__well_made, od__well_made, .func (PySem.W.fnOf "_well_made" "_well_made" (defArgs s__well_made) (defBody s__well_made) (defScope s__well_made) .none kV__well_made dc__well_made pm__well_made an__well_made cd__well_made ct__well_made), sl__well_made⟩) (c__well_made : PySem.W.codeIn K cd__well_made "_well_made" = true) (k__well_made : PySem.W.keepIn K (.ref f__well_made) = true)
    {od_check_form an_check_form : Option Addr} {sl_check_form : Array (Option Value)} {oc_check_form kV_check_form dc_check_form pm_check_form cd_check_form ct_check_form : Value}
    (a_check_form : PySem.W.nsIn K mainGlobals "check_form" = some (some (.ref f_check_form))) (l_check_form : K.lookup f_check_form = some ⟨oc_check_form, od_check_form, .func (PySem.W.fnOf "check_form" "check_form" (defArgs s_check_form) (defBody s_check_form) (defScope s_check_form) .none kV_check_form dc_check_form pm_check_form an_check_form cd_check_form ct_check_form), sl_check_form⟩) (c_check_form : PySem.W.codeIn K cd_check_form "check_form" = true) (k_check_form : PySem.W.keepIn K (.ref f_check_form) = true)
    {od_value_of an_value_of : Option Addr} {sl_value_of : Array (Option Value)} {oc_value_of kV_value_of dc_value_of pm_value_of cd_value_of ct_value_of : Value}
    (a_value_of : PySem.W.nsIn K mainGlobals "value_of" = some (some (.ref f_value_of))) (l_value_of : K.lookup f_value_of = some ⟨oc_value_of, od_value_of, .func (PySem.W.fnOf "value_of" "value_of" (defArgs s_value_of) (defBody s_value_of) (defScope s_value_of) .none kV_value_of dc_value_of pm_value_of an_value_of cd_value_of ct_value_of), sl_value_of⟩) (c_value_of : PySem.W.codeIn K cd_value_of "value_of" = true) (k_value_of : PySem.W.keepIn K (.ref f_value_of) = true)
    {od_names_in an_names_in : Option Addr} {sl_names_in : Array (Option Value)} {oc_names_in kV_names_in dc_names_in pm_names_in cd_names_in ct_names_in : Value}
    (a_names_in : PySem.W.nsIn K mainGlobals "names_in" = some (some (.ref f_names_in))) (l_names_in : K.lookup f_names_in = some ⟨oc_names_in, od_names_in, .func (PySem.W.fnOf "names_in" "names_in" (defArgs s_names_in) (defBody s_names_in) (defScope s_names_in) .none kV_names_in dc_names_in pm_names_in an_names_in cd_names_in ct_names_in), sl_names_in⟩) (c_names_in : PySem.W.codeIn K cd_names_in "names_in" = true) (k_names_in : PySem.W.keepIn K (.ref f_names_in) = true)
    {od_is_row an_is_row : Option Addr} {sl_is_row : Array (Option Value)} {oc_is_row kV_is_row dc_is_row pm_is_row cd_is_row ct_is_row : Value}
    (a_is_row : PySem.W.nsIn K mainGlobals "is_row" = some (some (.ref f_is_row))) (l_is_row : K.lookup f_is_row = some ⟨oc_is_row, od_is_row, .func (PySem.W.fnOf "is_row" "is_row" (defArgs s_is_row) (defBody s_is_row) (defScope s_is_row) .none kV_is_row dc_is_row pm_is_row an_is_row cd_is_row ct_is_row), sl_is_row⟩) (c_is_row : PySem.W.codeIn K cd_is_row "is_row" = true) (k_is_row : PySem.W.keepIn K (.ref f_is_row) = true)
    {od_check_rows an_check_rows : Option Addr} {sl_check_rows : Array (Option Value)} {oc_check_rows kV_check_rows dc_check_rows pm_check_rows cd_check_rows ct_check_rows : Value}
    (a_check_rows : PySem.W.nsIn K mainGlobals "check_rows" = some (some (.ref f_check_rows))) (l_check_rows : K.lookup f_check_rows = some ⟨oc_check_rows, od_check_rows, .func (PySem.W.fnOf "check_rows" "check_rows" (defArgs s_check_rows) (defBody s_check_rows) (defScope s_check_rows) .none kV_check_rows dc_check_rows pm_check_rows an_check_rows cd_check_rows ct_check_rows), sl_check_rows⟩) (c_check_rows : PySem.W.codeIn K cd_check_rows "check_rows" = true) (k_check_rows : PySem.W.keepIn K (.ref f_check_rows) = true)
    {od__key_value an__key_value : Option Addr} {sl__key_value : Array (Option Value)} {oc__key_value kV__key_value dc__key_value pm__key_value cd__key_value ct__key_value : Value}
    (a__key_value : PySem.W.nsIn K mainGlobals "_key_value" = some (some (.ref f__key_value))) (l__key_value : K.lookup f__key_value = some ⟨oc__key_value, od__key_value, .func (PySem.W.fnOf "_key_value" "_key_value" (defArgs s__key_value) (defBody s__key_value) (defScope s__key_value) .none kV__key_value dc__key_value pm__key_value an__key_value cd__key_value ct__key_value), sl__key_value⟩) (c__key_value : PySem.W.codeIn K cd__key_value "_key_value" = true) (k__key_value : PySem.W.keepIn K (.ref f__key_value) = true)
    {od__idents an__idents : Option Addr} {sl__idents : Array (Option Value)} {oc__idents kV__idents dc__idents pm__idents cd__idents ct__idents : Value}
    (a__idents : PySem.W.nsIn K mainGlobals "_idents" = some (some (.ref f__idents))) (l__idents : K.lookup f__idents = some ⟨oc__idents, od__idents, .func (PySem.W.fnOf "_idents" "_idents" (defArgs s__idents) (defBody s__idents) (defScope s__idents) .none kV__idents dc__idents pm__idents an__idents cd__idents ct__idents), sl__idents⟩) (c__idents : PySem.W.codeIn K cd__idents "_idents" = true) (k__idents : PySem.W.keepIn K (.ref f__idents) = true)
    {od__law_mixed an__law_mixed : Option Addr} {sl__law_mixed : Array (Option Value)} {oc__law_mixed kV__law_mixed dc__law_mixed pm__law_mixed cd__law_mixed ct__law_mixed : Value}
    (a__law_mixed : PySem.W.nsIn K mainGlobals "_law_mixed" = some (some (.ref f__law_mixed))) (l__law_mixed : K.lookup f__law_mixed = some ⟨oc__law_mixed, od__law_mixed, .func (PySem.W.fnOf "_law_mixed" "_law_mixed" (defArgs s__law_mixed) (defBody s__law_mixed) (defScope s__law_mixed) .none kV__law_mixed dc__law_mixed pm__law_mixed an__law_mixed cd__law_mixed ct__law_mixed), sl__law_mixed⟩) (c__law_mixed : PySem.W.codeIn K cd__law_mixed "_law_mixed" = true) (k__law_mixed : PySem.W.keepIn K (.ref f__law_mixed) = true)
    {od__law_bag an__law_bag : Option Addr} {sl__law_bag : Array (Option Value)} {oc__law_bag kV__law_bag dc__law_bag pm__law_bag cd__law_bag ct__law_bag : Value}
    (a__law_bag : PySem.W.nsIn K mainGlobals "_law_bag" = some (some (.ref f__law_bag))) (l__law_bag : K.lookup f__law_bag = some ⟨oc__law_bag, od__law_bag, .func (PySem.W.fnOf "_law_bag" "_law_bag" (defArgs s__law_bag) (defBody s__law_bag) (defScope s__law_bag) .none kV__law_bag dc__law_bag pm__law_bag an__law_bag cd__law_bag ct__law_bag), sl__law_bag⟩) (c__law_bag : PySem.W.codeIn K cd__law_bag "_law_bag" = true) (k__law_bag : PySem.W.keepIn K (.ref f__law_bag) = true)
    {od__law_pick an__law_pick : Option Addr} {sl__law_pick : Array (Option Value)} {oc__law_pick kV__law_pick dc__law_pick pm__law_pick cd__law_pick ct__law_pick : Value}
    (a__law_pick : PySem.W.nsIn K mainGlobals "_law_pick" = some (some (.ref f__law_pick))) (l__law_pick : K.lookup f__law_pick = some ⟨oc__law_pick, od__law_pick, .func (PySem.W.fnOf "_law_pick" "_law_pick" (defArgs s__law_pick) (defBody s__law_pick) (defScope s__law_pick) .none kV__law_pick dc__law_pick pm__law_pick an__law_pick cd__law_pick ct__law_pick), sl__law_pick⟩) (c__law_pick : PySem.W.codeIn K cd__law_pick "_law_pick" = true) (k__law_pick : PySem.W.keepIn K (.ref f__law_pick) = true)
    {od__law_choice an__law_choice : Option Addr} {sl__law_choice : Array (Option Value)} {oc__law_choice kV__law_choice dc__law_choice pm__law_choice cd__law_choice ct__law_choice : Value}
    (a__law_choice : PySem.W.nsIn K mainGlobals "_law_choice" = some (some (.ref f__law_choice))) (l__law_choice : K.lookup f__law_choice = some ⟨oc__law_choice, od__law_choice, .func (PySem.W.fnOf "_law_choice" "_law_choice" (defArgs s__law_choice) (defBody s__law_choice) (defScope s__law_choice) .none kV__law_choice dc__law_choice pm__law_choice an__law_choice cd__law_choice ct__law_choice), sl__law_choice⟩) (c__law_choice : PySem.W.codeIn K cd__law_choice "_law_choice" = true) (k__law_choice : PySem.W.keepIn K (.ref f__law_choice) = true)
    {od__law_mingled an__law_mingled : Option Addr} {sl__law_mingled : Array (Option Value)} {oc__law_mingled kV__law_mingled dc__law_mingled pm__law_mingled cd__law_mingled ct__law_mingled : Value}
    (a__law_mingled : PySem.W.nsIn K mainGlobals "_law_mingled" = some (some (.ref f__law_mingled))) (l__law_mingled : K.lookup f__law_mingled = some ⟨oc__law_mingled, od__law_mingled, .func (PySem.W.fnOf "_law_mingled" "_law_mingled" (defArgs s__law_mingled) (defBody s__law_mingled) (defScope s__law_mingled) .none kV__law_mingled dc__law_mingled pm__law_mingled an__law_mingled cd__law_mingled ct__law_mingled), sl__law_mingled⟩) (c__law_mingled : PySem.W.codeIn K cd__law_mingled "_law_mingled" = true) (k__law_mingled : PySem.W.keepIn K (.ref f__law_mingled) = true)
    {od__law_number an__law_number : Option Addr} {sl__law_number : Array (Option Value)} {oc__law_number kV__law_number dc__law_number pm__law_number cd__law_number ct__law_number : Value}
    (a__law_number : PySem.W.nsIn K mainGlobals "_law_number" = some (some (.ref f__law_number))) (l__law_number : K.lookup f__law_number = some ⟨oc__law_number, od__law_number, .func (PySem.W.fnOf "_law_number" "_law_number" (defArgs s__law_number) (defBody s__law_number) (defScope s__law_number) .none kV__law_number dc__law_number pm__law_number an__law_number cd__law_number ct__law_number), sl__law_number⟩) (c__law_number : PySem.W.codeIn K cd__law_number "_law_number" = true) (k__law_number : PySem.W.keepIn K (.ref f__law_number) = true)
    {od__law_form an__law_form : Option Addr} {sl__law_form : Array (Option Value)} {oc__law_form kV__law_form dc__law_form pm__law_form cd__law_form ct__law_form : Value}
    (a__law_form : PySem.W.nsIn K mainGlobals "_law_form" = some (some (.ref f__law_form))) (l__law_form : K.lookup f__law_form = some ⟨oc__law_form, od__law_form, .func (PySem.W.fnOf "_law_form" "_law_form" (defArgs s__law_form) (defBody s__law_form) (defScope s__law_form) .none kV__law_form dc__law_form pm__law_form an__law_form cd__law_form ct__law_form), sl__law_form⟩) (c__law_form : PySem.W.codeIn K cd__law_form "_law_form" = true) (k__law_form : PySem.W.keepIn K (.ref f__law_form) = true)
    {od__law_value an__law_value : Option Addr} {sl__law_value : Array (Option Value)} {oc__law_value kV__law_value dc__law_value pm__law_value cd__law_value ct__law_value : Value}
    (a__law_value : PySem.W.nsIn K mainGlobals "_law_value" = some (some (.ref f__law_value))) (l__law_value : K.lookup f__law_value = some ⟨oc__law_value, od__law_value, .func (PySem.W.fnOf "_law_value" "_law_value" (defArgs s__law_value) (defBody s__law_value) (defScope s__law_value) .none kV__law_value dc__law_value pm__law_value an__law_value cd__law_value ct__law_value), sl__law_value⟩) (c__law_value : PySem.W.codeIn K cd__law_value "_law_value" = true) (k__law_value : PySem.W.keepIn K (.ref f__law_value) = true)
    {od__law_idents an__law_idents : Option Addr} {sl__law_idents : Array (Option Value)} {oc__law_idents kV__law_idents dc__law_idents pm__law_idents cd__law_idents ct__law_idents : Value}
    (a__law_idents : PySem.W.nsIn K mainGlobals "_law_idents" = some (some (.ref f__law_idents))) (l__law_idents : K.lookup f__law_idents = some ⟨oc__law_idents, od__law_idents, .func (PySem.W.fnOf "_law_idents" "_law_idents" (defArgs s__law_idents) (defBody s__law_idents) (defScope s__law_idents) .none kV__law_idents dc__law_idents pm__law_idents an__law_idents cd__law_idents ct__law_idents), sl__law_idents⟩) (c__law_idents : PySem.W.codeIn K cd__law_idents "_law_idents" = true) (k__law_idents : PySem.W.keepIn K (.ref f__law_idents) = true)
    {od__law_row an__law_row : Option Addr} {sl__law_row : Array (Option Value)} {oc__law_row kV__law_row dc__law_row pm__law_row cd__law_row ct__law_row : Value}
    (a__law_row : PySem.W.nsIn K mainGlobals "_law_row" = some (some (.ref f__law_row))) (l__law_row : K.lookup f__law_row = some ⟨oc__law_row, od__law_row, .func (PySem.W.fnOf "_law_row" "_law_row" (defArgs s__law_row) (defBody s__law_row) (defScope s__law_row) .none kV__law_row dc__law_row pm__law_row an__law_row cd__law_row ct__law_row), sl__law_row⟩) (c__law_row : PySem.W.codeIn K cd__law_row "_law_row" = true) (k__law_row : PySem.W.keepIn K (.ref f__law_row) = true)
    {od__law_any_key an__law_any_key : Option Addr} {sl__law_any_key : Array (Option Value)} {oc__law_any_key kV__law_any_key dc__law_any_key pm__law_any_key cd__law_any_key ct__law_any_key : Value}
    (a__law_any_key : PySem.W.nsIn K mainGlobals "_law_any_key" = some (some (.ref f__law_any_key))) (l__law_any_key : K.lookup f__law_any_key = some ⟨oc__law_any_key, od__law_any_key, .func (PySem.W.fnOf "_law_any_key" "_law_any_key" (defArgs s__law_any_key) (defBody s__law_any_key) (defScope s__law_any_key) .none kV__law_any_key dc__law_any_key pm__law_any_key an__law_any_key cd__law_any_key ct__law_any_key), sl__law_any_key⟩) (c__law_any_key : PySem.W.codeIn K cd__law_any_key "_law_any_key" = true) (k__law_any_key : PySem.W.keepIn K (.ref f__law_any_key) = true)
    {od__law_levels an__law_levels : Option Addr} {sl__law_levels : Array (Option Value)} {oc__law_levels kV__law_levels dc__law_levels pm__law_levels cd__law_levels ct__law_levels : Value}
    (a__law_levels : PySem.W.nsIn K mainGlobals "_law_levels" = some (some (.ref f__law_levels))) (l__law_levels : K.lookup f__law_levels = some ⟨oc__law_levels, od__law_levels, .func (PySem.W.fnOf "_law_levels" "_law_levels" (defArgs s__law_levels) (defBody s__law_levels) (defScope s__law_levels) .none kV__law_levels dc__law_levels pm__law_levels an__law_levels cd__law_levels ct__law_levels), sl__law_levels⟩) (c__law_levels : PySem.W.codeIn K cd__law_levels "_law_levels" = true) (k__law_levels : PySem.W.keepIn K (.ref f__law_levels) = true)
    {od__law_bent an__law_bent : Option Addr} {sl__law_bent : Array (Option Value)} {oc__law_bent kV__law_bent dc__law_bent pm__law_bent cd__law_bent ct__law_bent : Value}
    (a__law_bent : PySem.W.nsIn K mainGlobals "_law_bent" = some (some (.ref f__law_bent))) (l__law_bent : K.lookup f__law_bent = some ⟨oc__law_bent, od__law_bent, .func (PySem.W.fnOf "_law_bent" "_law_bent" (defArgs s__law_bent) (defBody s__law_bent) (defScope s__law_bent) .none kV__law_bent dc__law_bent pm__law_bent an__law_bent cd__law_bent ct__law_bent), sl__law_bent⟩) (c__law_bent : PySem.W.codeIn K cd__law_bent "_law_bent" = true) (k__law_bent : PySem.W.keepIn K (.ref f__law_bent) = true)
    {od__law_at_most an__law_at_most : Option Addr} {sl__law_at_most : Array (Option Value)} {oc__law_at_most kV__law_at_most dc__law_at_most pm__law_at_most cd__law_at_most ct__law_at_most : Value}
    (a__law_at_most : PySem.W.nsIn K mainGlobals "_law_at_most" = some (some (.ref f__law_at_most))) (l__law_at_most : K.lookup f__law_at_most = some ⟨oc__law_at_most, od__law_at_most, .func (PySem.W.fnOf "_law_at_most" "_law_at_most" (defArgs s__law_at_most) (defBody s__law_at_most) (defScope s__law_at_most) .none kV__law_at_most dc__law_at_most pm__law_at_most an__law_at_most cd__law_at_most ct__law_at_most), sl__law_at_most⟩) (c__law_at_most : PySem.W.codeIn K cd__law_at_most "_law_at_most" = true) (k__law_at_most : PySem.W.keepIn K (.ref f__law_at_most) = true)
    {od__law_told_pairs an__law_told_pairs : Option Addr} {sl__law_told_pairs : Array (Option Value)} {oc__law_told_pairs kV__law_told_pairs dc__law_told_pairs pm__law_told_pairs cd__law_told_pairs ct__law_told_pairs : Value}
    (a__law_told_pairs : PySem.W.nsIn K mainGlobals "_law_told_pairs" = some (some (.ref f__law_told_pairs))) (l__law_told_pairs : K.lookup f__law_told_pairs = some ⟨oc__law_told_pairs, od__law_told_pairs, .func (PySem.W.fnOf "_law_told_pairs" "_law_told_pairs" (defArgs s__law_told_pairs) (defBody s__law_told_pairs) (defScope s__law_told_pairs) .none kV__law_told_pairs dc__law_told_pairs pm__law_told_pairs an__law_told_pairs cd__law_told_pairs ct__law_told_pairs), sl__law_told_pairs⟩) (c__law_told_pairs : PySem.W.codeIn K cd__law_told_pairs "_law_told_pairs" = true) (k__law_told_pairs : PySem.W.keepIn K (.ref f__law_told_pairs) = true)
    {od__law_table an__law_table : Option Addr} {sl__law_table : Array (Option Value)} {oc__law_table kV__law_table dc__law_table pm__law_table cd__law_table ct__law_table : Value}
    (a__law_table : PySem.W.nsIn K mainGlobals "_law_table" = some (some (.ref f__law_table))) (l__law_table : K.lookup f__law_table = some ⟨oc__law_table, od__law_table, .func (PySem.W.fnOf "_law_table" "_law_table" (defArgs s__law_table) (defBody s__law_table) (defScope s__law_table) .none kV__law_table dc__law_table pm__law_table an__law_table cd__law_table ct__law_table), sl__law_table⟩) (c__law_table : PySem.W.codeIn K cd__law_table "_law_table" = true) (k__law_table : PySem.W.keepIn K (.ref f__law_table) = true)
    {od_law an_law : Option Addr} {sl_law : Array (Option Value)} {oc_law kV_law dc_law pm_law cd_law ct_law : Value}
    (a_law : PySem.W.nsIn K mainGlobals "law" = some (some (.ref f_law))) (l_law : K.lookup f_law = some ⟨oc_law, od_law, .func (PySem.W.fnOf "law" "law" (defArgs s_law) (defBody s_law) (defScope s_law) .none kV_law dc_law pm_law an_law cd_law ct_law), sl_law⟩) (c_law : PySem.W.codeIn K cd_law "law" = true) (k_law : PySem.W.keepIn K (.ref f_law) = true)
    (aC_Key : PySem.W.nsIn K mainGlobals "Key" = some (some (.ref C_Key))) (pg_Key : PySem.W.plainGet K C_Key Str.empty = true) (hd_Key : PySem.W.hasDictIn K C_Key = true) (po_Key : PySem.W.plainOver K C_Key = true) (sa_Key : PySem.W.findIn K (.ref C_Key) "__setattr__" = some (some (.builtin "object.__setattr__"))) (mk_Key : PySem.W.makesIn K C_Key = true) (kc_Key : PySem.W.keepIn K (.ref C_Key) = true) (nf_Key : PySem.W.notFirst K C_Key (.ref C_Key) = true) (ih_Key : PySem.W.findIn K (.ref C_Key) "__class__" = some (some (.builtin "object.__class__"))) (ig_Key : PySem.W.specialIn K (.builtin "object.__class__") "__get__" = some (some (.builtin "getset_descriptor.__get__"))) (it_Key : PySem.W.takesIn K (.builtin "object.__class__") = some true) (io_Key : PySem.W.mroIn K C_Key (.type "object") = some true) (ik_Key : PySem.W.kitOne K (.ref C_Key) (.ref C_Key) = some true)
    (nA_Key__parts : PySem.W.findIn K (.ref C_Key) "_parts" = some none)
    {od_Key___init__ an_Key___init__ : Option Addr} {sl_Key___init__ : Array (Option Value)} {oc_Key___init__ kV_Key___init__ dc_Key___init__ pm_Key___init__ cd_Key___init__ ct_Key___init__ : Value}
    (a_Key___init__ : PySem.W.findIn K (.ref C_Key) "__init__" = some (some (.ref f_Key___init__))) (i_Key___init__ : PySem.W.isFn K (.ref f_Key___init__) = true) (n_Key___init__ : PySem.W.fnIn K f_Key___init__ = true)
    (l_Key___init__ : K.lookup f_Key___init__ = some ⟨oc_Key___init__, od_Key___init__, .func (PySem.W.fnOf "__init__" "Key.__init__" (defArgs s_Key___init__) (defBody s_Key___init__) (defScope s_Key___init__) .none kV_Key___init__ dc_Key___init__ pm_Key___init__ an_Key___init__ cd_Key___init__ ct_Key___init__), sl_Key___init__⟩) (c_Key___init__ : PySem.W.codeIn K cd_Key___init__ "Key.__init__" = true) (k_Key___init__ : PySem.W.keepIn K (.ref f_Key___init__) = true)
    {od_Key_parts an_Key_parts : Option Addr} {sl_Key_parts : Array (Option Value)} {oc_Key_parts kV_Key_parts dc_Key_parts pm_Key_parts cd_Key_parts ct_Key_parts : Value}
    {re_Key_parts : List Value} (a_Key_parts : PySem.W.findIn K (.ref C_Key) "parts" = some (some (.ref p_Key_parts))) (ge_Key_parts : PySem.W.specialIn K (.ref p_Key_parts) "__get__" = some (some (.builtin "property.__get__"))) (ta_Key_parts : PySem.W.takesIn K (.ref p_Key_parts) = some true) (re1_Key_parts : PySem.W.recIn K p_Key_parts "property" = some (.ref f_Key_parts :: re_Key_parts))
    (l_Key_parts : K.lookup f_Key_parts = some ⟨oc_Key_parts, od_Key_parts, .func (PySem.W.fnOf "parts" "Key.parts" (defArgs s_Key_parts) (defBody s_Key_parts) (defScope s_Key_parts) .none kV_Key_parts dc_Key_parts pm_Key_parts an_Key_parts cd_Key_parts ct_Key_parts), sl_Key_parts⟩) (c_Key_parts : PySem.W.codeIn K cd_Key_parts "Key.parts" = true) (k_Key_parts : PySem.W.keepIn K (.ref f_Key_parts) = true)
    {od_Key___call__ an_Key___call__ : Option Addr} {sl_Key___call__ : Array (Option Value)} {oc_Key___call__ kV_Key___call__ dc_Key___call__ pm_Key___call__ cd_Key___call__ ct_Key___call__ : Value}
    (a_Key___call__ : PySem.W.findIn K (.ref C_Key) "__call__" = some (some (.ref f_Key___call__))) (i_Key___call__ : PySem.W.isFn K (.ref f_Key___call__) = true) (n_Key___call__ : PySem.W.fnIn K f_Key___call__ = true)
    (l_Key___call__ : K.lookup f_Key___call__ = some ⟨oc_Key___call__, od_Key___call__, .func (PySem.W.fnOf "__call__" "Key.__call__" (defArgs s_Key___call__) (defBody s_Key___call__) (defScope s_Key___call__) .none kV_Key___call__ dc_Key___call__ pm_Key___call__ an_Key___call__ cd_Key___call__ ct_Key___call__), sl_Key___call__⟩) (c_Key___call__ : PySem.W.codeIn K cd_Key___call__ "Key.__call__" = true) (k_Key___call__ : PySem.W.keepIn K (.ref f_Key___call__) = true)
    {od_Key___le__ an_Key___le__ : Option Addr} {sl_Key___le__ : Array (Option Value)} {oc_Key___le__ kV_Key___le__ dc_Key___le__ pm_Key___le__ cd_Key___le__ ct_Key___le__ : Value}
    (a_Key___le__ : PySem.W.findIn K (.ref C_Key) "__le__" = some (some (.ref f_Key___le__))) (i_Key___le__ : PySem.W.isFn K (.ref f_Key___le__) = true) (n_Key___le__ : PySem.W.fnIn K f_Key___le__ = true)
    (l_Key___le__ : K.lookup f_Key___le__ = some ⟨oc_Key___le__, od_Key___le__, .func (PySem.W.fnOf "__le__" "Key.__le__" (defArgs s_Key___le__) (defBody s_Key___le__) (defScope s_Key___le__) .none kV_Key___le__ dc_Key___le__ pm_Key___le__ an_Key___le__ cd_Key___le__ ct_Key___le__), sl_Key___le__⟩) (c_Key___le__ : PySem.W.codeIn K cd_Key___le__ "Key.__le__" = true) (k_Key___le__ : PySem.W.keepIn K (.ref f_Key___le__) = true)
    {od_Key_idents an_Key_idents : Option Addr} {sl_Key_idents : Array (Option Value)} {oc_Key_idents kV_Key_idents dc_Key_idents pm_Key_idents cd_Key_idents ct_Key_idents : Value}
    (a_Key_idents : PySem.W.findIn K (.ref C_Key) "idents" = some (some (.ref f_Key_idents))) (i_Key_idents : PySem.W.isFn K (.ref f_Key_idents) = true) (n_Key_idents : PySem.W.fnIn K f_Key_idents = true)
    (l_Key_idents : K.lookup f_Key_idents = some ⟨oc_Key_idents, od_Key_idents, .func (PySem.W.fnOf "idents" "Key.idents" (defArgs s_Key_idents) (defBody s_Key_idents) (defScope s_Key_idents) .none kV_Key_idents dc_Key_idents pm_Key_idents an_Key_idents cd_Key_idents ct_Key_idents), sl_Key_idents⟩) (c_Key_idents : PySem.W.codeIn K cd_Key_idents "Key.idents" = true) (k_Key_idents : PySem.W.keepIn K (.ref f_Key_idents) = true)
    {t_MOST_LETTERS : Tok} (z_MOST_LETTERS : PySem.W.nsIn K mainGlobals "MOST_LETTERS" = some (some (.int 8 t_MOST_LETTERS)))
    {t_MOST_LEVELS : Tok} (z_MOST_LEVELS : PySem.W.nsIn K mainGlobals "MOST_LEVELS" = some (some (.int 5 t_MOST_LEVELS)))
    {t_MOST_ITEMS : Tok} (z_MOST_ITEMS : PySem.W.nsIn K mainGlobals "MOST_ITEMS" = some (some (.int 5 t_MOST_ITEMS)))
    (z_ValueError : PySem.W.nsIn K mainGlobals "ValueError" = some none)
    (z_abs : PySem.W.nsIn K mainGlobals "abs" = some none)
    (z_all : PySem.W.nsIn K mainGlobals "all" = some none)
    (z_bool : PySem.W.nsIn K mainGlobals "bool" = some none)
    (z_enumerate : PySem.W.nsIn K mainGlobals "enumerate" = some none)
    (z_int : PySem.W.nsIn K mainGlobals "int" = some none)
    (z_isinstance : PySem.W.nsIn K mainGlobals "isinstance" = some none)
    (z_len : PySem.W.nsIn K mainGlobals "len" = some none)
    (z_list : PySem.W.nsIn K mainGlobals "list" = some none)
    (z_range : PySem.W.nsIn K mainGlobals "range" = some none)
    (z_set : PySem.W.nsIn K mainGlobals "set" = some none)
    (z_str : PySem.W.nsIn K mainGlobals "str" = some none)
    (z_tuple : PySem.W.nsIn K mainGlobals "tuple" = some none)
    {pM : Addr} {esM : Array DictEntry} {nM : Nat} {tM1 tM2 tM3 : Tok} (uM : PySem.W.nsIn K mainGlobals "MANY_PARTS" = some (some (.ref pM))) (lM : K.lookup pM = some ⟨.type "dict", none, .dict esM nM, #[]⟩) (kM : PySem.W.KeysLit w.params esM.toList) (oM : (pM == sysModules) = false)
    (i1 : PySem.W.nsIn K pM "is" = some none) (i2 : PySem.W.nsIn K pM "get" = some none) (i3 : PySem.W.nsIn K pM "sum" = some (some (.int 2 tM1))) (i4 : PySem.W.nsIn K pM "same" = some (some (.int 2 tM2))) (i5 : PySem.W.nsIn K pM "pick" = some (some (.int 3 tM3))) :
    ∃ fd : FuncData, (∀ (s : Shared) (v : Value), BindsTo s fd ⟨[v], []⟩ [("_law_script", v)]) ∧ ∀ base : Heap, K.In base → base.Ns mainGlobals mg → FnOk l.prog w K mg base CX0 12 fa fd ["_law_script"] (sp_law K) := by
  have e := hfa.symm.trans (PySem.W.mg_of X G a_law)
  cases e
  let T : Txt K mg := { f_is_whole := f_is_whole, d_is_whole := _, F_is_whole := fun_mk (st := s_is_whole) l_is_whole c_is_whole k_is_whole, b_is_whole := (fun_mk (st := s_is_whole) l_is_whole c_is_whole k_is_whole).binds fun _ _ _ _ _ _ us hl => match us, hl with | [_], _ => rfl, g_is_whole := PySem.W.mg_of X G a_is_whole, f_is_value := f_is_value, d_is_value := _, F_is_value := fun_mk (st := s_is_value) l_is_value c_is_value k_is_value, b_is_value := (fun_mk (st := s_is_value) l_is_value c_is_value k_is_value).binds fun _ _ _ _ _ _ us hl => match us, hl with | [_], _ => rfl, g_is_value := PySem.W.mg_of X G a_is_value, f_is_name := f_is_name, d_is_name := _, F_is_name := fun_mk (st := s_is_name) l_is_name c_is_name k_is_name, b_is_name := (fun_mk (st := s_is_name) l_is_name c_is_name k_is_name).binds fun _ _ _ _ _ _ us hl => match us, hl with | [_], _ => rfl, g_is_name := PySem.W.mg_of X G a_is_name, f_inner_forms := f_inner_forms, d_inner_forms := _, F_inner_forms := fun_mk (st := s_inner_forms) l_inner_forms c_inner_forms k_inner_forms, b_inner_forms := (fun_mk (st := s_inner_forms) l_inner_forms c_inner_forms k_inner_forms).binds fun _ _ _ _ _ _ us hl => match us, hl with | [_], _ => rfl, g_inner_forms := PySem.W.mg_of X G a_inner_forms, f__well_made := f__well_made, d__well_made := _, F__well_made := fun_mk (st := s__well_made) l__well_made c__well_made k__well_made, b__well_made := (fun_mk (st := s__well_made) l__well_made c__well_made k__well_made).binds fun _ _ _ _ _ _ us hl => match us, hl with | [_], _ => rfl, g__well_made := PySem.W.mg_of X G a__well_made, f_check_form := f_check_form, d_check_form := _, F_check_form := fun_mk (st := s_check_form) l_check_form c_check_form k_check_form, b_check_form := (fun_mk (st := s_check_form) l_check_form c_check_form k_check_form).binds fun _ _ _ _ _ _ us hl => match us, hl with | [_], _ => rfl, g_check_form := PySem.W.mg_of X G a_check_form, f_value_of := f_value_of, d_value_of := _, F_value_of := fun_mk (st := s_value_of) l_value_of c_value_of k_value_of, b_value_of := (fun_mk (st := s_value_of) l_value_of c_value_of k_value_of).binds fun _ _ _ _ _ _ us hl => match us, hl with | [_, _], _ => rfl, g_value_of := PySem.W.mg_of X G a_value_of, f_names_in := f_names_in, d_names_in := _, F_names_in := fun_mk (st := s_names_in) l_names_in c_names_in k_names_in, b_names_in := (fun_mk (st := s_names_in) l_names_in c_names_in k_names_in).binds fun _ _ _ _ _ _ us hl => match us, hl with | [_], _ => rfl, g_names_in := PySem.W.mg_of X G a_names_in, f_is_row := f_is_row, d_is_row := _, F_is_row := fun_mk (st := s_is_row) l_is_row c_is_row k_is_row, b_is_row := (fun_mk (st := s_is_row) l_is_row c_is_row k_is_row).binds fun _ _ _ _ _ _ us hl => match us, hl with | [_], _ => rfl, g_is_row := PySem.W.mg_of X G a_is_row, f_check_rows := f_check_rows, d_check_rows := _, F_check_rows := fun_mk (st := s_check_rows) l_check_rows c_check_rows k_check_rows, b_check_rows := (fun_mk (st := s_check_rows) l_check_rows c_check_rows k_check_rows).binds fun _ _ _ _ _ _ us hl => match us, hl with | [_], _ => rfl, g_check_rows := PySem.W.mg_of X G a_check_rows, f__key_value := f__key_value, d__key_value := _, F__key_value := fun_mk (st := s__key_value) l__key_value c__key_value k__key_value, b__key_value := (fun_mk (st := s__key_value) l__key_value c__key_value k__key_value).binds fun _ _ _ _ _ _ us hl => match us, hl with | [_, _, _], _ => rfl, g__key_value := PySem.W.mg_of X G a__key_value, f__idents := f__idents, d__idents := _, F__idents := fun_mk (st := s__idents) l__idents c__idents k__idents, b__idents := (fun_mk (st := s__idents) l__idents c__idents k__idents).binds fun _ _ _ _ _ _ us hl => match us, hl with | [_, _], _ => rfl, g__idents := PySem.W.mg_of X G a__idents, f__law_mixed := f__law_mixed, d__law_mixed := _, F__law_mixed := fun_mk (st := s__law_mixed) l__law_mixed c__law_mixed k__law_mixed, b__law_mixed := (fun_mk (st := s__law_mixed) l__law_mixed c__law_mixed k__law_mixed).binds fun _ _ _ _ _ _ us hl => match us, hl with | [_, _], _ => rfl, g__law_mixed := PySem.W.mg_of X G a__law_mixed, f__law_bag := f__law_bag, d__law_bag := _, F__law_bag := fun_mk (st := s__law_bag) l__law_bag c__law_bag k__law_bag, b__law_bag := (fun_mk (st := s__law_bag) l__law_bag c__law_bag k__law_bag).binds fun _ _ _ _ _ _ us hl => match us, hl with | [_], _ => rfl, g__law_bag := PySem.W.mg_of X G a__law_bag, f__law_pick := f__law_pick, d__law_pick := _, F__law_pick := fun_mk (st := s__law_pick) l__law_pick c__law_pick k__law_pick, b__law_pick := (fun_mk (st := s__law_pick) l__law_pick c__law_pick k__law_pick).binds fun _ _ _ _ _ _ us hl => match us, hl with | [_, _], _ => rfl, g__law_pick := PySem.W.mg_of X G a__law_pick, f__law_choice := f__law_choice, d__law_choice := _, F__law_choice := fun_mk (st := s__law_choice) l__law_choice c__law_choice k__law_choice, b__law_choice := (fun_mk (st := s__law_choice) l__law_choice c__law_choice k__law_choice).binds fun _ _ _ _ _ _ us hl => match us, hl with | [_, _], _ => rfl, g__law_choice := PySem.W.mg_of X G a__law_choice, f__law_mingled := f__law_mingled, d__law_mingled := _, F__law_mingled := fun_mk (st := s__law_mingled) l__law_mingled c__law_mingled k__law_mingled, b__law_mingled := (fun_mk (st := s__law_mingled) l__law_mingled c__law_mingled k__law_mingled).binds fun _ _ _ _ _ _ us hl => match us, hl with | [_, _], _ => rfl, g__law_mingled := PySem.W.mg_of X G a__law_mingled, f__law_number := f__law_number, d__law_number := _, F__law_number := fun_mk (st := s__law_number) l__law_number c__law_number k__law_number, b__law_number := (fun_mk (st := s__law_number) l__law_number c__law_number k__law_number).binds fun _ _ _ _ _ _ us hl => match us, hl with | [_], _ => rfl, g__law_number := PySem.W.mg_of X G a__law_number, f__law_form := f__law_form, d__law_form := _, F__law_form := fun_mk (st := s__law_form) l__law_form c__law_form k__law_form, b__law_form := (fun_mk (st := s__law_form) l__law_form c__law_form k__law_form).binds fun _ _ _ _ _ _ us hl => match us, hl with | [_, _, _], _ => rfl, g__law_form := PySem.W.mg_of X G a__law_form, f__law_value := f__law_value, d__law_value := _, F__law_value := fun_mk (st := s__law_value) l__law_value c__law_value k__law_value, b__law_value := (fun_mk (st := s__law_value) l__law_value c__law_value k__law_value).binds fun _ _ _ _ _ _ us hl => match us, hl with | [_, _], _ => rfl, g__law_value := PySem.W.mg_of X G a__law_value, f__law_idents := f__law_idents, d__law_idents := _, F__law_idents := fun_mk (st := s__law_idents) l__law_idents c__law_idents k__law_idents, b__law_idents := (fun_mk (st := s__law_idents) l__law_idents c__law_idents k__law_idents).binds fun _ _ _ _ _ _ us hl => match us, hl with | [_, _], _ => rfl, g__law_idents := PySem.W.mg_of X G a__law_idents, f__law_row := f__law_row, d__law_row := _, F__law_row := fun_mk (st := s__law_row) l__law_row c__law_row k__law_row, b__law_row := (fun_mk (st := s__law_row) l__law_row c__law_row k__law_row).binds fun _ _ _ _ _ _ us hl => match us, hl with | [_, _], _ => rfl, g__law_row := PySem.W.mg_of X G a__law_row, f__law_any_key := f__law_any_key, d__law_any_key := _, F__law_any_key := fun_mk (st := s__law_any_key) l__law_any_key c__law_any_key k__law_any_key, b__law_any_key := (fun_mk (st := s__law_any_key) l__law_any_key c__law_any_key k__law_any_key).binds fun _ _ _ _ _ _ us hl => match us, hl with | [_], _ => rfl, g__law_any_key := PySem.W.mg_of X G a__law_any_key, f__law_levels := f__law_levels, d__law_levels := _, F__law_levels := fun_mk (st := s__law_levels) l__law_levels c__law_levels k__law_levels, b__law_levels := (fun_mk (st := s__law_levels) l__law_levels c__law_levels k__law_levels).binds fun _ _ _ _ _ _ us hl => match us, hl with | [_], _ => rfl, g__law_levels := PySem.W.mg_of X G a__law_levels, f__law_bent := f__law_bent, d__law_bent := _, F__law_bent := fun_mk (st := s__law_bent) l__law_bent c__law_bent k__law_bent, b__law_bent := (fun_mk (st := s__law_bent) l__law_bent c__law_bent k__law_bent).binds fun _ _ _ _ _ _ us hl => match us, hl with | [_, _], _ => rfl, g__law_bent := PySem.W.mg_of X G a__law_bent, f__law_at_most := f__law_at_most, d__law_at_most := _, F__law_at_most := fun_mk (st := s__law_at_most) l__law_at_most c__law_at_most k__law_at_most, b__law_at_most := (fun_mk (st := s__law_at_most) l__law_at_most c__law_at_most k__law_at_most).binds fun _ _ _ _ _ _ us hl => match us, hl with | [_, _], _ => rfl, g__law_at_most := PySem.W.mg_of X G a__law_at_most, f__law_told_pairs := f__law_told_pairs, d__law_told_pairs := _, F__law_told_pairs := fun_mk (st := s__law_told_pairs) l__law_told_pairs c__law_told_pairs k__law_told_pairs, b__law_told_pairs := (fun_mk (st := s__law_told_pairs) l__law_told_pairs c__law_told_pairs k__law_told_pairs).binds fun _ _ _ _ _ _ us hl => match us, hl with | [_, _], _ => rfl, g__law_told_pairs := PySem.W.mg_of X G a__law_told_pairs, f__law_table := f__law_table, d__law_table := _, F__law_table := fun_mk (st := s__law_table) l__law_table c__law_table k__law_table, b__law_table := (fun_mk (st := s__law_table) l__law_table c__law_table k__law_table).binds fun _ _ _ _ _ _ us hl => match us, hl with | [_, _], _ => rfl, g__law_table := PySem.W.mg_of X G a__law_table, f_law := fa, d_law := _, F_law := fun_mk (st := s_law) l_law c_law k_law, b_law := (fun_mk (st := s_law) l_law c_law k_law).binds fun _ _ _ _ _ _ us hl => match us, hl with | [_], _ => rfl, g_law := PySem.W.mg_of X G a_law, C_Key := C_Key, g_Key := PySem.W.mg_of X G aC_Key, cl_Key := ⟨pg_Key, hd_Key, po_Key, sa_Key⟩, mk_Key := mk_Key, kc_Key := kc_Key, nf_Key := nf_Key, in_Key := ⟨⟨pg_Key, hd_Key, po_Key, sa_Key⟩, ih_Key, ig_Key, it_Key, io_Key, ik_Key⟩, nA_Key__parts := nA_Key__parts, f_Key___init__ := f_Key___init__, d_Key___init__ := _, F_Key___init__ := fun_mk (st := s_Key___init__) l_Key___init__ c_Key___init__ k_Key___init__, b_Key___init__ := (fun_mk (st := s_Key___init__) l_Key___init__ c_Key___init__ k_Key___init__).binds fun _ _ _ _ _ _ us hl => match us, hl with | [_, _], _ => rfl, a_Key___init__ := a_Key___init__, i_Key___init__ := i_Key___init__, n_Key___init__ := n_Key___init__, f_Key_parts := f_Key_parts, d_Key_parts := _, F_Key_parts := fun_mk (st := s_Key_parts) l_Key_parts c_Key_parts k_Key_parts, b_Key_parts := (fun_mk (st := s_Key_parts) l_Key_parts c_Key_parts k_Key_parts).binds fun _ _ _ _ _ _ us hl => match us, hl with | [_], _ => rfl, p_Key_parts := p_Key_parts, P_Key_parts := ⟨a_Key_parts, ge_Key_parts, ta_Key_parts, ⟨_, re1_Key_parts⟩⟩, f_Key___call__ := f_Key___call__, d_Key___call__ := _, F_Key___call__ := fun_mk (st := s_Key___call__) l_Key___call__ c_Key___call__ k_Key___call__, b_Key___call__ := (fun_mk (st := s_Key___call__) l_Key___call__ c_Key___call__ k_Key___call__).binds fun _ _ _ _ _ _ us hl => match us, hl with | [_, _, _], _ => rfl, a_Key___call__ := a_Key___call__, i_Key___call__ := i_Key___call__, n_Key___call__ := n_Key___call__, f_Key___le__ := f_Key___le__, d_Key___le__ := _, F_Key___le__ := fun_mk (st := s_Key___le__) l_Key___le__ c_Key___le__ k_Key___le__, b_Key___le__ := (fun_mk (st := s_Key___le__) l_Key___le__ c_Key___le__ k_Key___le__).binds fun _ _ _ _ _ _ us hl => match us, hl with | [_, _], _ => rfl, a_Key___le__ := a_Key___le__, i_Key___le__ := i_Key___le__, n_Key___le__ := n_Key___le__, f_Key_idents := f_Key_idents, d_Key_idents := _, F_Key_idents := fun_mk (st := s_Key_idents) l_Key_idents c_Key_idents k_Key_idents, b_Key_idents := (fun_mk (st := s_Key_idents) l_Key_idents c_Key_idents k_Key_idents).binds fun _ _ _ _ _ _ us hl => match us, hl with | [_, _], _ => rfl, a_Key_idents := a_Key_idents, i_Key_idents := i_Key_idents, n_Key_idents := n_Key_idents, t_MOST_LETTERS := _, c_MOST_LETTERS := PySem.W.mg_of X G z_MOST_LETTERS, t_MOST_LEVELS := _, c_MOST_LEVELS := PySem.W.mg_of X G z_MOST_LEVELS, t_MOST_ITEMS := _, c_MOST_ITEMS := PySem.W.mg_of X G z_MOST_ITEMS, m_ValueError := PySem.W.mg_none_of X G z_ValueError, m_abs := PySem.W.mg_none_of X G z_abs, m_all := PySem.W.mg_none_of X G z_all, m_bool := PySem.W.mg_none_of X G z_bool, m_enumerate := PySem.W.mg_none_of X G z_enumerate, m_int := PySem.W.mg_none_of X G z_int, m_isinstance := PySem.W.mg_none_of X G z_isinstance, m_len := PySem.W.mg_none_of X G z_len, m_list := PySem.W.mg_none_of X G z_list, m_range := PySem.W.mg_none_of X G z_range, m_set := PySem.W.mg_none_of X G z_set, m_str := PySem.W.mg_none_of X G z_str, m_tuple := PySem.W.mg_none_of X G z_tuple }
  let U : TMany K mg w := { p := pM, es := esM, n := nM, kd := ⟨lM, kM, oM⟩, g := PySem.W.mg_of X G uM, is := i1, get := i2, sum := ⟨_, i3⟩, same := ⟨_, i4⟩, pick := ⟨_, i5⟩ }
  exact ⟨_, fun s v => .of_eq rfl, fun base _ _ => ok_law (base := base) T U⟩
end D
open PySem PySem.W PyProof.Rows
set_option maxHeartbeats 0 in
theorem PySem.Challenge.cw_drawnanew_k23_idents_holds : PySem.Challenge.rw_drawnanew_k23_idents.Holds := by
  w_on; o_law; k_head; (case hw => w_witness2)
  k_fill
  refine L2.walk_of (l := PySem.Challenge.rw_drawnanew_k23_idents) (n := 63) (k := 12) (x := "_law_script") (CX := fun _ => L2.CX0) (sp := fun w => D.sp_law _) rfl (by decide) rfl ⟨rfl, by decide, by decide⟩ (fun w h Y => PySem.W.kIn_of Y) ?F (fun _ _ a ns hl _ hS => ⟨a, ns, rfl, hS, hl, fun _ => rfl⟩) (fun _ _ _ _ _ h => h)
  case F =>
    intro w mg fa h KX G hmg
    refine' D.all_mk KX G hmg ?a_is_whole ?l_is_whole ?c_is_whole ?k_is_whole ?a_is_value ?l_is_value ?c_is_value ?k_is_value ?a_is_name ?l_is_name ?c_is_name ?k_is_name ?a_inner_forms ?l_inner_forms ?c_inner_forms ?k_inner_forms ?a__well_made ?l__well_made ?c__well_made ?k__well_made ?a_check_form ?l_check_form ?c_check_form ?k_check_form ?a_value_of ?l_value_of ?c_value_of ?k_value_of ?a_names_in ?l_names_in ?c_names_in ?k_names_in ?a_is_row ?l_is_row ?c_is_row ?k_is_row ?a_check_rows ?l_check_rows ?c_check_rows ?k_check_rows ?a__key_value ?l__key_value ?c__key_value ?k__key_value ?a__idents ?l__idents ?c__idents ?k__idents ?a__law_mixed ?l__law_mixed ?c__law_mixed ?k__law_mixed ?a__law_bag ?l__law_bag ?c__law_bag ?k__law_bag ?a__law_pick ?l__law_pick ?c__law_pick ?k__law_pick ?a__law_choice ?l__law_choice ?c__law_choice ?k__law_choice ?a__law_mingled ?l__law_mingled ?c__law_mingled ?k__law_mingled ?a__law_number ?l__law_number ?c__law_number ?k__law_number ?a__law_form ?l__law_form ?c__law_form ?k__law_form ?a__law_value ?l__law_value ?c__law_value ?k__law_value ?a__law_idents ?l__law_idents ?c__law_idents ?k__law_idents ?a__law_row ?l__law_row ?c__law_row ?k__law_row ?a__law_any_key ?l__law_any_key ?c__law_any_key ?k__law_any_key ?a__law_levels ?l__law_levels ?c__law_levels ?k__law_levels ?a__law_bent ?l__law_bent ?c__law_bent ?k__law_bent ?a__law_at_most ?l__law_at_most ?c__law_at_most ?k__law_at_most ?a__law_told_pairs ?l__law_told_pairs ?c__law_told_pairs ?k__law_told_pairs ?a__law_table ?l__law_table ?c__law_table ?k__law_table ?a_law ?l_law ?c_law ?k_law ?aC_Key ?pg_Key ?hd_Key ?po_Key ?sa_Key ?mk_Key ?kc_Key ?nf_Key ?ih_Key ?ig_Key ?it_Key ?io_Key ?ik_Key ?nA_Key__parts ?a_Key___init__ ?i_Key___init__ ?n_Key___init__ ?l_Key___init__ ?c_Key___init__ ?k_Key___init__ ?a_Key_parts ?ge_Key_parts ?ta_Key_parts ?re1_Key_parts ?l_Key_parts ?c_Key_parts ?k_Key_parts ?a_Key___call__ ?i_Key___call__ ?n_Key___call__ ?l_Key___call__ ?c_Key___call__ ?k_Key___call__ ?a_Key___le__ ?i_Key___le__ ?n_Key___le__ ?l_Key___le__ ?c_Key___le__ ?k_Key___le__ ?a_Key_idents ?i_Key_idents ?n_Key_idents ?l_Key_idents ?c_Key_idents ?k_Key_idents ?z_MOST_LETTERS ?z_MOST_LEVELS ?z_MOST_ITEMS ?z_ValueError ?z_abs ?z_all ?z_bool ?z_enumerate ?z_int ?z_isinstance ?z_len ?z_list ?z_range ?z_set ?z_str ?z_tuple ?uM ?lM ?kM ?oM ?i1 ?i2 ?i3 ?i4 ?i5
    (case a_is_whole => k_is); (case l_is_whole => k_is); (case c_is_whole => k_is); (case k_is_whole => k_is); (case a_is_value => k_is); (case l_is_value => k_is); (case c_is_value => k_is); (case k_is_value => k_is); (case a_is_name => k_is); (case l_is_name => k_is); (case c_is_name => k_is); (case k_is_name => k_is); (case a_inner_forms => k_is); (case l_inner_forms => k_is); (case c_inner_forms => k_is); (case k_inner_forms => k_is); (case a__well_made => k_is); (case l__well_made => k_is); (case c__well_made => k_is); (case k__well_made => k_is); (case a_check_form => k_is); (case l_check_form => k_is); (case c_check_form => k_is); (case k_check_form => k_is); (case a_value_of => k_is); (case l_value_of => k_is); (case c_value_of => k_is); (case k_value_of => k_is); (case a_names_in => k_is); (case l_names_in => k_is); (case c_names_in => k_is); (case k_names_in => k_is); (case a_is_row => k_is); (case l_is_row => k_is); (case c_is_row => k_is); (case k_is_row => k_is); (case a_check_rows => k_is); (case l_check_rows => k_is); (case c_check_rows => k_is); (case k_check_rows => k_is); (case a__key_value => k_is); (case l__key_value => k_is); (case c__key_value => k_is); (case k__key_value => k_is); (case a__idents => k_is); (case l__idents => k_is); (case c__idents => k_is); (case k__idents => k_is); (case a__law_mixed => k_is); (case l__law_mixed => k_is); (case c__law_mixed => k_is); (case k__law_mixed => k_is); (case a__law_bag => k_is); (case l__law_bag => k_is); (case c__law_bag => k_is); (case k__law_bag => k_is); (case a__law_pick => k_is); (case l__law_pick => k_is); (case c__law_pick => k_is); (case k__law_pick => k_is); (case a__law_choice => k_is); (case l__law_choice => k_is); (case c__law_choice => k_is); (case k__law_choice => k_is); (case a__law_mingled => k_is); (case l__law_mingled => k_is); (case c__law_mingled => k_is); (case k__law_mingled => k_is); (case a__law_number => k_is); (case l__law_number => k_is); (case c__law_number => k_is); (case k__law_number => k_is); (case a__law_form => k_is); (case l__law_form => k_is); (case c__law_form => k_is); (case k__law_form => k_is); (case a__law_value => k_is); (case l__law_value => k_is); (case c__law_value => k_is); (case k__law_value => k_is); (case a__law_idents => k_is); (case l__law_idents => k_is); (case c__law_idents => k_is); (case k__law_idents => k_is); (case a__law_row => k_is); (case l__law_row => k_is); (case c__law_row => k_is); (case k__law_row => k_is); (case a__law_any_key => k_is); (case l__law_any_key => k_is); (case c__law_any_key => k_is); (case k__law_any_key => k_is); (case a__law_levels => k_is); (case l__law_levels => k_is); (case c__law_levels => k_is); (case k__law_levels => k_is); (case a__law_bent => k_is); (case l__law_bent => k_is); (case c__law_bent => k_is); (case k__law_bent => k_is); (case a__law_at_most => k_is); (case l__law_at_most => k_is); (case c__law_at_most => k_is); (case k__law_at_most => k_is); (case a__law_told_pairs => k_is); (case l__law_told_pairs => k_is); (case c__law_told_pairs => k_is); (case k__law_told_pairs => k_is); (case a__law_table => k_is); (case l__law_table => k_is); (case c__law_table => k_is); (case k__law_table => k_is); (case a_law => k_is); (case l_law => k_is); (case c_law => k_is); (case k_law => k_is); (case aC_Key => k_is); (case pg_Key => k_is); (case hd_Key => k_is); (case po_Key => k_is); (case sa_Key => k_is); (case mk_Key => k_is); (case kc_Key => k_is); (case nf_Key => k_is); (case ih_Key => k_is); (case ig_Key => k_is); (case it_Key => k_is); (case io_Key => k_is); (case ik_Key => first | exact rfl | decide +kernel | k_is); (case nA_Key__parts => k_is); (case a_Key___init__ => k_is); (case i_Key___init__ => k_is); (case n_Key___init__ => k_is); (case l_Key___init__ => k_is); (case c_Key___init__ => k_is); (case k_Key___init__ => k_is); (case a_Key_parts => k_is); (case ge_Key_parts => k_is); (case ta_Key_parts => k_is); (case re1_Key_parts => k_is); (case l_Key_parts => k_is); (case c_Key_parts => k_is); (case k_Key_parts => k_is); (case a_Key___call__ => k_is); (case i_Key___call__ => k_is); (case n_Key___call__ => k_is); (case l_Key___call__ => k_is); (case c_Key___call__ => k_is); (case k_Key___call__ => k_is); (case a_Key___le__ => k_is); (case i_Key___le__ => k_is); (case n_Key___le__ => k_is); (case l_Key___le__ => k_is); (case c_Key___le__ => k_is); (case k_Key___le__ => k_is); (case a_Key_idents => k_is); (case i_Key_idents => k_is); (case n_Key_idents => k_is); (case l_Key_idents => k_is); (case c_Key_idents => k_is); (case k_Key_idents => k_is); (case z_MOST_LETTERS => k_is); (case z_MOST_LEVELS => k_is); (case z_MOST_ITEMS => k_is); (case z_ValueError => k_is); (case z_abs => k_is); (case z_all => k_is); (case z_bool => k_is); (case z_enumerate => k_is); (case z_int => k_is); (case z_isinstance => k_is); (case z_len => k_is); (case z_list => k_is); (case z_range => k_is); (case z_set => k_is); (case z_str => k_is); (case z_tuple => k_is); (case uM => k_is); (case lM => k_is); (case kM => k_keys); (case oM => decide); (case i1 => k_is); (case i2 => k_is); (case i3 => k_is); (case i4 => k_is); (case i5 => k_is)

