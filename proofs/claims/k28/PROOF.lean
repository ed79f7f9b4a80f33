import PyProof.Rows.All
import Wide.All
import OpenK.AllK
import Wide.FinOn
import PyProof.Rows.IntBool
import HandS.ForMost
import HandS.IsInst
import HandS.TupAny
import HandS.Conv
import HandS.More
import HandS.Style
import HandS.Property
import HandS.Star
import HandS.DictComp
import HandS.RaiseMore
import HandS.SetFor
import HandS.SlotsOwn
import HandS.Codes
import KE.GoesEnum
import HandS.Deep
import HandS.Strs
import HandS.ReCall
import HandS.Zip
import HandS.Flow
import PySem.Challenge.RW_drawnanew_k28_whole_least_pair
set_option Elab.async false
set_option linter.all false
set_option maxRecDepth 100000
set_option maxHeartbeats 4000000
namespace D
open PySem PySem.Spec PyProof.Rows L2

/-! ### rules that the layer lacks -/
def bI (b : Bool) : Int := if b = true then 1 else 0
theorem op_mul_ib {X : Cx} : OpR X (binaryOp .Mult) (fun x y H Q => ∃ i k, x = .int i ∧ y = .bl k ∧ Q (.int (i * bI k)) H) := by
  intro pins s σ H x y v u Q I rx ry h
  obtain ⟨i, k, rfl, rfl, q⟩ := h
  obtain ⟨t, rfl⟩ := rx
  cases ry
  exact PySem.IntBool.mul_int_bool ⟨.int (i * bI k), H, I.tok _, ⟨_, rfl⟩, q⟩

/-! ### heaps: M the addresses that may be written -/
abbrev Ms := Addr → Prop
def Sx (M : Ms) (H H' : Hp) : Prop := ∀ a o, ¬ M a → H a = some o → H' a = some o
def one (b : Addr) : Ms := fun a => a = b
def also (M : Ms) (b : Addr) : Ms := fun a => M a ∨ a = b
/-- what may be written stands -/
def Mk (M : Ms) (H : Hp) : Prop := ∀ a, M a → H a ≠ none
theorem Sx.refl {M : Ms} {H : Hp} : Sx M H H := fun _ _ _ h => h
theorem Sx.trans {M : Ms} {H H1 H2 : Hp} (a : Sx M H H1) (b : Sx M H1 H2) : Sx M H H2 := fun c o n h => b c o n (a c o n h)
theorem Sx.le {M N : Ms} {H H' : Hp} (s : Sx M H H') (h : ∀ a, M a → N a) : Sx N H H' := fun a o n e => s a o (fun m => n (h a m)) e
theorem Sx.same {M : Ms} {H H' : Hp} (s : Same H H') : Sx M H H' := fun a o _ e => s a o e
theorem Sx.new {M : Ms} {H : Hp} {p : Addr} {o : HO} (h : H p = none) : Sx M H (upd H p o) := fun a u _ e => by
  rw [upd_ne (ne_of_none e h)]
  exact e
theorem Sx.put {M : Ms} {H : Hp} {p : Addr} {o : HO} (h : M p) : Sx M H (upd H p o) := fun a u n e => by
  rw [upd_ne (fun z => n (by rw [z]; exact h))]
  exact e
theorem same_new {H : Hp} {p : Addr} {o : HO} (h : H p = none) : Same H (upd H p o) := fun a u e => by
  rw [upd_ne (ne_of_none e h)]
  exact e
theorem Mk.step {M : Ms} {H H' : Hp} (m : Mk M H) (h : ∀ a, H a ≠ none → H' a ≠ none) : Mk M H' := fun a z => h a (m a z)
theorem there_new {H : Hp} {p a : Addr} {o : HO} (h : H a ≠ none) : upd H p o a ≠ none := by
  by_cases e : a = p
  · subst e
    rw [upd_same]
    exact fun z => nomatch z
  · rw [upd_ne e]
    exact h
/-- nothing goes -/
def Gr (H H' : Hp) : Prop := ∀ a, H a ≠ none → H' a ≠ none
theorem Gr.refl {H : Hp} : Gr H H := fun _ h => h
theorem Gr.trans {H H1 H2 : Hp} (a : Gr H H1) (b : Gr H1 H2) : Gr H H2 := fun c h => b c (a c h)
theorem Gr.upd {H : Hp} {p : Addr} {o : HO} : Gr H (upd H p o) := fun _ h => there_new h
theorem Gr.same {H H' : Hp} (s : Same H H') : Gr H H' := fun a h => by
  cases e : H a with
  | none => exact absurd e h
  | some o =>
    rw [s a o e]
    exact fun z => nomatch z
theorem Mk.gr {M : Ms} {H H' : Hp} (m : Mk M H) (g : Gr H H') : Mk M H' := fun a z => g a (m a z)
theorem Mk.out {M : Ms} {H : Hp} {p : Addr} (m : Mk M H) (h : H p = none) : ¬ M p := fun z => m p z h
theorem Mk.also {M : Ms} {H : Hp} {p : Addr} (m : Mk M H) (h : H p ≠ none) : Mk (also M p) H := fun a z => by
  rcases z with z | rfl
  · exact m a z
  · exact h
theorem ne_none {H : Hp} {p : Addr} {o : HO} (h : H p = some o) : H p ≠ none := by
  rw [h]
  exact fun z => nomatch z
theorem upd_there {H : Hp} {p : Addr} {o : HO} : upd H p o p ≠ none := by
  rw [upd_same]
  exact fun z => nomatch z

/-! ### lists and tuples that are read -/
theorem sx_rd {M : Ms} {H H' : Hp} {a : Addr} {u : HO} (s : Sx M H H') (n : ¬ M a) (h : Rd H a u) : Rd H' a u := by
  rcases h with h | ⟨o, h⟩
  · exact .inl (s a _ n h)
  · exact .inr ⟨o, s a _ n h⟩
theorem sx_l {K : PySem.W.Frag} {M : Ms} {H H' : Hp} {a : Addr} {xs : List V} (s : Sx M H H') (n : ¬ M a) (h : SqL K H a xs) : SqL K H' a xs := by
  rcases h with h | h
  · exact .inl (sx_rd s n h)
  · exact .inr h
theorem sx_t {K : PySem.W.Frag} {M : Ms} {H H' : Hp} {a : Addr} {xs : List V} (s : Sx M H H') (n : ¬ M a) (h : SqT K H a xs) : SqT K H' a xs := by
  rcases h with h | h
  · exact .inl (sx_rd s n h)
  · exact .inr h

/-! ### data -/
/-- a tuple that stands -/
inductive RdT (H : Hp) (a : Addr) (xs : List V) : Prop
  | inl (h : H a = some (.tup xs))
theorem RdT.rd {H : Hp} {a : Addr} {xs : List V} (h : RdT H a xs) : Rd H a (.tup xs) := h.casesOn fun h => .inl h
theorem RdT.at {H : Hp} {a : Addr} {xs : List V} (h : RdT H a xs) : H a = some (.tup xs) := h.casesOn fun h => h
theorem sx_rt {M : Ms} {H H' : Hp} {a : Addr} {u : List V} (s : Sx M H H') (n : ¬ M a) (h : RdT H a u) : RdT H' a u := .inl (s a _ n h.at)
mutual
inductive Rp (M : Ms) (H : Hp) : V → PyData → Prop
  | non : Rp M H .non .none
  | bl (b : Bool) : Rp M H (.bl b) (.bool b)
  | int (i : Int) : Rp M H (.int i) (.int i)
  | str (x : Str) : Rp M H (.str x) (.str x)
  | lst {a : Addr} {xs : List V} {ds : List PyData} : ¬ M a → Rd H a (.lst xs) → RpAll M H xs ds → Rp M H (.ref a) (.list ds)
  | tup {a : Addr} {xs : List V} {ds : List PyData} : ¬ M a → RdT H a xs → RpAll M H xs ds → Rp M H (.ref a) (.tuple ds)
inductive RpAll (M : Ms) (H : Hp) : List V → List PyData → Prop
  | nil : RpAll M H [] []
  | cons {v : V} {vs : List V} {d : PyData} {ds : List PyData} : Rp M H v d → RpAll M H vs ds → RpAll M H (v :: vs) (d :: ds)
end
section
variable {K : PySem.W.Frag} {M N : Ms} {H H' : Hp}
mutual
theorem Rp.imp (f : ∀ a u, ¬ M a → Rd H a u → ¬ N a) (fl : ∀ a u, ¬ M a → Rd H a u → Rd H' a u) (ft : ∀ a xs, ¬ M a → RdT H a xs → RdT H' a xs) : ∀ (d : PyData) (v : V), Rp M H v d → Rp N H' v d
  | .none, _, h => by cases h; exact .non
  | .bool b, _, h => by cases h; exact .bl b
  | .int i, _, h => by cases h; exact .int i
  | .str x, _, h => by cases h; exact .str x
  | .list ds, _, h => by
    cases h with
    | lst n s r => exact .lst (f _ _ n s) (fl _ _ n s) (RpAll.imp f fl ft ds _ r)
  | .tuple ds, _, h => by
    cases h with
    | tup n s r => exact .tup (f _ _ n s.rd) (ft _ _ n s) (RpAll.imp f fl ft ds _ r)
  | .dict _, _, h => by cases h
theorem RpAll.imp (f : ∀ a u, ¬ M a → Rd H a u → ¬ N a) (fl : ∀ a u, ¬ M a → Rd H a u → Rd H' a u) (ft : ∀ a xs, ¬ M a → RdT H a xs → RdT H' a xs) : ∀ (ds : List PyData) (vs : List V), RpAll M H vs ds → RpAll N H' vs ds
  | [], _, h => by cases h; exact .nil
  | d :: ds, _, h => by
    cases h with
    | cons h1 h2 => exact .cons (Rp.imp f fl ft d _ h1) (RpAll.imp f fl ft ds _ h2)
end
theorem Rp.sx {v : V} {d : PyData} (s : Sx M H H') (h : Rp M H v d) : Rp M H' v d := Rp.imp (fun _ _ n _ => n) (fun _ _ n q => sx_rd s n q) (fun _ _ n q => sx_rt s n q) d v h
theorem RpAll.sx {vs : List V} {ds : List PyData} (s : Sx M H H') (h : RpAll M H vs ds) : RpAll M H' vs ds := RpAll.imp (fun _ _ n _ => n) (fun _ _ n q => sx_rd s n q) (fun _ _ n q => sx_rt s n q) ds vs h
/-- fewer that may be written -/
theorem Rp.less {v : V} {d : PyData} (f : ∀ a, N a → M a) (h : Rp M H v d) : Rp N H v d := Rp.imp (fun a _ n _ m => n (f a m)) (fun _ _ _ q => q) (fun _ _ _ q => q) d v h
theorem RpAll.less {vs : List V} {ds : List PyData} (f : ∀ a, N a → M a) (h : RpAll M H vs ds) : RpAll N H vs ds := RpAll.imp (fun a _ n _ m => n (f a m)) (fun _ _ _ q => q) (fun _ _ _ q => q) ds vs h

/-- an address that no datum reads: nothing stands there -/
theorem sql_kept {a p : Addr} {xs : List V} {o : HO} (h : SqL K H a xs) (n : H p = none) : SqL K (upd H p o) a xs := sx_l (M := fun _ => False) (Sx.new n) (fun z => z) h
theorem sqt_kept {a p : Addr} {xs : List V} {o : HO} (h : SqT K H a xs) (n : H p = none) : SqT K (upd H p o) a xs := sx_t (M := fun _ => False) (Sx.new n) (fun z => z) h

mutual
theorem Rp.dp : ∀ (d : PyData) (v : V), Rp M H v d → Dp K H v d
  | .none, _, h => by cases h; exact .non
  | .bool b, _, h => by cases h; exact .bl b
  | .int i, _, h => by cases h; exact .int i
  | .str x, _, h => by cases h; exact .str x
  | .list ds, _, h => by
    cases h with
    | lst n s r => exact .lst (.inl s) (RpAll.dp ds _ r)
  | .tuple ds, _, h => by
    cases h with
    | tup n s r => exact .tup (.inl s.rd) (RpAll.dp ds _ r)
  | .dict _, _, h => by cases h
theorem RpAll.dp : ∀ (ds : List PyData) (vs : List V), RpAll M H vs ds → DpAll K H vs ds
  | [], _, h => by cases h; exact .nil
  | d :: ds, _, h => by
    cases h with
    | cons h1 h2 => exact .cons (Rp.dp d _ h1) (RpAll.dp ds _ h2)
end
theorem RpAll.length : ∀ {ds : List PyData} {vs : List V}, RpAll M H vs ds → vs.length = ds.length
  | [], _, h => by cases h; rfl
  | d :: ds, _, h => by
    cases h with
    | cons _ h2 =>
      rw [List.length_cons, List.length_cons, RpAll.length h2]
theorem RpAll.get : ∀ {ds : List PyData} {vs : List V} {i : Nat} {v : V}, RpAll M H vs ds → vs[i]? = some v → ∃ d, ds[i]? = some d ∧ Rp M H v d
  | [], _, i, v, h, e => by cases h; simp at e
  | d :: ds, _, 0, v, h, e => by
    cases h with
    | cons h1 _ =>
      have e1 := Option.some.inj e
      subst e1
      exact ⟨d, rfl, h1⟩
  | d :: ds, _, i + 1, v, h, e => by
    cases h with
    | cons _ h2 => exact RpAll.get (i := i) h2 e
theorem RpAll.getD : ∀ {ds : List PyData} {vs : List V} {i : Nat} {d : PyData}, RpAll M H vs ds → ds[i]? = some d → ∃ v, vs[i]? = some v ∧ Rp M H v d
  | [], _, i, v, h, e => by simp at e
  | d :: ds, _, 0, v, h, e => by
    cases h with
    | cons h1 _ =>
      have e1 := Option.some.inj e
      subst e1
      exact ⟨_, rfl, h1⟩
  | d :: ds, _, i + 1, v, h, e => by
    cases h with
    | cons _ h2 => exact RpAll.getD (i := i) h2 e
theorem RpAll.append : ∀ {ds es : List PyData} {vs us : List V}, RpAll M H vs ds → RpAll M H us es → RpAll M H (vs ++ us) (ds ++ es)
  | [], _, _, _, h, g => by cases h; exact g
  | d :: ds, _, _, _, h, g => by
    cases h with
    | cons h1 h2 => exact .cons h1 (RpAll.append h2 g)
theorem RpAll.take : ∀ (n : Nat) {ds : List PyData} {vs : List V}, RpAll M H vs ds → RpAll M H (vs.take n) (ds.take n)
  | 0, _, _, _ => .nil
  | n + 1, [], _, h => by cases h; exact .nil
  | n + 1, d :: ds, _, h => by
    cases h with
    | cons h1 h2 => exact .cons h1 (RpAll.take n h2)
theorem RpAll.drop : ∀ (n : Nat) {ds : List PyData} {vs : List V}, RpAll M H vs ds → RpAll M H (vs.drop n) (ds.drop n)
  | 0, _, _, h => h
  | n + 1, [], _, h => by cases h; exact .nil
  | n + 1, d :: ds, _, h => by
    cases h with
    | cons h1 h2 => exact RpAll.drop n h2
theorem RpAll.one {v : V} {d : PyData} (h : Rp M H v d) : RpAll M H [v] [d] := .cons h .nil
theorem RpAll.eraseIdx : ∀ (n : Nat) {ds : List PyData} {vs : List V}, RpAll M H vs ds → RpAll M H (vs.eraseIdx n) (ds.eraseIdx n)
  | _, [], _, h => by cases h; exact .nil
  | 0, d :: ds, _, h => by
    cases h with
    | cons h1 h2 => exact h2
  | n + 1, d :: ds, _, h => by
    cases h with
    | cons h1 h2 => exact .cons h1 (RpAll.eraseIdx n h2)
theorem RpAll.ints : ∀ (ns : List Int), RpAll M H (ns.map V.int) (ns.map PyData.int)
  | [] => .nil
  | n :: r => .cons (.int n) (RpAll.ints r)
theorem RpAll.ofInts : ∀ {ns : List Int} {vs : List V}, RpAll M H vs (ns.map PyData.int) → vs = ns.map V.int
  | [], _, h => by cases h; rfl
  | n :: r, _, h => by
    cases h with
    | cons h1 h2 =>
      cases h1
      rw [RpAll.ofInts h2]
      rfl
end

/-- a fresh address may be written from now on -/
theorem rd_ne {H : Hp} {a p : Addr} {u : HO} (h : Rd H a u) (n : H p = none) : a ≠ p := fun e => by
  subst e
  rcases h with h | ⟨o, h⟩ <;> rw [n] at h <;> cases h
theorem Rp.fresh {M : Ms} {H : Hp} {p : Addr} (hp : H p = none) : ∀ {d : PyData} {v : V}, Rp M H v d → Rp (also M p) H v d := fun {d v} h => Rp.imp (fun a u n r z => z.elim n fun e => rd_ne r hp e) (fun _ _ _ q => q) (fun _ _ _ q => q) d v h
theorem RpAll.fresh {M : Ms} {H : Hp} {p : Addr} (hp : H p = none) {ds : List PyData} {vs : List V} (h : RpAll M H vs ds) : RpAll (also M p) H vs ds := RpAll.imp (fun a u n r z => z.elim n fun e => rd_ne r hp e) (fun _ _ _ q => q) (fun _ _ _ q => q) ds vs h
theorem also_le {M : Ms} {p : Addr} : ∀ a, M a → also M p a := fun _ h => .inl h

/-! ### the bag of a script's numbers -/
structure Bag (K : PySem.W.Frag) (M : Ms) (H : Hp) (b : Addr) : Prop where
  w : M b
  h : ∃ (n : Addr) (ns : List Int) (p r t s : Int), H b = some (.lst [.ref n, .int p, .int r, .int t, .int s]) ∧ ¬ M n ∧ Rd H n (.lst (ns.map V.int)) ∧ 0 ≤ p ∧ 0 ≤ r
/-- only the object at b has changed -/
def At (b : Addr) (H H' : Hp) : Prop := ∀ a, a ≠ b → H' a = H a
theorem At.upd {b : Addr} {H : Hp} {o : HO} : At b H (upd H b o) := fun _ n => upd_ne n
theorem At.sx {b : Addr} {H H' : Hp} (h : At b H H') : Sx (one b) H H' := fun a o n e => (h a n).trans e
theorem Bag.there {K : PySem.W.Frag} {M : Ms} {H : Hp} {b : Addr} (h : Bag K M H b) : H b ≠ none := by
  obtain ⟨_, n, ns, p, r, t, s, e, _⟩ := h
  exact ne_none e
/-- other things are written, new ones made -/
theorem Bag.keep {K : PySem.W.Frag} {M N : Ms} {H H' : Hp} {b : Addr} (h : Bag K M H b) (s : Sx N H H') (nb : ¬ N b) (le : ∀ a, N a → M a) : Bag K M H' b := by
  obtain ⟨w, n, ns, p, r, t, sd, e, hn, rd, q⟩ := h
  exact ⟨w, n, ns, p, r, t, sd, s _ _ nb e, hn, sx_rd s (fun z => hn (le _ z)) rd, q⟩
theorem Bag.more {K : PySem.W.Frag} {M : Ms} {H : Hp} {b p : Addr} (h : Bag K M H b) (hp : H p = none) : Bag K (also M p) H b := by
  obtain ⟨w, n, ns, q, r, t, sd, e, hn, rd, z⟩ := h
  exact ⟨.inl w, n, ns, q, r, t, sd, e, fun m => m.elim hn fun e => rd_ne rd hp e, rd, z⟩
theorem Bag.less {K : PySem.W.Frag} {M N : Ms} {H : Hp} {b : Addr} (h : Bag K M H b) (w : N b) (f : ∀ a, N a → M a) : Bag K N H b := by
  obtain ⟨_, n, ns, q, r, t, sd, e, hn, rd, z⟩ := h
  exact ⟨w, n, ns, q, r, t, sd, e, fun m => hn (f _ m), rd, z⟩
theorem one_le {M : Ms} {b : Addr} (w : M b) : ∀ a, one b a → M a := fun a e => by
  have e' : a = b := e
  rw [e']
  exact w
/-- a draw: behind it the bag stands, all else too -/
def Dr (K : PySem.W.Frag) (M : Ms) (b : Addr) (H : Hp) (R : PyData → Prop) (Q : VK) : Prop := ∀ v H' d, Sx (one b) H H' → Gr H H' → Bag K M H' b → Rp M H' v d → R d → Q v H'
/-- a def that writes nothing -/
def Pu (M : Ms) (H : Hp) (R : PyData → Prop) (Q : VK) : Prop := ∀ v H' d, Same H H' → Rp M H' v d → R d → Q v H'

/-! ### loops that the layer has no short rule for -/
theorem for_enum {K : PySem.W.Frag} {a : Addr} {xs : List V} {g : TG} {tb : TS} {D : Ends} {σ : L2.St} {H : Hp} (Pv : Nat → L2.St → Hp → Prop) (h0 : Pv 0 σ H) (hl : ∀ i σ H, i ≤ xs.length → Pv i σ H → SqL K H a xs)
    (hs : ∀ i x T σ H, xs[i]? = some x → H T = none → Pv i σ H → g (.ref T) σ (upd H T (.tup [.int (i : Nat), x])) fun σ2 H2 => tb { D with nx := Pv (i + 1), ct := Pv (i + 1), bk := D.nx } σ2 H2) (hd : ∀ σ H, Pv xs.length σ H → D.nx σ H) :
    ∃ W : Nat → Nat → L2.St → Hp → Prop, (∃ m, W 0 m σ H) ∧ ∀ i m σ H, W i m σ H →
      ((Ite K a).stop i H ∧ D.nx σ H) ∨ ((Ite K a).go i H ∧ ∃ N : L2.St → Hp → Prop, (∀ σ' H', N σ' H' → ∃ m', m' < m ∧ W (i + 1) m' σ' H') ∧ ∀ x H', (Ite K a).yld i H x H' → g x σ H' fun σ2 H2 => tb { D with nx := N, ct := N, bk := D.nx } σ2 H2) := by
  refine ⟨fun i m σ H => m = xs.length - i ∧ i ≤ xs.length ∧ Pv i σ H, ⟨xs.length, by simp, Nat.zero_le _, h0⟩, ?_⟩
  rintro i m σ H ⟨rfl, hi, p⟩
  have q := hl i σ H hi p
  by_cases hlt : i < xs.length
  · refine .inr ⟨⟨xs, xs[i], q, by simp [hlt]⟩, Pv (i + 1), fun σ' H' p' => ⟨xs.length - (i + 1), by omega, rfl, hlt, p'⟩, fun x H' y => ?_⟩
    obtain ⟨T, z, rfl, hT, rfl, hz⟩ := y
    exact hs i z T σ _ (hz xs q) hT p
  · have e : i = xs.length := by omega
    subst e
    exact .inl ⟨⟨xs, q, Nat.le_refl _⟩, hd σ H p⟩

theorem seqIx {j n : Nat} (h : j < n) : seqIndex? (j : Int) n = some j := by
  unfold seqIndex?
  have h1 : ¬ ((j : Int) < 0) := by omega
  have h2 : (0 : Int) ≤ (j : Int) := by omega
  have h3 : (j : Int) < (n : Int) := by omega
  simp only [if_neg h1, decide_eq_true h2, decide_eq_true h3, Bool.and_self, if_true, Int.toNat_natCast]
theorem small1000000 {n : Nat} (h : n ≤ 1000000) : n < sizeLine := Nat.lt_of_le_of_lt h (by decide)
theorem At.gr {b : Addr} {H H' : Hp} (h : At b H H') (hb : H' b ≠ none) : Gr H H' := fun a n => by
  by_cases e : a = b
  · rw [e]
    exact hb
  · rw [h a e]
    exact n

/-- what did not stand needs no leave -/
theorem Sx.cut {M : Ms} {H H' : Hp} {p : Addr} (s : Sx (also M p) H H') (n : H p = none) : Sx M H H' := fun a o m e => s a o (fun z => z.elim m fun z => by
  rw [z, n] at e
  cases e) e

theorem str_len (x y : Str) : (x ++ y).length = x.length + y.length := by
  show (x.cps ++ y.cps).size = _
  rw [Array.size_append]
  rfl

theorem log2_10 {v : Int} (h0 : 0 ≤ v) (h1 : v < 10) : v.natAbs.log2 < 1920 := Nat.lt_of_le_of_lt (Nat.log2_le_self _) (by omega)
theorem dig_len {v : Int} (h0 : 0 ≤ v) (h1 : v < 10) : (Str.ofString (toString v)).length = 1 := by
  have h : v = 0 ∨ v = 1 ∨ v = 2 ∨ v = 3 ∨ v = 4 ∨ v = 5 ∨ v = 6 ∨ v = 7 ∨ v = 8 ∨ v = 9 := by omega
  rcases h with rfl | rfl | rfl | rfl | rfl | rfl | rfl | rfl | rfl | rfl <;> decide +kernel
def isLab : V → Bool
  | .str z => decide (z.length ≤ 30)
  | _ => false
theorem lab_all (xs : List V) (h : xs.all isLab = true) : ∀ v ∈ xs, ∃ z : Str, v = V.str z ∧ z.length ≤ 30 := fun v hv => by
  have h1 := List.all_eq_true.mp h v hv
  cases v with
  | str z => exact ⟨z, rfl, of_decide_eq_true h1⟩
  | _ => cases h1

theorem sz2 {x y : V} : [x, y].length ≤ sizeLine := by show 2 ≤ sizeLine; decide
/-! ### sizes of nodes -/
def mx (ns : List Int) : Int := ns.foldl (fun a b => if a < b then b else a) 0
theorem foldmx : ∀ (ns : List Int) (a : Int), a ≤ ns.foldl (fun a b => if a < b then b else a) a ∧ (∀ n ∈ ns, n ≤ ns.foldl (fun a b => if a < b then b else a) a) ∧ (ns.foldl (fun a b => if a < b then b else a) a = a ∨ ns.foldl (fun a b => if a < b then b else a) a ∈ ns)
  | [], a => ⟨Int.le_refl _, (fun _ h => nomatch h), .inl rfl⟩
  | n :: r, a => by
    have ih := foldmx r (if a < n then n else a)
    simp only [List.foldl_cons]
    obtain ⟨h1, h2, h3⟩ := ih
    refine ⟨?_, fun m hm => ?_, ?_⟩
    · split at h1 <;> split <;> omega
    · rcases List.mem_cons.mp hm with rfl | hm
      · split at h1 <;> split <;> omega
      · exact h2 m hm
    · rcases h3 with h3 | h3
      · by_cases c : a < n
        · right
          rw [if_pos c] at h3 ⊢
          rw [h3]
          exact List.mem_cons_self
        · left
          rw [if_neg c] at h3 ⊢
          exact h3
      · exact .inr (List.mem_cons_of_mem _ h3)
theorem mx_of {ns : List Int} {m : Int} (h0 : ∀ n ∈ ns, 0 ≤ n) (hm : m ∈ ns) (hle : ∀ y, y ∈ ns → y ≤ m) : m = mx ns := by
  obtain ⟨h1, h2, h3⟩ := foldmx ns 0
  have a := h2 m hm
  have b := h0 m hm
  unfold mx
  rcases h3 with h3 | h3
  · omega
  · have c := hle _ h3
    omega
theorem mx_take {ns : List Int} {i : Nat} {z : Int} (h : ns[i]? = some z) : mx (ns.take (i + 1)) = if mx (ns.take i) < z then z else mx (ns.take i) := by
  unfold mx
  rw [List.take_add_one, h, List.foldl_append]
  rfl
def sRow : Str := "row"
def sCol : Str := "col"
def szf (z : Str) (ps : List (Int × Int)) : Int × Int :=
  if ps = [] then (if z = sRow ∨ z = sCol then (0, 0) else ((z.length : Int), 1))
  else if z = sRow then ((ps.map (·.1)).sum, mx (ps.map (·.2))) else (mx (ps.map (·.1)), (ps.map (·.2)).sum)
/-- pairs -/
def pD (p : Int × Int) : PyData := .tuple [.int p.1, .int p.2]
theorem Rp.pair {M : Ms} {H : Hp} {v : V} {p : Int × Int} (h : Rp M H v (pD p)) : ∃ t, v = .ref t ∧ Rd H t (.tup [.int p.1, .int p.2]) := by
  cases h with
  | @tup a xs _ n s r =>
    cases r with
    | cons h1 h2 =>
      cases h2 with
      | cons h3 h4 =>
        cases h1
        cases h3
        cases h4
        exact ⟨a, rfl, s.rd⟩
theorem RpAll.pair {M : Ms} {H : Hp} {vs : List V} {ps : List (Int × Int)} {i : Nat} {v : V} (h : RpAll M H vs (ps.map pD)) (hv : vs[i]? = some v) : ∃ p t, ps[i]? = some p ∧ v = .ref t ∧ Rd H t (.tup [.int p.1, .int p.2]) := by
  obtain ⟨d, hd, hr⟩ := h.get hv
  rw [List.getElem?_map] at hd
  obtain ⟨p, hp, rfl⟩ := Option.map_eq_some_iff.mp hd
  obtain ⟨t, e, r⟩ := hr.pair
  exact ⟨p, t, hp, e, r⟩
theorem same_rd {H H' : Hp} {a : Addr} {u : HO} (s : Same H H') (h : Rd H a u) : Rd H' a u := sx_rd (M := fun _ => False) (Sx.same s) (fun z => z) h

/-! ### the layer's rules with the written part named, for comprehensions -/
section
variable {X : Cx} {K : PySem.W.Frag}
theorem ix_listK (h : X.K = K) : IxR X (rIxL K) := by subst h; exact ix_list
theorem ix_tupK (h : X.K = K) : IxR X (rIxT K) := by subst h; exact ix_tup
theorem sl_listK (h : X.K = K) : SlR X (rSlL K) := by subst h; exact sl_list
theorem sl_tupK (h : X.K = K) : SlR X (rSlA K) := by subst h; exact sl_tupA
theorem op_in_seqK (h : X.K = K) : OpR X (compareOp .In) (rIn K false) := by subst h; exact op_in_seq
theorem op_notIn_seqK (h : X.K = K) : OpR X (compareOp .NotIn) (rIn K true) := by subst h; exact op_notIn_seq
theorem op_catAK (h : X.K = K) : OpR X (binaryOp .Add) (rCatA K) := by subst h; exact op_catA
theorem op_eqDK (h : X.K = K) (hu : X.A.units + 64 < cLine) : OpR X (compareOp .Eq) (rEqD K) := by subst h; exact op_eqD hu
theorem op_neDK (h : X.K = K) (hu : X.A.units + 64 < cLine) : OpR X (compareOp .NotEq) (rNeD K) := by subst h; exact op_neD hu
def rLenS (K : PySem.W.Frag) : List V → Hp → VK → Prop := fun xs H Q => ∃ p ys, xs = [.ref p] ∧ (SqL K H p ys ∨ SqT K H p ys) ∧ Q (.int ys.length) H
theorem call_lenK (h : X.K = K) : CallR X (.builtin "len") (rLenS K) := by subst h; exact call_len_seq
def rListS (K : PySem.W.Frag) : List V → Hp → VK → Prop := fun xs H Q => ∃ p ys, xs = [.ref p] ∧ (SqL K H p ys ∨ SqT K H p ys) ∧ ∀ l, H l = none → Q (.ref l) (upd H l (.lst ys))
theorem call_listK (h : X.K = K) : CallR X (.type "list") (rListS K) := by subst h; exact call_list_of
def rTupS (K : PySem.W.Frag) : List V → Hp → VK → Prop := fun xs H Q => ∃ p ys, xs = [.ref p] ∧ ((SqL K H p ys ∧ ∀ l, H l = none → Q (.ref l) (upd H l (.tup ys))) ∨ (SqT K H p ys ∧ Q (.ref p) H))
theorem call_tupleK (h : X.K = K) : CallR X (.type "tuple") (rTupS K) := by subst h; exact call_tuple_of
theorem cr_sumK (h : X.K = K) (hc : X.calm = true) : CallR X (.builtin "sum") (rSum K) := by subst h; exact cr_sum hc
theorem cr_maxK (h : X.K = K) (hc : X.calm = true) : CallR X (.builtin "max") (rMax K) := by subst h; exact cr_max hc
theorem cr_minK (h : X.K = K) (hc : X.calm = true) : CallR X (.builtin "min") (rMin K) := by subst h; exact cr_min hc
theorem cr_anyK (h : X.K = K) (hc : X.calm = true) : CallR X (.builtin "any") (rAny K) := by subst h; exact cr_any hc
theorem cr_allK (h : X.K = K) (hc : X.calm = true) : CallR X (.builtin "all") (rAll K) := by subst h; exact cr_all hc
theorem call_isi1K (h : X.K = K) : CallR X (.builtin "isinstance") (rIsi K) := by subst h; exact call_isi
theorem call_isiTK (h : X.K = K) : CallR X (.builtin "isinstance") (rIsiT K) := by subst h; exact call_isiT
def tTruth (K : PySem.W.Frag) (ta : TE) : TT := fun σ H Q => ta σ H fun x H' => ∃ k, TruV K x H' k ∧ Q k H'
theorem pt_truthK {a : Expr} {ta : TE} (h : X.K = K) (ha : PE X a ta) (he : ∀ whole, isTrue a X.env whole = (do let v ← whole; standAt a.pos; holding [v] (truthy v))) : PT X a (tTruth K ta) := by subst h; exact pt_truth ha he
theorem pe_fldK {e : Expr} {f : Str} {pos : Pos} {ta : TE} (h : X.K = K) (he : PE X e ta) (hb : attributeBase e f X.env (eval e X.env) = eval e X.env) : PE X (.Attribute e f pos) (tFld K ta f) := by subst h; exact pe_fld he hb
theorem pi_listK {tg l : Expr} {tl : TE} (h : X.K = K) (hl : PE X l tl) : PI X tg l (iList K tl) := by subst h; exact pi_list hl
theorem pi_tupK {tg l : Expr} {tl : TE} (h : X.K = K) (hl : PE X l tl) : PI X tg l (iTup K tl) := by subst h; exact pi_tup hl
theorem pg_tupK {es : List Expr} {k : Nat} {t : TGs} {n : Nat} {pos : Pos} (hK : X.K = K) (hc : X.calm = true) (h : PGs X es t)
    (hn : (assignEach es X.env).length = n := by rfl) (hst : (assignEach es X.env).findIdx? (·.1) = none := by rfl) : PG X (.Tuple es k pos) (gTup K n t) := by subst hK; exact pg_tup hc h hn hst
theorem pi_enumK {e : Expr} {ta : TA} {p pos tpos : Pos} {elts : List Expr} {kk : Nat} (hK : X.K = K) (hg : Gl X "enumerate") (hm : X.mg "enumerate" = none) (ha : PA X [e] ta) (hs : starEach [e] X.env = [(false, eval e X.env)] := by rfl) :
    PI X (.Tuple elts kk tpos) (.Call (.Name "enumerate" p) [e] [] pos) (iEnum K ta) := by subst hK; exact pi_enum hg hm ha hs
theorem pi_zipK {e e2 : Expr} {ta : TA} {p pos tpos : Pos} {elts : List Expr} {kk : Nat} (hK : X.K = K) (hg : Gl X "zip") (hm : X.mg "zip" = none) (ha : PA X [e, e2] ta)
    (hs : starEach [e, e2] X.env = (false, eval e X.env) :: starEach [e2] X.env := by rfl) (hpl : (backTo pos (starEach [e2] X.env)).any (·.1) = false := by rfl) :
    PI X (.Tuple elts kk tpos) (.Call (.Name "zip" p) [e, e2] [] pos) (iZip K ta) := by subst hK; exact pi_zip hg hm ha hs hpl
end

/-- a comprehension over a list whose elements make nothing -/
theorem lc_vals {K : PySem.W.Frag} {a : Addr} {xs ys : List V} {g : TG} {tt : TT} {te : TE} {vs : List Nat} {σ : L2.St} {H : Hp} {D : Addr} {Qd : Hp → Prop} (hD : H D = none) (hS : SqL K H a xs) (hn : ys.length = xs.length) (hz : xs.length ≤ 1000000)
    (hs : ∀ (i : Nat) (x y : V) (H' : Hp) (C : VK) (N : Hp → Prop), xs[i]? = some x → ys[i]? = some y → Same H H' → C y H' → g x (wipe σ vs) H' fun σ2 H2 => wipe σ2 vs = wipe σ vs ∧ tt σ2 H2 fun b H3 => if b = true then te σ2 H3 C else N H3)
    (hd : ∀ H', Same H H' → H' D = some (.lst ys) → Qd H') :
    ∃ W : Nat → Nat → Hp → Prop, (∃ m, W 0 m (upd H D (.lst []))) ∧ ∀ i m H, W i m H →
      ((Itl K a).stop i H ∧ Qd H) ∨ ((Itl K a).go i H ∧ ∃ Nx : Hp → Prop, (∀ H', Nx H' → ∃ m', m' < m ∧ W (i + 1) m' H') ∧ ∀ x H', (Itl K a).yld i H x H' → g x (wipe σ vs) H' fun σ2 H2 => wipe σ2 vs = wipe σ vs ∧ tt σ2 H2 fun b H3 =>
        if b = true then te σ2 H3 fun y H4 => ∃ acc, H4 D = some (.lst acc) ∧ acc.length < sizeLine ∧ Nx (upd H4 D (.lst (acc ++ [y]))) else Nx H3) := by
  refine lc_list (K := K) (a := a) (xs := xs) (fun i H' => Same H H' ∧ H' D = some (.lst (ys.take i))) ⟨same_new hD, by rw [upd_same]; rfl⟩ (fun i H' _ p => p.1.seq hS) (fun i x H' hx p => ?_) (fun H' p => ?_)
  · have hi : i < ys.length := by
      rw [hn]
      exact (List.getElem?_eq_some_iff.mp hx).1
    refine hs i x ys[i] H' _ _ hx (List.getElem?_eq_getElem hi) p.1 ⟨_, p.2, ?_, fun c o e => ?_, ?_⟩
    · rw [List.length_take]
      exact small1000000 (by omega)
    · rw [upd_ne (ne_of_none e hD)]
      exact p.1 c o e
    · rw [upd_same, List.take_add_one, List.getElem?_eq_getElem hi]
      rfl
  · refine hd H' p.1 ?_
    have e := p.2
    rw [← hn, List.take_length] at e
    exact e
theorem same_sqt {K : PySem.W.Frag} {H H' : Hp} {a : Addr} {xs : List V} (s : Same H H') (h : SqT K H a xs) : SqT K H' a xs := sx_t (M := fun _ => False) (Sx.same s) (fun z => z) h
/-- a comprehension over a tuple whose elements make nothing -/
theorem lc_valsT {K : PySem.W.Frag} {a : Addr} {xs ys : List V} {g : TG} {tt : TT} {te : TE} {vs : List Nat} {σ : L2.St} {H : Hp} {D : Addr} {Qd : Hp → Prop} (hD : H D = none) (hS : SqT K H a xs) (hn : ys.length = xs.length) (hz : xs.length ≤ 1000000)
    (hs : ∀ (i : Nat) (x y : V) (H' : Hp) (C : VK) (N : Hp → Prop), xs[i]? = some x → ys[i]? = some y → Same H H' → C y H' → g x (wipe σ vs) H' fun σ2 H2 => wipe σ2 vs = wipe σ vs ∧ tt σ2 H2 fun b H3 => if b = true then te σ2 H3 C else N H3)
    (hd : ∀ H', Same H H' → H' D = some (.lst ys) → Qd H') :
    ∃ W : Nat → Nat → Hp → Prop, (∃ m, W 0 m (upd H D (.lst []))) ∧ ∀ i m H, W i m H →
      ((Itt K a).stop i H ∧ Qd H) ∨ ((Itt K a).go i H ∧ ∃ Nx : Hp → Prop, (∀ H', Nx H' → ∃ m', m' < m ∧ W (i + 1) m' H') ∧ ∀ x H', (Itt K a).yld i H x H' → g x (wipe σ vs) H' fun σ2 H2 => wipe σ2 vs = wipe σ vs ∧ tt σ2 H2 fun b H3 =>
        if b = true then te σ2 H3 fun y H4 => ∃ acc, H4 D = some (.lst acc) ∧ acc.length < sizeLine ∧ Nx (upd H4 D (.lst (acc ++ [y]))) else Nx H3) := by
  refine lc_tup (K := K) (a := a) (xs := xs) (fun i H' => Same H H' ∧ H' D = some (.lst (ys.take i))) ⟨same_new hD, by rw [upd_same]; rfl⟩ (fun i H' _ p => same_sqt p.1 hS) (fun i x H' hx p => ?_) (fun H' p => ?_)
  · have hi : i < ys.length := by
      rw [hn]
      exact (List.getElem?_eq_some_iff.mp hx).1
    refine hs i x ys[i] H' _ _ hx (List.getElem?_eq_getElem hi) p.1 ⟨_, p.2, ?_, fun c o e => ?_, ?_⟩
    · rw [List.length_take]
      exact small1000000 (by omega)
    · rw [upd_ne (ne_of_none e hD)]
      exact p.1 c o e
    · rw [upd_same, List.take_add_one, List.getElem?_eq_getElem hi]
      rfl
  · refine hd H' p.1 ?_
    have e := p.2
    rw [← hn, List.take_length] at e
    exact e

/-- two ways meet behind an if without else -/
theorem join2 {b : Bool} {A : Prop} {N : L2.St → Hp → Prop} {σ : L2.St} {H : Hp} (Pv : L2.St → Hp → Prop) (h1 : b = true → (∀ σ H, Pv σ H → N σ H) → A) (h2 : b = false → Pv σ H) (hN : ∀ σ H, Pv σ H → N σ H) : if b = true then A else N σ H := by
  cases b with
  | true =>
    rw [if_pos rfl]
    exact h1 rfl hN
  | false =>
    rw [if_neg Bool.false_ne_true]
    exact hN _ _ (h2 rfl)


theorem RpAll.rep {M : Ms} {H : Hp} {xs : List V} {ds : List PyData} (h : RpAll M H xs ds) : ∀ n : Nat, RpAll M H (List.replicate n xs).flatten (List.replicate n ds).flatten
  | 0 => .nil
  | n + 1 => by
    rw [List.replicate_succ, List.replicate_succ, List.flatten_cons, List.flatten_cons]
    exact h.append (RpAll.rep h n)
theorem Bag.same {K : PySem.W.Frag} {M : Ms} {H H' : Hp} {b : Addr} (h : Bag K M H b) (s : Same H H') : Bag K M H' b := h.keep (N := fun _ => False) (Sx.same s) (fun z => z) (fun _ z => z.elim)
/-- a list of data that may still be written -/
def Ld (M : Ms) (H : Hp) (a : Addr) (ds : List PyData) : Prop := ¬ M a ∧ ∃ xs, H a = some (.lst xs) ∧ RpAll M H xs ds
theorem Ld.rp {M : Ms} {H : Hp} {a : Addr} {ds : List PyData} (h : Ld M H a ds) : Rp M H (.ref a) (.list ds) := by
  obtain ⟨n, xs, e, r⟩ := h
  exact .lst n (.inl e) r
theorem Ld.sx {M : Ms} {H H' : Hp} {a : Addr} {ds : List PyData} (h : Ld M H a ds) (s : Sx M H H') : Ld M H' a ds := by
  obtain ⟨n, xs, e, r⟩ := h
  exact ⟨n, xs, s _ _ n e, r.sx s⟩
theorem Ld.new {M : Ms} {H : Hp} {a : Addr} {xs : List V} {ds : List PyData} (m : Mk M H) (h : H a = none) (r : RpAll M H xs ds) : Ld M (upd H a (.lst xs)) a ds := ⟨m.out h, xs, upd_same, r.sx (Sx.new h)⟩
/-- a comprehension over a list: each element a datum, made on the way -/
theorem lc_data {K : PySem.W.Frag} {a : Addr} {xs : List V} {ys : List PyData} {g : TG} {tt : TT} {te : TE} {vs : List Nat} {σ : L2.St} {H : Hp} {D : Addr} {Qd : Hp → Prop} (M : Ms) (hM : Mk M H) (hD : H D = none) (hS : SqL K H a xs) (hn : ys.length = xs.length) (hz : xs.length ≤ 1000000)
    (hs : ∀ (i : Nat) (x : V) (y : PyData) (H' : Hp) (C : VK) (N : Hp → Prop), xs[i]? = some x → ys[i]? = some y → Same H H' → Mk (also M D) H' → (∀ v H2, Same H' H2 → Rp (also M D) H2 v y → C v H2) → g x (wipe σ vs) H' fun σ2 H2 => wipe σ2 vs = wipe σ vs ∧ tt σ2 H2 fun b H3 => if b = true then te σ2 H3 C else N H3)
    (hd : ∀ H', Same H H' → Ld M H' D ys → Qd H') :
    ∃ W : Nat → Nat → Hp → Prop, (∃ m, W 0 m (upd H D (.lst []))) ∧ ∀ i m H, W i m H →
      ((Itl K a).stop i H ∧ Qd H) ∨ ((Itl K a).go i H ∧ ∃ Nx : Hp → Prop, (∀ H', Nx H' → ∃ m', m' < m ∧ W (i + 1) m' H') ∧ ∀ x H', (Itl K a).yld i H x H' → g x (wipe σ vs) H' fun σ2 H2 => wipe σ2 vs = wipe σ vs ∧ tt σ2 H2 fun b H3 =>
        if b = true then te σ2 H3 fun y H4 => ∃ acc, H4 D = some (.lst acc) ∧ acc.length < sizeLine ∧ Nx (upd H4 D (.lst (acc ++ [y]))) else Nx H3) := by
  refine lc_list (K := K) (a := a) (xs := xs) (fun i H' => Same H H' ∧ ∃ acc, H' D = some (.lst acc) ∧ RpAll (also M D) H' acc (ys.take i)) ⟨same_new hD, [], upd_same, by rw [List.take_zero]; exact .nil⟩ (fun i H' _ p => p.1.seq hS) (fun i x H' hx p => ?_) (fun H' p => ?_)
  · obtain ⟨s, acc, e, r⟩ := p
    have hi : i < ys.length := by
      rw [hn]
      exact (List.getElem?_eq_some_iff.mp hx).1
    have hl := r.length
    rw [List.length_take] at hl
    refine hs i x ys[i] H' _ _ hx (List.getElem?_eq_getElem hi) s ((hM.gr (Gr.same s)).also (ne_none e)) fun v H2 s2 rv => ?_
    refine ⟨acc, s2 _ _ e, small1000000 (by omega), fun c o q => ?_, acc ++ [v], upd_same, ?_⟩
    · rw [upd_ne (ne_of_none q hD)]
      exact s2 _ _ (s c o q)
    · rw [List.take_add_one, List.getElem?_eq_getElem hi]
      exact ((r.sx (Sx.same s2)).append (.one rv)).sx (Sx.put (.inr rfl))
  · obtain ⟨s, acc, e, r⟩ := p
    rw [← hn, List.take_length] at r
    exact hd H' s ⟨hM.out hD, acc, e, r.less also_le⟩

theorem cut_hi (xs : List V) (n : Nat) : cutV xs none (some (n : Int)) = xs.take n := by
  unfold cutV
  rw [show HT.sIx xs.length 0 none = 0 from HT.sIx_none .., show HT.sIx xs.length xs.length (some (n : Int)) = min n xs.length from HT.sIx_nat _ _ n, List.drop_zero, Nat.sub_zero]
  rw [List.take_eq_take_iff]
  omega

theorem szK {n : Nat} (h : Nat.ble n 1000 = true) : n ≤ sizeLine := Nat.le_of_lt (small1000 (Nat.le_of_ble_eq_true h))

/-- what holds behind a statement, said once for all its ways -/
theorem seq_join {t u : TS} {D : Ends} {σ : L2.St} {H : Hp} (Pv : L2.St → Hp → Prop) (h : (∀ σ H, Pv σ H → u D σ H) → t { D with nx := u D } σ H) (hN : ∀ σ H, Pv σ H → u D σ H) : tSeq t u D σ H := h hN

theorem lc_str {z : Str} {g : TG} {tt : TT} {te : TE} {vs : List Nat} {σ : L2.St} {H1 : Hp} {D : Addr} {Qd : Hp → Prop} (Pv : Nat → Hp → Prop) (h0 : Pv 0 (upd H1 D (.lst [])))
    (hs : ∀ i c H, z.cps[i]? = some c → Pv i H → g (.str ⟨#[c]⟩) (wipe σ vs) H fun σ2 H2 => wipe σ2 vs = wipe σ vs ∧ tt σ2 H2 fun b H3 =>
      if b = true then te σ2 H3 fun y H4 => ∃ acc, H4 D = some (.lst acc) ∧ acc.length < sizeLine ∧ Pv (i + 1) (upd H4 D (.lst (acc ++ [y]))) else Pv (i + 1) H3) (hd : ∀ H, Pv z.cps.size H → Qd H) :
    ∃ W : Nat → Nat → Hp → Prop, (∃ m, W 0 m (upd H1 D (.lst []))) ∧ ∀ i m H, W i m H →
      ((Its z).stop i H ∧ Qd H) ∨ ((Its z).go i H ∧ ∃ Nx : Hp → Prop, (∀ H', Nx H' → ∃ m', m' < m ∧ W (i + 1) m' H') ∧ ∀ x H', (Its z).yld i H x H' → g x (wipe σ vs) H' fun σ2 H2 => wipe σ2 vs = wipe σ vs ∧ tt σ2 H2 fun b H3 =>
        if b = true then te σ2 H3 fun y H4 => ∃ acc, H4 D = some (.lst acc) ∧ acc.length < sizeLine ∧ Nx (upd H4 D (.lst (acc ++ [y]))) else Nx H3) := by
  refine ⟨fun i m H => m = z.cps.size - i ∧ i ≤ z.cps.size ∧ Pv i H, ⟨_, rfl, Nat.zero_le _, h0⟩, ?_⟩
  rintro i m H ⟨rfl, hi, p⟩
  by_cases hlt : i < z.cps.size
  · refine .inr ⟨hlt, Pv (i + 1), fun H' p' => ⟨z.cps.size - (i + 1), by omega, rfl, hlt, p'⟩, fun x H' y => ?_⟩
    obtain ⟨e, c, hc, rfl⟩ := y
    subst e
    exact hs i c _ hc p
  · have e : i = z.cps.size := by omega
    subst e
    exact .inl ⟨Nat.le_refl _, hd H p⟩
/-- a comprehension over a text whose elements make nothing -/
theorem lc_valsS {z : Str} {ys : List V} {g : TG} {tt : TT} {te : TE} {vs : List Nat} {σ : L2.St} {H : Hp} {D : Addr} {Qd : Hp → Prop} (hD : H D = none) (hn : ys.length = z.cps.size) (hz : z.cps.size ≤ 1000000)
    (hs : ∀ (i : Nat) (c : Nat) (y : V) (H' : Hp) (C : VK) (N : Hp → Prop), z.cps[i]? = some c → ys[i]? = some y → Same H H' → C y H' → g (.str ⟨#[c]⟩) (wipe σ vs) H' fun σ2 H2 => wipe σ2 vs = wipe σ vs ∧ tt σ2 H2 fun b H3 => if b = true then te σ2 H3 C else N H3)
    (hd : ∀ H', Same H H' → H' D = some (.lst ys) → Qd H') :
    ∃ W : Nat → Nat → Hp → Prop, (∃ m, W 0 m (upd H D (.lst []))) ∧ ∀ i m H, W i m H →
      ((Its z).stop i H ∧ Qd H) ∨ ((Its z).go i H ∧ ∃ Nx : Hp → Prop, (∀ H', Nx H' → ∃ m', m' < m ∧ W (i + 1) m' H') ∧ ∀ x H', (Its z).yld i H x H' → g x (wipe σ vs) H' fun σ2 H2 => wipe σ2 vs = wipe σ vs ∧ tt σ2 H2 fun b H3 =>
        if b = true then te σ2 H3 fun y H4 => ∃ acc, H4 D = some (.lst acc) ∧ acc.length < sizeLine ∧ Nx (upd H4 D (.lst (acc ++ [y]))) else Nx H3) := by
  refine lc_str (z := z) (fun i H' => Same H H' ∧ H' D = some (.lst (ys.take i))) ⟨same_new hD, by rw [upd_same]; rfl⟩ (fun i c H' hc p => ?_) (fun H' p => ?_)
  · have hi : i < ys.length := by
      rw [hn]
      exact (Array.getElem?_eq_some_iff.mp hc).1
    refine hs i c ys[i] H' _ _ hc (List.getElem?_eq_getElem hi) p.1 ⟨_, p.2, ?_, fun c o e => ?_, ?_⟩
    · rw [List.length_take]
      exact small1000000 (by omega)
    · rw [upd_ne (ne_of_none e hD)]
      exact p.1 c o e
    · rw [upd_same, List.take_add_one, List.getElem?_eq_getElem hi]
      rfl
  · refine hd H' p.1 ?_
    have e := p.2
    rw [← hn, List.take_length] at e
    exact e

theorem cut1 (y : V) (r : List V) : cutV (y :: r) (some 1) none = r := by
  unfold cutV
  rw [show HT.sIx (y :: r).length 0 (some 1) = min 1 (y :: r).length from HT.sIx_nat (y :: r).length 0 1, HT.sIx_none]
  rw [show min 1 (y :: r).length = 1 by
      rw [List.length_cons]
      omega]
  show List.take ((y :: r).length - 1) r = r
  rw [List.length_cons, Nat.add_sub_cancel]
  exact List.take_length

theorem rd_ty {K : PySem.W.Frag} {H : Hp} {a : Addr} {xs : List V} (h : Rd H a (.tup xs)) : TyX K H (.ref a) (.type "tuple") := by
  rcases h with h | ⟨o, h⟩
  · exact .base (.tup h)
  · exact .fTuple h
/-- a comprehension over a tuple: each element a datum, made on the way -/
theorem lc_dataT {K : PySem.W.Frag} {a : Addr} {xs : List V} {ys : List PyData} {g : TG} {tt : TT} {te : TE} {vs : List Nat} {σ : L2.St} {H : Hp} {D : Addr} {Qd : Hp → Prop} (M : Ms) (hM : Mk M H) (hD : H D = none) (hS : SqT K H a xs) (hn : ys.length = xs.length) (hz : xs.length ≤ 1000000)
    (hs : ∀ (i : Nat) (x : V) (y : PyData) (H' : Hp) (C : VK) (N : Hp → Prop), xs[i]? = some x → ys[i]? = some y → Same H H' → Mk (also M D) H' → (∀ v H2, Same H' H2 → Rp (also M D) H2 v y → C v H2) → g x (wipe σ vs) H' fun σ2 H2 => wipe σ2 vs = wipe σ vs ∧ tt σ2 H2 fun b H3 => if b = true then te σ2 H3 C else N H3)
    (hd : ∀ H', Same H H' → Ld M H' D ys → Qd H') :
    ∃ W : Nat → Nat → Hp → Prop, (∃ m, W 0 m (upd H D (.lst []))) ∧ ∀ i m H, W i m H →
      ((Itt K a).stop i H ∧ Qd H) ∨ ((Itt K a).go i H ∧ ∃ Nx : Hp → Prop, (∀ H', Nx H' → ∃ m', m' < m ∧ W (i + 1) m' H') ∧ ∀ x H', (Itt K a).yld i H x H' → g x (wipe σ vs) H' fun σ2 H2 => wipe σ2 vs = wipe σ vs ∧ tt σ2 H2 fun b H3 =>
        if b = true then te σ2 H3 fun y H4 => ∃ acc, H4 D = some (.lst acc) ∧ acc.length < sizeLine ∧ Nx (upd H4 D (.lst (acc ++ [y]))) else Nx H3) := by
  refine lc_tup (K := K) (a := a) (xs := xs) (fun i H' => Same H H' ∧ ∃ acc, H' D = some (.lst acc) ∧ RpAll (also M D) H' acc (ys.take i)) ⟨same_new hD, [], upd_same, by rw [List.take_zero]; exact .nil⟩ (fun i H' _ p => same_sqt p.1 hS) (fun i x H' hx p => ?_) (fun H' p => ?_)
  · obtain ⟨s, acc, e, r⟩ := p
    have hi : i < ys.length := by
      rw [hn]
      exact (List.getElem?_eq_some_iff.mp hx).1
    have hl := r.length
    rw [List.length_take] at hl
    refine hs i x ys[i] H' _ _ hx (List.getElem?_eq_getElem hi) s ((hM.gr (Gr.same s)).also (ne_none e)) fun v H2 s2 rv => ?_
    refine ⟨acc, s2 _ _ e, small1000000 (by omega), fun c o q => ?_, acc ++ [v], upd_same, ?_⟩
    · rw [upd_ne (ne_of_none q hD)]
      exact s2 _ _ (s c o q)
    · rw [List.take_add_one, List.getElem?_eq_getElem hi]
      exact ((r.sx (Sx.same s2)).append (.one rv)).sx (Sx.put (.inr rfl))
  · obtain ⟨s, acc, e, r⟩ := p
    rw [← hn, List.take_length] at r
    exact hd H' s ⟨hM.out hD, acc, e, r.less also_le⟩


/-- a list that is made beside stays away -/
theorem same_put {H H' : Hp} {p : Addr} {o : HO} (s : Same H H') (h : H p = none) : Same H (upd H' p o) := fun a u e => by
  rw [upd_ne (ne_of_none e h)]
  exact s a u e
end D

namespace D
open PySem PySem.Spec PyProof.Rows L2
/-! ### forms -/
inductive Fm where
  | is (n : Int) | get (x : Str) | sum (f g : Fm) | same (f g : Fm) | pick (f g h : Fm)
def sIs : Str := "is"
def sGet : Str := "get"
def sSum : Str := "sum"
def sSame : Str := "same"
def sPick : Str := "pick"
namespace Fm
def word : Fm → Str
  | .is _ => sIs | .get _ => sGet | .sum _ _ => sSum | .same _ _ => sSame | .pick _ _ _ => sPick
def enc : Fm → PyData
  | .is n => .tuple [.str sIs, .int n]
  | .get x => .tuple [.str sGet, .str x]
  | .sum f g => .tuple [.str sSum, f.enc, g.enc]
  | .same f g => .tuple [.str sSame, f.enc, g.enc]
  | .pick f g h => .tuple [.str sPick, f.enc, g.enc, h.enc]
def subs : Fm → List Fm
  | .is _ => [] | .get _ => [] | .sum f g => [f, g] | .same f g => [f, g] | .pick f g h => [f, g, h]
def dep : Fm → Nat
  | .is _ => 1 | .get _ => 1
  | .sum f g => max f.dep g.dep + 1 | .same f g => max f.dep g.dep + 1
  | .pick f g h => max f.dep (max g.dep h.dep) + 1
def size : Fm → Nat
  | .is _ => 1 | .get _ => 1
  | .sum f g => f.size + g.size + 1 | .same f g => f.size + g.size + 1
  | .pick f g h => f.size + g.size + h.size + 1
def val (ρ : Str → Int) : Fm → Int
  | .is n => n | .get x => ρ x
  | .sum f g => (f.val ρ + g.val ρ) % 10
  | .same f g => if f.val ρ = g.val ρ then 1 else 0
  | .pick f g h => if f.val ρ = 0 then h.val ρ else g.val ρ
def ok (nm : Str → Prop) : Fm → Prop
  | .is n => 0 ≤ n ∧ n ≤ 9 | .get x => nm x
  | .sum f g => f.ok nm ∧ g.ok nm | .same f g => f.ok nm ∧ g.ok nm
  | .pick f g h => f.ok nm ∧ g.ok nm ∧ h.ok nm
theorem dep_pos : ∀ f : Fm, 1 ≤ f.dep
  | .is _ => Nat.le_refl _ | .get _ => Nat.le_refl _
  | .sum f g => by show 1 ≤ max f.dep g.dep + 1; omega
  | .same f g => by show 1 ≤ max f.dep g.dep + 1; omega
  | .pick f g h => by show 1 ≤ max f.dep (max g.dep h.dep) + 1; omega
theorem val_range {ρ : Str → Int} {nm : Str → Prop} (h : ∀ x, nm x → 0 ≤ ρ x ∧ ρ x ≤ 9) : ∀ f : Fm, f.ok nm → 0 ≤ f.val ρ ∧ f.val ρ ≤ 9
  | .is n, o => o
  | .get x, o => h x o
  | .sum f g, o => by
    show 0 ≤ (f.val ρ + g.val ρ) % 10 ∧ (f.val ρ + g.val ρ) % 10 ≤ 9
    omega
  | .same f g, o => by
    show 0 ≤ (if f.val ρ = g.val ρ then (1 : Int) else 0) ∧ (if f.val ρ = g.val ρ then (1 : Int) else 0) ≤ 9
    split <;> decide
  | .pick f g k, o => by
    show 0 ≤ (if f.val ρ = 0 then k.val ρ else g.val ρ) ∧ (if f.val ρ = 0 then k.val ρ else g.val ρ) ≤ 9
    split
    · exact val_range h k o.2.2
    · exact val_range h g o.2.1
end Fm
section
variable {M : Ms} {H : Hp} {v : V}
theorem Rp.tupN {ds : List PyData} (h : Rp M H v (.tuple ds)) : ∃ a xs, v = .ref a ∧ ¬ M a ∧ Rd H a (.tup xs) ∧ RpAll M H xs ds := by
  cases h with
  | @tup a xs _ n s r => exact ⟨a, xs, rfl, n, s.rd, r⟩
theorem Rp.tupX {ds : List PyData} (h : Rp M H v (.tuple ds)) : ∃ a xs, v = .ref a ∧ ¬ M a ∧ H a = some (.tup xs) ∧ RpAll M H xs ds := by
  cases h with
  | @tup a xs _ n s r => exact ⟨a, xs, rfl, n, s.at, r⟩
theorem Rp.lstN {ds : List PyData} (h : Rp M H v (.list ds)) : ∃ a xs, v = .ref a ∧ ¬ M a ∧ Rd H a (.lst xs) ∧ RpAll M H xs ds := by
  cases h with
  | @lst a xs _ n s r => exact ⟨a, xs, rfl, n, s, r⟩
theorem Rp.int_inv {i : Int} (h : Rp M H v (.int i)) : v = .int i := by cases h; rfl
theorem Rp.str_inv {x : Str} (h : Rp M H v (.str x)) : v = .str x := by cases h; rfl
theorem RpAll.inv1 {xs : List V} {d1 : PyData} (h : RpAll M H xs [d1]) : ∃ v1, xs = [v1] ∧ Rp M H v1 d1 := by
  cases h with | cons h1 h2 => cases h2; exact ⟨_, rfl, h1⟩
theorem RpAll.inv2 {xs : List V} {d1 d2 : PyData} (h : RpAll M H xs [d1, d2]) : ∃ v1 v2, xs = [v1, v2] ∧ Rp M H v1 d1 ∧ Rp M H v2 d2 := by
  cases h with | cons h1 h2 => obtain ⟨v2, rfl, r2⟩ := h2.inv1; exact ⟨_, _, rfl, h1, r2⟩
theorem RpAll.inv3 {xs : List V} {d1 d2 d3 : PyData} (h : RpAll M H xs [d1, d2, d3]) : ∃ v1 v2 v3, xs = [v1, v2, v3] ∧ Rp M H v1 d1 ∧ Rp M H v2 d2 ∧ Rp M H v3 d3 := by
  cases h with | cons h1 h2 => obtain ⟨v2, v3, rfl, r2, r3⟩ := h2.inv2; exact ⟨_, _, _, rfl, h1, r2, r3⟩
theorem RpAll.inv4 {xs : List V} {d1 d2 d3 d4 : PyData} (h : RpAll M H xs [d1, d2, d3, d4]) : ∃ v1 v2 v3 v4, xs = [v1, v2, v3, v4] ∧ Rp M H v1 d1 ∧ Rp M H v2 d2 ∧ Rp M H v3 d3 ∧ Rp M H v4 d4 := by
  cases h with | cons h1 h2 => obtain ⟨v2, v3, v4, rfl, r2, r3, r4⟩ := h2.inv3; exact ⟨_, _, _, _, rfl, h1, r2, r3, r4⟩
/-- what stands of a form -/
inductive FmAt (M : Ms) (H : Hp) : Fm → List V → Prop
  | is (n : Int) : FmAt M H (.is n) [.str sIs, .int n]
  | get (x : Str) : FmAt M H (.get x) [.str sGet, .str x]
  | sum {f g : Fm} {u w : V} (a : Rp M H u f.enc) (b : Rp M H w g.enc) : FmAt M H (.sum f g) [.str sSum, u, w]
  | same {f g : Fm} {u w : V} (a : Rp M H u f.enc) (b : Rp M H w g.enc) : FmAt M H (.same f g) [.str sSame, u, w]
  | pick {f g h : Fm} {u w z : V} (a : Rp M H u f.enc) (b : Rp M H w g.enc) (c : Rp M H z h.enc) : FmAt M H (.pick f g h) [.str sPick, u, w, z]
theorem Rp.form {f : Fm} (h : Rp M H v f.enc) : ∃ a xs, v = .ref a ∧ ¬ M a ∧ Rd H a (.tup xs) ∧ FmAt M H f xs := by
  cases f with
  | is n =>
    obtain ⟨a, xs, rfl, n, s, r⟩ := Rp.tupN h
    obtain ⟨v1, v2, rfl, r1, r2⟩ := r.inv2
    cases r1; cases r2
    exact ⟨a, _, rfl, n, s, .is _⟩
  | get x =>
    obtain ⟨a, xs, rfl, n, s, r⟩ := Rp.tupN h
    obtain ⟨v1, v2, rfl, r1, r2⟩ := r.inv2
    cases r1; cases r2
    exact ⟨a, _, rfl, n, s, .get _⟩
  | sum f g =>
    obtain ⟨a, xs, rfl, n, s, r⟩ := Rp.tupN h
    obtain ⟨v1, v2, v3, rfl, r1, r2, r3⟩ := r.inv3
    cases r1
    exact ⟨a, _, rfl, n, s, .sum r2 r3⟩
  | same f g =>
    obtain ⟨a, xs, rfl, n, s, r⟩ := Rp.tupN h
    obtain ⟨v1, v2, v3, rfl, r1, r2, r3⟩ := r.inv3
    cases r1
    exact ⟨a, _, rfl, n, s, .same r2 r3⟩
  | pick f g k =>
    obtain ⟨a, xs, rfl, n, s, r⟩ := Rp.tupN h
    obtain ⟨v1, v2, v3, v4, rfl, r1, r2, r3, r4⟩ := r.inv4
    cases r1
    exact ⟨a, _, rfl, n, s, .pick r2 r3 r4⟩
theorem FmAt.rp {f : Fm} {xs : List V} {a : Addr} (h : FmAt M H f xs) (n : ¬ M a) (s : RdT H a xs) : Rp M H (.ref a) f.enc := by
  cases h with
  | is k => exact .tup n s (.cons (.str _) (.one (.int _)))
  | get x => exact .tup n s (.cons (.str _) (.one (.str _)))
  | sum a b => exact .tup n s (.cons (.str _) (.cons a (.one b)))
  | same a b => exact .tup n s (.cons (.str _) (.cons a (.one b)))
  | pick a b c => exact .tup n s (.cons (.str _) (.cons a (.cons b (.one c))))
end

/-! ### names -/
def isNm (x : Str) : Prop := 1 ≤ x.length ∧ x.length ≤ 8 ∧ ∀ c ∈ x.cps.toList, 97 ≤ c ∧ c ≤ 122
def addN (acc : List Str) (n : Str) : List Str := if n ∈ acc then acc else acc ++ [n]
def Fm.names : Fm → List Str
  | .is _ => [] | .get x => [x]
  | .sum f g => g.names.foldl addN (f.names.foldl addN [])
  | .same f g => g.names.foldl addN (f.names.foldl addN [])
  | .pick f g h => h.names.foldl addN (g.names.foldl addN (f.names.foldl addN []))
theorem addN_mem {acc : List Str} {n x : Str} (h : x ∈ addN acc n) : x ∈ acc ∨ x = n := by
  unfold addN at h
  split at h
  · exact .inl h
  · rcases List.mem_append.mp h with h | h
    · exact .inl h
    · exact .inr (List.mem_singleton.mp h)
theorem addsN_mem : ∀ (ns acc : List Str) (x : Str), x ∈ ns.foldl addN acc → x ∈ acc ∨ x ∈ ns
  | [], acc, x, h => .inl h
  | n :: r, acc, x, h => by
    rcases addsN_mem r (addN acc n) x h with h | h
    · rcases addN_mem h with h | h
      · exact .inl h
      · exact .inr (by rw [h]; exact List.mem_cons_self)
    · exact .inr (List.mem_cons_of_mem _ h)
theorem Fm.names_ok {nm : Str → Prop} : ∀ f : Fm, f.ok nm → ∀ x ∈ f.names, nm x
  | .is _, _, x, h => nomatch h
  | .get y, o, x, h => by rw [List.mem_singleton.mp h]; exact o
  | .sum f g, o, x, h => by
    rcases addsN_mem _ _ _ h with h | h
    · rcases addsN_mem _ _ _ h with h | h
      · exact nomatch h
      · exact f.names_ok o.1 x h
    · exact g.names_ok o.2 x h
  | .same f g, o, x, h => by
    rcases addsN_mem _ _ _ h with h | h
    · rcases addsN_mem _ _ _ h with h | h
      · exact nomatch h
      · exact f.names_ok o.1 x h
    · exact g.names_ok o.2 x h
  | .pick f g k, o, x, h => by
    rcases addsN_mem _ _ _ h with h | h
    · rcases addsN_mem _ _ _ h with h | h
      · rcases addsN_mem _ _ _ h with h | h
        · exact nomatch h
        · exact f.names_ok o.1 x h
      · exact g.names_ok o.2.1 x h
    · exact k.names_ok o.2.2 x h
theorem addN_len (acc : List Str) (n : Str) : (addN acc n).length ≤ acc.length + 1 := by
  unfold addN
  split
  · omega
  · rw [List.length_append]
    exact Nat.le_refl _
theorem addsN_len : ∀ (ns acc : List Str), (ns.foldl addN acc).length ≤ acc.length + ns.length
  | [], acc => Nat.le_refl _
  | n :: r, acc => by
    have h1 := addsN_len r (addN acc n)
    have h2 := addN_len acc n
    show (r.foldl addN (addN acc n)).length ≤ acc.length + (r.length + 1)
    omega
theorem Fm.names_len : ∀ f : Fm, f.names.length ≤ f.size
  | .is _ => Nat.zero_le _
  | .get _ => Nat.le_refl _
  | .sum f g => by
    have h1 := f.names_len; have h2 := g.names_len; have h3 := addsN_len f.names []; have h4 := addsN_len g.names (f.names.foldl addN [])
    show (g.names.foldl addN (f.names.foldl addN [])).length ≤ f.size + g.size + 1
    rw [List.length_nil] at h3
    omega
  | .same f g => by
    have h1 := f.names_len; have h2 := g.names_len; have h3 := addsN_len f.names []; have h4 := addsN_len g.names (f.names.foldl addN [])
    show (g.names.foldl addN (f.names.foldl addN [])).length ≤ f.size + g.size + 1
    rw [List.length_nil] at h3
    omega
  | .pick f g k => by
    have h1 := f.names_len; have h2 := g.names_len; have h3 := addsN_len f.names []; have h4 := addsN_len g.names (f.names.foldl addN [])
    have h5 := k.names_len; have h6 := addsN_len k.names (g.names.foldl addN (f.names.foldl addN []))
    show (k.names.foldl addN (g.names.foldl addN (f.names.foldl addN []))).length ≤ f.size + g.size + k.size + 1
    rw [List.length_nil] at h3
    omega
theorem Fm.size_le : ∀ (d : Nat) (f : Fm), f.dep ≤ d → f.size ≤ 4 ^ d
  | 0, f, h => absurd f.dep_pos (by omega)
  | d + 1, .is _, _ => Nat.pow_pos (by decide)
  | d + 1, .get _, _ => Nat.pow_pos (by decide)
  | d + 1, .sum f g, h => by
    have h0 : max f.dep g.dep + 1 ≤ d + 1 := h
    have h1 := Fm.size_le d f (by omega)
    have h2 := Fm.size_le d g (by omega)
    have h3 : 1 ≤ 4 ^ d := Nat.pow_pos (by decide)
    show f.size + g.size + 1 ≤ 4 ^ d * 4
    omega
  | d + 1, .same f g, h => by
    have h0 : max f.dep g.dep + 1 ≤ d + 1 := h
    have h1 := Fm.size_le d f (by omega)
    have h2 := Fm.size_le d g (by omega)
    have h3 : 1 ≤ 4 ^ d := Nat.pow_pos (by decide)
    show f.size + g.size + 1 ≤ 4 ^ d * 4
    omega
  | d + 1, .pick f g k, h => by
    have h0 : max f.dep (max g.dep k.dep) + 1 ≤ d + 1 := h
    have h1 := Fm.size_le d f (by omega)
    have h2 := Fm.size_le d g (by omega)
    have h4 := Fm.size_le d k (by omega)
    have h3 : 1 ≤ 4 ^ d := Nat.pow_pos (by decide)
    show f.size + g.size + k.size + 1 ≤ 4 ^ d * 4
    omega
theorem in_strs (n : Str) (acc : List Str) : inV (.str n) (acc.map V.str) = decide (n ∈ acc) := by
  unfold inV
  rw [List.any_map, Bool.eq_iff_iff, List.any_eq_true, decide_eq_true_iff]
  constructor
  · rintro ⟨x, hx, e⟩
    have e' : (x == n) = true := e
    rw [beq_iff_eq] at e'
    rw [← e']
    exact hx
  · intro h
    exact ⟨n, h, by show (n == n) = true; exact beq_self_eq_true n⟩
theorem flat_strs (acc : List Str) : (acc.map V.str).all flatV = true := by
  rw [List.all_map, List.all_eq_true]
  intro x _
  rfl
theorem RpAll.strs {M : Ms} {H : Hp} : ∀ (ns : List Str), RpAll M H (ns.map V.str) (ns.map PyData.str)
  | [] => .nil
  | n :: r => .cons (.str n) (RpAll.strs r)
theorem RpAll.ofStrs {M : Ms} {H : Hp} : ∀ {ns : List Str} {vs : List V}, RpAll M H vs (ns.map PyData.str) → vs = ns.map V.str
  | [], _, h => by cases h; rfl
  | n :: r, _, h => by
    cases h with
    | cons h1 h2 =>
      cases h1
      rw [RpAll.ofStrs h2]
      rfl

theorem sign_lo {c : Nat} (h : 97 ≤ c) : decide (({ cps := #[c] } : Str).cps.toList < (Str.ofString "a").cps.toList) = false := by
  rw [show (Str.ofString "a").cps.toList = [97] by decide +kernel, decide_eq_false_iff_not]
  show ¬ [c] < [97]
  rw [List.cons_lt_cons_iff]
  rintro (h1 | ⟨_, h1⟩)
  · omega
  · exact absurd h1 (by decide)
theorem sign_hi {c : Nat} (h : c ≤ 122) : decide ((Str.ofString "z").cps.toList < ({ cps := #[c] } : Str).cps.toList) = false := by
  rw [show (Str.ofString "z").cps.toList = [122] by decide +kernel, decide_eq_false_iff_not]
  show ¬ [122] < [c]
  rw [List.cons_lt_cons_iff]
  rintro (h1 | ⟨_, h1⟩)
  · omega
  · exact absurd h1 (by decide)

/-- a form with its level -/
def lvD (p : Fm × Nat) : PyData := .tuple [p.1.enc, .int (p.2 : Int)]
def szs (ps : List (Fm × Nat)) : Nat := (ps.map fun p => p.1.size).sum
theorem szs_app (ps qs : List (Fm × Nat)) : szs (ps ++ qs) = szs ps + szs qs := by
  unfold szs
  rw [List.map_append, List.sum_append_nat]
theorem szs_rev (ps : List (Fm × Nat)) : szs ps.reverse = szs ps := by
  unfold szs
  rw [List.map_reverse, List.sum_reverse]
theorem subs_size (f : Fm) (n : Nat) : szs (f.subs.map fun g => (g, n)) + 1 = f.size := by
  cases f <;> simp [szs, Fm.subs, Fm.size] <;> omega
theorem subs_ok {nm : Str → Prop} {f g : Fm} (h : f.ok nm) (hg : g ∈ f.subs) : g.ok nm := by
  cases f <;> simp [Fm.subs] at hg <;> simp [Fm.ok] at h
  all_goals (first | (rcases hg with rfl | rfl | rfl <;> simp_all) | (rcases hg with rfl | rfl <;> simp_all))
theorem subs_dep {f g : Fm} (hg : g ∈ f.subs) : g.dep + 1 ≤ f.dep := by
  cases f <;> simp [Fm.subs] at hg <;> simp [Fm.dep]
  all_goals (first | (rcases hg with rfl | rfl | rfl <;> omega) | (rcases hg with rfl | rfl <;> omega))
theorem subs_len (f : Fm) : f.subs.length ≤ 3 := by cases f <;> simp [Fm.subs]
theorem RpAll.reverse {M : Ms} {H : Hp} : ∀ {vs : List V} {ds : List PyData}, RpAll M H vs ds → RpAll M H vs.reverse ds.reverse
  | _, [], h => by cases h; exact .nil
  | _, d :: ds, h => by
    cases h with
    | cons h1 h2 =>
      rw [List.reverse_cons, List.reverse_cons]
      exact (RpAll.reverse h2).append (.one h1)
theorem RpAll.last {M : Ms} {H : Hp} {vs : List V} {ds : List PyData} {d : PyData} (h : RpAll M H vs (ds ++ [d])) : ∃ us v, vs = us ++ [v] ∧ RpAll M H us ds ∧ Rp M H v d := by
  have h1 := h.reverse
  rw [List.reverse_append] at h1
  generalize hv : vs.reverse = ws at h1
  cases h1 with
  | @cons v us _ _ a b =>
    have e : vs = us.reverse ++ [v] := by
      rw [← List.reverse_reverse vs, hv, List.reverse_cons]
    refine ⟨us.reverse, v, e, ?_, a⟩
    have b' : RpAll M H us ds.reverse := b
    have := b'.reverse
    rw [List.reverse_reverse] at this
    exact this

theorem Fm.size_pos : ∀ f : Fm, 1 ≤ f.size
  | .is _ => Nat.le_refl _ | .get _ => Nat.le_refl _
  | .sum f g => by show 1 ≤ f.size + g.size + 1; omega
  | .same f g => by show 1 ≤ f.size + g.size + 1; omega
  | .pick f g h => by show 1 ≤ f.size + g.size + h.size + 1; omega
theorem szs_len : ∀ ps : List (Fm × Nat), ps.length ≤ szs ps
  | [] => Nat.le_refl _
  | p :: r => by
    have h1 := szs_len r
    have h2 := p.1.size_pos
    show r.length + 1 ≤ ((p :: r).map fun p => p.1.size).sum
    rw [List.map_cons, List.sum_cons]
    unfold szs at h1
    omega

def stepN (acc : List Str) (s : Fm) : List Str := s.names.foldl addN acc
theorem names_fold (f : Fm) (h : ∀ x, f ≠ .get x) : f.names = f.subs.foldl stepN [] := by
  cases f with
  | get x => exact absurd rfl (h x)
  | _ => rfl
theorem fold_take {α β : Type} (g : β → α → β) (b : β) (l : List α) (i : Nat) (x : α) (h : l[i]? = some x) : (l.take (i + 1)).foldl g b = g ((l.take i).foldl g b) x := by
  rw [List.take_add_one, h, List.foldl_append]
  rfl
end D

namespace D
open PySem PySem.Spec PyProof.Rows L2
theorem sub_len {α : Type} [DecidableEq α] : ∀ (l2 l1 : List α), l1.Nodup → (∀ x ∈ l1, x ∈ l2) → l1.length ≤ l2.length ∧ (l1.length = l2.length → l2.Nodup)
  | [], l1, _, h => by
    cases l1 with
    | nil => exact ⟨Nat.le_refl _, fun _ => .nil⟩
    | cons x r => exact nomatch h x List.mem_cons_self
  | y :: r, l1, nd, h => by
    by_cases hy : y ∈ l1
    · have nd1 : (l1.erase y).Nodup := nd.erase y
      have h1 : ∀ x ∈ l1.erase y, x ∈ r := fun x hx => by
        have hx' := (nd.mem_erase_iff).mp hx
        rcases List.mem_cons.mp (h x hx'.2) with e | e
        · exact absurd e hx'.1
        · exact e
      obtain ⟨a, b⟩ := sub_len r (l1.erase y) nd1 h1
      have le := List.length_erase_of_mem hy
      have pos : 0 < l1.length := List.length_pos_of_mem hy
      refine ⟨by rw [List.length_cons]; omega, fun e => ?_⟩
      rw [List.length_cons] at e
      refine List.nodup_cons.mpr ⟨fun hr => ?_, b (by omega)⟩
      have h2 : ∀ x ∈ l1, x ∈ r := fun x hx => by
        rcases List.mem_cons.mp (h x hx) with e | e
        · rw [e]; exact hr
        · exact e
      have := (sub_len r l1 nd h2).1
      omega
    · have h2 : ∀ x ∈ l1, x ∈ r := fun x hx => by
        rcases List.mem_cons.mp (h x hx) with e | e
        · rw [e] at hx; exact absurd hx hy
        · exact e
      have := (sub_len r l1 nd h2).1
      refine ⟨by rw [List.length_cons]; omega, fun e => ?_⟩
      rw [List.length_cons] at e
      omega
section
variable {X : Cx}
def tLenSetT (K : PySem.W.Frag) (ta : TE) : TE := fun σ H Q => ta σ H fun x H1 => ∃ (l : Addr) (ns : List Int), x = V.ref l ∧ SqT K H1 l (ns.map V.int) ∧ ns.length ≤ 1000 ∧ ∀ c : Nat, (c = ns.length ↔ ns.Nodup) → Q (.int c) H1
theorem pe_lenSetT {K : PySem.W.Frag} {a : Expr} {ta : TE} {p p2 q pos : Pos} (hK : X.K = K) (hc : X.calm = true) (hg : Gl X "len") (hm : X.mg "len" = none) (hg2 : Gl X "set") (hm2 : X.mg "set" = none) (ha : PE X a ta)
    (na : starEach [a] X.env = (false, eval a X.env) :: starEach [] X.env := by rfl) : PE X (.Call (.Name "len" p) [.Call (.Name "set" p2) [a] [] q] [] pos) (tLenSetT K ta) := by
  subst hK
  refine ⟨fun pins s σ H Q I h => ?_⟩
  refine Call_ (ld_blt I hg hm PySem.boot_len ?_)
  refine PyProof.Rows.callWith_builtin1 (PyProof.Rows.args_cons ?_ rfl) rfl rfl
  refine Call_ (ld_blt I hg2 hm2 PyProof.Rows.boot_set ?_)
  refine PyProof.Rows.callWith_type1 (PyProof.Rows.args_cons (thn (ha.run pins s σ H _ I h) fun v s1 ⟨x, H1, I1, r1, q1⟩ => PyProof.Rows.args_nil ?_) na) na rfl
  obtain ⟨l, ns, rfl, hq, h1, q1⟩ := q1
  cases r1
  obtain ⟨its, rv, pt, hz⟩ := I1.tuple hq
  have hi : IntsAre its.toArray.toList ns := ints_of_vals rv
  refine call_set_tupI ns (I1.ok.hd hc) (show s1.heap.IsTuple l its.toArray from pt) hi (by unfold scanBound; omega) fun h' tk c R1 hcn k => ?_
  obtain ⟨o, es, ep, t, ho, hex, hdt, g, nd, hm2, hb, hf, hn, hr, hl2⟩ := R1
  refine PyProof.Rows.args_nil ?_
  have I2 : Inv X pins σ H1 { s1 with heap := h', toks := tk } := I1.kept k
  have hsub : ∀ x ∈ es.toList.map keyOf, x ∈ ns := fun x hx => of_decide_eq_true ((hm2 x).mpr hx)
  have hsup : ∀ x ∈ ns, x ∈ es.toList.map keyOf := fun x hx => (hm2 x).mp (decide_eq_true hx)
  have hlen : (es.toList.map keyOf).length = es.size := by rw [List.length_map, Array.length_toList]
  have hc2 : es.size = ns.length ↔ ns.Nodup := by
    obtain ⟨a1, a2⟩ := sub_len ns _ nd hsub
    refine ⟨fun e => a2 (by rw [hlen, e]), fun hnd => ?_⟩
    have b1 := (sub_len (es.toList.map keyOf) ns hnd hsup).1
    omega
  exact call_len_set ho hex hdt hf (by unfold scanBound at hb; omega) ⟨.int es.size, H1, I2.tok _, ⟨_, rfl⟩, q1 es.size hc2⟩
end
end D

namespace D
open PySem PySem.Spec PyProof.Rows L2
section
variable {X : Cx} {C g : Addr} {n : Nat} {CX : CXT} {sp : Sp} {E : XK} {fd : FuncData} {ps : List Str}
/-- x op y, two instances of one class with its own def for op -/
def rOwnI (C : Addr) (sp : Sp) (E : XK) : R2 := fun x y H Q => ∃ a dx fs b dy gs, x = .ref a ∧ y = .ref b ∧ H a = some (.ins C dx fs) ∧ H b = some (.ins C dy gs) ∧ sp [x, y] H Q E
theorem op_ownI {op : CmpOp} (hop : ∀ a b, compareOp op a b = richCompare op a b) (hs : PySem.W.findIn X.K (.ref C) (cmpInfo op).2.1 = some (some (.ref g))) (hf : PySem.W.isFn X.K (.ref g) = true) (hn : PySem.W.notFirst X.K C (.ref C) = true)
    (F : FnOk X.prog X.w X.K X.mg X.base CX n g fd ps sp) (hb : Binds X.K fd ps []) (hr : Room n X.A) (hx : Passes CX X E) : OpR X (compareOp op) (rOwnI C sp E) := by
  intro pins s σ H x y v u Q I rx ry h
  obtain ⟨a, dx, fs, b, dy, gs, rfl, rfl, ha, hb2, q⟩ := h
  cases (show v = Value.ref a from rx)
  cases (show u = Value.ref b from ry)
  obtain ⟨mA, O, _⟩ := ins_get I.hok ha
  obtain ⟨od, J, _⟩ := O.look
  obtain ⟨mA', O', _⟩ := ins_get I.hok hb2
  obtain ⟨od', J', _⟩ := O'.look
  obtain ⟨m, hF⟩ := I.fr
  rw [hop]
  refine PySem.W.cmp_K (op := op) (tb := .ref C) hr.units0 hF I.ok.mod.kin J J'.type hn hs hf ?_
  refine wpAny_mono (run_fn (us := [.ref a, .ref b]) (vs := [.ref a, .ref b]) F hr hb .nil hx I (.cons rfl (.cons rfl .nil)) q) (fun w s' z => ?_) fun _ _ x => x
  obtain ⟨z', H', I', rz, qz⟩ := z
  exact SlX.cmpback rz ⟨z', H', I', rz, qz⟩
/-- an instance is called -/
def tCallOI (C : Addr) (sp : Sp) (E : XK) (tf : TE) (t : TA) : TE := fun σ H Q => tf σ H fun y H1 => ∃ a dx fs, y = V.ref a ∧ t σ H1 fun vs H2 => H2 a = some (.ins C dx fs) ∧ sp (V.ref a :: vs) H2 Q E
theorem pe_callOI {fe e : Expr} {es : List Expr} {pos : Pos} {tf : TE} {t : TA} (c : StX.CallO X.K C g) (F : FnOk X.prog X.w X.K X.mg X.base CX n g fd ps sp) (hb : Binds X.K fd ps []) (hr : Room n X.A) (hx : Passes CX X E) (hf : PE X fe tf) (ha : PA X (e :: es) t)
    (ht : eval (.Call fe (e :: es) [] pos) X.env = (do callWith pos (← eval fe X.env) [] (backTo pos (starEach (e :: es) X.env)) (backToKw pos (keywordEach [] X.env))) := by rfl)
    (he : starEach (e :: es) X.env = (false, eval e X.env) :: starEach es X.env := by rfl) (hpl : (backTo pos (starEach es X.env)).any (·.1) = false := by rfl) : PE X (.Call fe (e :: es) [] pos) (tCallOI C sp E tf t) := by
  refine ⟨fun pins s σ H Q I h => ?_⟩
  refine Call_ (thn (hf.run pins s σ H _ I h) fun u s1 ⟨y, H1, I1, ry, a, dx, fs, ey, q⟩ => ?_) ht
  subst ey
  cases (show u = Value.ref a from ry)
  refine StX.callO_with (thn (ha.run pos pins s1 σ H1 _ I1 q) fun us s2 ⟨vs, H2, I2, r, hi, q2⟩ => ?_) he hpl
  obtain ⟨ox, od, J, hd⟩ := StX.insC_at I2 (.inr ⟨dx, fs, hi⟩)
  exact ⟨⟨C, ox, od, J, hd⟩, StX.run_callO c (F.raw hb .nil) hr hx I2 (.inr ⟨dx, fs, hi⟩) r (by rw [List.append_nil]; exact q2)⟩
/-- isinstance of an own class -/
def rIsC (C : Addr) : List V → Hp → VK → Prop := fun xs H Q => ∃ a dx fs, xs = [.ref a, .ref C] ∧ H a = some (.ins C dx fs) ∧ Q (.bl true) H
theorem call_isCK (c : C8.InsC X.K C) : CallR X (.builtin "isinstance") (rIsC C) := C8.call_isC c
end
end D

namespace PySem
theorem meets_enumerate_newT (l : Addr) (items : Array Value) :
    Meets (Builtin.«enumerate.__new__» ⟨[.type "enumerate", .ref l], []⟩) (fun _ R s => s.heap.IsTuple l items ∧
      R (.ok (.ret (.ref (s.heap.push { cls := .type "tuple_iterator", data := .fields #[.ref l, .int 0 0] }).objs.size)))
        { s with heap := (s.heap.push { cls := .type "tuple_iterator", data := .fields #[.ref l, .int 0 0] }).push { cls := .type "enumerate", data := .fields #[.none, .bool false, .ref s.heap.objs.size, rawInt 0, .none, .none] } }) :=
  .of_wp fun prog w A R s h => by
    obtain ⟨hp, g, d, tk, os⟩ := s; obtain ⟨hL, h⟩ := h
    have hsub := sub_enumerate
    wp_walk
    refine wpAny_stack_any fun st => wpAny_pure ?_
    split
    · rename_i c _ _ _ _ _
      cases (c == Value.type "enumerate")
      · wp_walk using wpAny_pyIter_tuple hL
        exact ⟨_, rfl, h⟩
      · wp_walk using wpAny_pyIter_tuple hL
        exact ⟨_, rfl, h⟩
    · wp_walk using wpAny_pyIter_tuple hL
      exact ⟨_, rfl, h⟩
section
variable {prog : Program} {w : World} {A : Around} {E : Value → Shared → Prop} {s : Shared}
theorem call_enumerate_tuple {l : Addr} {items : Array Value} {Q : Value → Shared → Prop} (hL : s.heap.IsTuple l items)
    (h : ∀ h', IsEnum h' (s.heap.objs.size + 1) s.heap.objs.size 0 .none → h'.IsTupleIter s.heap.objs.size l 0 → h'.objs.size = s.heap.objs.size + 2 →
      (∀ b o, s.heap.get? b = some o → h'.get? b = some o) → Q (.ref (s.heap.objs.size + 1)) { s with heap := h' }) :
    wpAny (model prog w) A (call (.type "enumerate") [.ref l]) Q E s := by
  refine callType_new F.called_enumerate (by decide) (F.typeCall_enumerate_1 _) (F.newCall_enumerate_1 _) (fun obj => F.args_object_init_2 obj _) F.entry_enumerate_new
    (meets_enumerate_newT l items) ⟨hL, ?_⟩
  have hz : (s.heap.push { cls := .type "tuple_iterator", data := .fields #[.ref l, .int 0 0] }).objs.size = s.heap.objs.size + 1 := Heap.size_push ..
  show _ ∧ _
  rw [hz]
  have he : IsEnum ((s.heap.push { cls := .type "tuple_iterator", data := .fields #[.ref l, .int 0 0] }).push
      { cls := .type "enumerate", data := .fields #[.none, .bool false, .ref s.heap.objs.size, rawInt 0, .none, .none] }) (s.heap.objs.size + 1) s.heap.objs.size 0 .none := by
    have := Heap.get?_push_size (s.heap.push { cls := .type "tuple_iterator", data := .fields #[.ref l, .int 0 0] })
      (o := { cls := .type "enumerate", data := .fields #[.none, .bool false, .ref s.heap.objs.size, rawInt 0, .none, .none] }) rfl
    rw [hz] at this; exact this
  refine ⟨⟨_, he, rfl⟩, h _ he ⟨_, Heap.get?_push_of_some _ (Heap.get?_push_size _ rfl), rfl, rfl⟩ (by rw [Heap.size_push, hz]) fun b o x => Heap.get?_push_of_some _ (Heap.get?_push_of_some _ x)⟩
end
end PySem
namespace D
open PySem PySem.Spec PyProof.Rows L2
/-- the tuple at a, each item in a new pair with its place -/
def Itet (K : PySem.W.Frag) (a : Addr) : It :=
  ⟨fun i H => ∃ (xs : List V) (x : V), SqT K H a xs ∧ xs[i]? = some x, fun i H v H' => ∃ T x, v = .ref T ∧ H T = none ∧ H' = upd H T (.tup [.int (i : Nat), x]) ∧ ∀ xs, SqT K H a xs → xs[i]? = some x, fun i H => ∃ xs : List V, SqT K H a xs ∧ xs.length = i⟩
theorem turn_enumT {P : Program} {w : World} {K : PySem.W.Frag} {elts : List Expr} {kk : Nat} {tpos : Pos} (a e it : Addr) :
    Turn P w K (.Tuple elts kk tpos) (Itet K a) [e, it] e (fun i h => (∃ old, IsEnum h e it ((i : Nat) : Int) old) ∧ h.IsTupleIter it a i ∧ e ≠ it) where
  mem := by simp
  obj := fun i h st b hb => by
    obtain ⟨⟨old, he⟩, ⟨o, ho, hc, hd⟩, _⟩ := st
    have e' : b = e ∨ b = it := by simpa using hb
    rcases e' with z | z
    · rw [z]; exact ⟨_, he, fun v q => nomatch q⟩
    · rw [z]; exact ⟨o, ho, fun v q => by rw [hd] at q; cases q⟩
  keep := fun i h h' st k => let ⟨⟨old, he⟩, hi, hne⟩ := st; ⟨⟨old, k e (by simp) _ he⟩, hi.at fun o q => k it (by simp) o q, hne⟩
  item := by
    intro X hP hw hK hc i pins s σ H E I hf st hg
    subst hP hw hK
    obtain ⟨⟨old, he⟩, hit, hne⟩ := st
    obtain ⟨xs, x, hq, hx⟩ := hg
    obtain ⟨its, rv, p, hz⟩ := I.tuple hq
    have p2 : s.heap.IsTuple a its.toArray := p
    obtain ⟨u, hu, ru⟩ := rv.get hx
    have hel : e < s.heap.objs.size := Heap.lt_size he
    have hil : it < s.heap.objs.size := by obtain ⟨_, q, _⟩ := hit; exact Heap.lt_size q
    have hai : a ≠ it := fun z => by
      obtain ⟨o1, q1, c1, _⟩ := hit
      obtain ⟨o2, q2, c2, _⟩ := p2
      rw [z, q1] at q2
      cases q2
      rw [c1] at c2
      exact absurd c2 (by decide)
    have hea : e ≠ a := fun z => by
      obtain ⟨o2, q2, c2, _⟩ := p2
      rw [← z, he] at q2
      cases q2
      exact absurd (show Value.type "enumerate" = Value.type "tuple" from c2) (by decide)
    have hlt : i < its.toArray.size := by
      have := (List.getElem?_eq_some_iff.mp hu).1
      simpa using this
    refine wpAny_pyNext_enum_itemD (Draws.tuple (A := X.A.in1) (I.ok.hd hc) it a hai its.toArray) he ⟨hit, p2⟩ hlt hne (fun z => by
      rcases List.mem_cons.mp z with z | z
      · exact hne z
      · exact hea (List.mem_singleton.mp z)) fun x' h' tk hP ho hst' hT hsz hk => ?_
    obtain rfl : x' = u := by
      have h1 : its.toArray[i]? = some x' := hP
      rw [List.getElem?_toArray, hu] at h1
      exact (Option.some.inj h1).symm
    refine ⟨_, rfl, wpAny_letOwnedTupleGo_enum (s := { s with heap := h', toks := tk + 1 }) ho fun h'' he' sb => ?_⟩
    have hT2 : h''.get? s.heap.objs.size = some { cls := .type "tuple", data := .seq #[.int i tk, x'] } := (sb.2 _ (Nat.ne_of_gt hel)).trans hT
    have new : ObjOk X.prog X.w (upd H s.heap.objs.size (.tup [.int (i : Nat), x])) h'' s.heap.objs.size (.tup [.int (i : Nat), x]) :=
      ⟨by show 2 ≤ sizeLine; decide, [.int i tk, x'], .cons ⟨_, rfl⟩ (.cons ru .nil), ⟨_, hT2, rfl, _, rfl⟩⟩
    have I1 : Inv X pins σ (upd H s.heap.objs.size (.tup [.int (i : Nat), x])) { s with heap := h'', toks := tk + 1 } :=
      I.turnedNew (ch := [e, it]) (fun b ob hb q => (sb.2 b (fun z => hb (by simp [z]))).trans (hk b ob (fun z => hb (by simp [z])) (fun z => hb (by simp [z])) q)) hf (Nat.le_refl _) new
    refine ⟨.ref s.heap.objs.size, _, I1, rfl, ⟨_, x, rfl, I.hok.fresh (Nat.le_refl _), rfl, fun ys hy => by rw [I.tuple_inj hy hq]; exact hx⟩, ⟨⟨x', ?_⟩, hst'.1.at fun o q => (sb.2 it (Ne.symm hne)).trans q, hne⟩, fun b hb => ?_⟩
    · have e1 : ((i + 1 : Nat) : Int) = (i : Int) + 1 := by omega
      rw [e1]; exact he'
    · have hb' : b < s.heap.objs.size := by
        have e' : b = e ∨ b = it := by simpa using hb
        rcases e' with z | z
        · rw [z]; exact hel
        · rw [z]; exact hil
      rw [upd_ne (Nat.ne_of_lt hb')]
      exact (hf b hb).1
  done := by
    intro X hP hw hK hc i pins s σ H E I hf st hg
    subst hP hw hK
    obtain ⟨⟨old, he⟩, hit, hne⟩ := st
    obtain ⟨xs, hq, hx⟩ := hg
    obtain ⟨its, rv, p, hz⟩ := I.tuple hq
    have p2 : s.heap.IsTuple a its.toArray := p
    obtain ⟨f0, f1, f2, f3, f4, f5⟩ := hf it (by simp)
    have hl := rv.length
    have hai : a ≠ it := fun z => by
      obtain ⟨o1, q1, c1, _⟩ := hit
      obtain ⟨o2, q2, c2, _⟩ := p2
      rw [z, q1] at q2
      cases q2
      rw [c1] at c2
      exact absurd c2 (by decide)
    have en : i = its.toArray.size := by
      rw [List.size_toArray]
      omega
    exact wpAny_pyNext_enum_endD (Draws.tuple (A := X.A.in1) (I.ok.hd hc) it a hai its.toArray) he (show _ ∧ _ from ⟨by rw [← en]; exact hit, p2⟩) fun h' eb => ⟨rfl, I.turned (t' := s.toks) (fun b o hb q => eb b o hb q) f0 f1 f3 f4 f5⟩
  self := fun A i s Q E st h => let ⟨⟨_, he⟩, _⟩ := st; wpAny_pyIter_enum he h
def iEnumT (K : PySem.W.Frag) (ta : TA) : TI := fun σ H R => ta σ H fun vs H1 => ∃ a xs, vs = [.ref a] ∧ SqT K H1 a xs ∧ R (Itet K a) H1
theorem pi_enumTK {K : PySem.W.Frag} {X : Cx} {e : Expr} {ta : TA} {p pos tpos : Pos} {elts : List Expr} {kk : Nat} (hK : X.K = K) (hg : Gl X "enumerate") (hm : X.mg "enumerate" = none) (ha : PA X [e] ta) (hs : starEach [e] X.env = [(false, eval e X.env)] := by rfl) :
    PI X (.Tuple elts kk tpos) (.Call (.Name "enumerate" p) [e] [] pos) (iEnumT K ta) := by
  subst hK
  refine ⟨fun pins s σ H R I h => ?_⟩
  refine Call_ (ld_blt I hg hm boot_enumerate (PyProof.Rows.callWith_type1 (thn (ha.run pos pins s σ H _ I h) fun us s1 ⟨vs, H1, I1, r1, q1⟩ => ?_) hs rfl))
  obtain ⟨a, xs, ex, hq, q⟩ := q1
  subst ex
  cases r1 with
  | cons r rr =>
    cases rr
    cases r
    obtain ⟨its, rv, p', hz⟩ := I1.tuple hq
    refine call_enumerate_tuple (show s1.heap.IsTuple a its.toArray from p') fun h' he hit hsz hk => wpAny_pyIter_enum he ?_
    have I2 : Inv X pins σ H1 { s1 with heap := h' } := I1.kept (t' := s1.toks) hk
    refine ⟨s1.heap.objs.size + 1, [s1.heap.objs.size + 1, s1.heap.objs.size], _, _, H1, rfl, I2, turn_enumT a (s1.heap.objs.size + 1) s1.heap.objs.size, ⟨⟨.none, he⟩, hit, Nat.succ_ne_self _⟩, fun b hb => ?_, q⟩
    have e' : b = s1.heap.objs.size + 1 ∨ b = s1.heap.objs.size := by simpa using hb
    have hle : s1.heap.objs.size ≤ b := by
      rcases e' with z | z
      · rw [z]; exact Nat.le_add_right _ _
      · rw [z]; exact Nat.le_refl _
    exact I1.fpOk hle (I1.hok.fresh hle)
theorem for_enumT {K : PySem.W.Frag} {a : Addr} {xs : List V} {g : TG} {tb : TS} {D : Ends} {σ : L2.St} {H : Hp} (Pv : Nat → L2.St → Hp → Prop) (h0 : Pv 0 σ H) (hl : ∀ i σ H, i ≤ xs.length → Pv i σ H → SqT K H a xs)
    (hs : ∀ i x T σ H, xs[i]? = some x → H T = none → Pv i σ H → g (.ref T) σ (upd H T (.tup [.int (i : Nat), x])) fun σ2 H2 => tb { D with nx := Pv (i + 1), ct := Pv (i + 1), bk := D.nx } σ2 H2) (hd : ∀ σ H, Pv xs.length σ H → D.nx σ H) :
    ∃ W : Nat → Nat → L2.St → Hp → Prop, (∃ m, W 0 m σ H) ∧ ∀ i m σ H, W i m σ H →
      ((Itet K a).stop i H ∧ D.nx σ H) ∨ ((Itet K a).go i H ∧ ∃ N : L2.St → Hp → Prop, (∀ σ' H', N σ' H' → ∃ m', m' < m ∧ W (i + 1) m' σ' H') ∧ ∀ x H', (Itet K a).yld i H x H' → g x σ H' fun σ2 H2 => tb { D with nx := N, ct := N, bk := D.nx } σ2 H2) := by
  refine ⟨fun i m σ H => m = xs.length - i ∧ i ≤ xs.length ∧ Pv i σ H, ⟨xs.length, by simp, Nat.zero_le _, h0⟩, ?_⟩
  rintro i m σ H ⟨rfl, hi, p⟩
  have q := hl i σ H hi p
  by_cases hlt : i < xs.length
  · refine .inr ⟨⟨xs, xs[i], q, by simp [hlt]⟩, Pv (i + 1), fun σ' H' p' => ⟨xs.length - (i + 1), by omega, rfl, hlt, p'⟩, fun x H' y => ?_⟩
    obtain ⟨T, z, rfl, hT, rfl, hz⟩ := y
    exact hs i z T σ _ (hz xs q) hT p
  · have e : i = xs.length := by omega
    subst e
    exact .inl ⟨⟨xs, q, rfl⟩, hd σ H p⟩
/-- comprehensions over enumerate -/
theorem lc_enum {K : PySem.W.Frag} {a : Addr} {xs : List V} {g : TG} {tt : TT} {te : TE} {vs : List Nat} {σ : L2.St} {H1 : Hp} {D : Addr} {Qd : Hp → Prop} (Pv : Nat → Hp → Prop) (h0 : Pv 0 (upd H1 D (.lst []))) (hl : ∀ i H, i ≤ xs.length → Pv i H → SqL K H a xs)
    (hs : ∀ i x T H, xs[i]? = some x → H T = none → Pv i H → g (.ref T) (wipe σ vs) (upd H T (.tup [.int (i : Nat), x])) fun σ2 H2 => wipe σ2 vs = wipe σ vs ∧ tt σ2 H2 fun b H3 =>
      if b = true then te σ2 H3 fun y H4 => ∃ acc, H4 D = some (.lst acc) ∧ acc.length < sizeLine ∧ Pv (i + 1) (upd H4 D (.lst (acc ++ [y]))) else Pv (i + 1) H3) (hd : ∀ H, Pv xs.length H → Qd H) :
    ∃ W : Nat → Nat → Hp → Prop, (∃ m, W 0 m (upd H1 D (.lst []))) ∧ ∀ i m H, W i m H →
      ((Ite K a).stop i H ∧ Qd H) ∨ ((Ite K a).go i H ∧ ∃ Nx : Hp → Prop, (∀ H', Nx H' → ∃ m', m' < m ∧ W (i + 1) m' H') ∧ ∀ x H', (Ite K a).yld i H x H' → g x (wipe σ vs) H' fun σ2 H2 => wipe σ2 vs = wipe σ vs ∧ tt σ2 H2 fun b H3 =>
        if b = true then te σ2 H3 fun y H4 => ∃ acc, H4 D = some (.lst acc) ∧ acc.length < sizeLine ∧ Nx (upd H4 D (.lst (acc ++ [y]))) else Nx H3) := by
  refine ⟨fun i m H => m = xs.length - i ∧ i ≤ xs.length ∧ Pv i H, ⟨xs.length, by simp, Nat.zero_le _, h0⟩, ?_⟩
  rintro i m H ⟨rfl, hi, p⟩
  have q := hl i H hi p
  by_cases hlt : i < xs.length
  · refine .inr ⟨⟨xs, xs[i], q, by simp [hlt]⟩, Pv (i + 1), fun H' p' => ⟨xs.length - (i + 1), by omega, rfl, hlt, p'⟩, fun x H' y => ?_⟩
    obtain ⟨T, z, rfl, hT, rfl, hz⟩ := y
    exact hs i z T _ (hz xs q) hT p
  · have e : i = xs.length := by omega
    subst e
    exact .inl ⟨⟨xs, q, Nat.le_refl _⟩, hd H p⟩
theorem lc_enumT {K : PySem.W.Frag} {a : Addr} {xs : List V} {g : TG} {tt : TT} {te : TE} {vs : List Nat} {σ : L2.St} {H1 : Hp} {D : Addr} {Qd : Hp → Prop} (Pv : Nat → Hp → Prop) (h0 : Pv 0 (upd H1 D (.lst []))) (hl : ∀ i H, i ≤ xs.length → Pv i H → SqT K H a xs)
    (hs : ∀ i x T H, xs[i]? = some x → H T = none → Pv i H → g (.ref T) (wipe σ vs) (upd H T (.tup [.int (i : Nat), x])) fun σ2 H2 => wipe σ2 vs = wipe σ vs ∧ tt σ2 H2 fun b H3 =>
      if b = true then te σ2 H3 fun y H4 => ∃ acc, H4 D = some (.lst acc) ∧ acc.length < sizeLine ∧ Pv (i + 1) (upd H4 D (.lst (acc ++ [y]))) else Pv (i + 1) H3) (hd : ∀ H, Pv xs.length H → Qd H) :
    ∃ W : Nat → Nat → Hp → Prop, (∃ m, W 0 m (upd H1 D (.lst []))) ∧ ∀ i m H, W i m H →
      ((Itet K a).stop i H ∧ Qd H) ∨ ((Itet K a).go i H ∧ ∃ Nx : Hp → Prop, (∀ H', Nx H' → ∃ m', m' < m ∧ W (i + 1) m' H') ∧ ∀ x H', (Itet K a).yld i H x H' → g x (wipe σ vs) H' fun σ2 H2 => wipe σ2 vs = wipe σ vs ∧ tt σ2 H2 fun b H3 =>
        if b = true then te σ2 H3 fun y H4 => ∃ acc, H4 D = some (.lst acc) ∧ acc.length < sizeLine ∧ Nx (upd H4 D (.lst (acc ++ [y]))) else Nx H3) := by
  refine ⟨fun i m H => m = xs.length - i ∧ i ≤ xs.length ∧ Pv i H, ⟨xs.length, by simp, Nat.zero_le _, h0⟩, ?_⟩
  rintro i m H ⟨rfl, hi, p⟩
  have q := hl i H hi p
  by_cases hlt : i < xs.length
  · refine .inr ⟨⟨xs, xs[i], q, by simp [hlt]⟩, Pv (i + 1), fun H' p' => ⟨xs.length - (i + 1), by omega, rfl, hlt, p'⟩, fun x H' y => ?_⟩
    obtain ⟨T, z, rfl, hT, rfl, hz⟩ := y
    exact hs i z T _ (hz xs q) hT p
  · have e : i = xs.length := by omega
    subst e
    exact .inl ⟨⟨xs, q, rfl⟩, hd H p⟩
/-- the same where each element is a value that is known: new things may be made on the way -/
theorem lc_enumV {K : PySem.W.Frag} {a : Addr} {xs ys : List V} {g : TG} {tt : TT} {te : TE} {vs : List Nat} {σ : L2.St} {H : Hp} {D : Addr} {Qd : Hp → Prop} (hD : H D = none) (hS : SqL K H a xs) (hn : ys.length = xs.length) (hz : xs.length ≤ 1000000)
    (hs : ∀ (i : Nat) (x y : V) (T : Addr) (H' : Hp) (C : VK) (N : Hp → Prop), xs[i]? = some x → ys[i]? = some y → H' T = none → Same H H' → H' D ≠ none → (∀ H2, Same (upd H' T (.tup [.int (i : Nat), x])) H2 → C y H2) → g (.ref T) (wipe σ vs) (upd H' T (.tup [.int (i : Nat), x])) fun σ2 H2 => wipe σ2 vs = wipe σ vs ∧ tt σ2 H2 fun b H3 => if b = true then te σ2 H3 C else N H3)
    (hd : ∀ H', Same H H' → H' D = some (.lst ys) → Qd H') :
    ∃ W : Nat → Nat → Hp → Prop, (∃ m, W 0 m (upd H D (.lst []))) ∧ ∀ i m H, W i m H →
      ((Ite K a).stop i H ∧ Qd H) ∨ ((Ite K a).go i H ∧ ∃ Nx : Hp → Prop, (∀ H', Nx H' → ∃ m', m' < m ∧ W (i + 1) m' H') ∧ ∀ x H', (Ite K a).yld i H x H' → g x (wipe σ vs) H' fun σ2 H2 => wipe σ2 vs = wipe σ vs ∧ tt σ2 H2 fun b H3 =>
        if b = true then te σ2 H3 fun y H4 => ∃ acc, H4 D = some (.lst acc) ∧ acc.length < sizeLine ∧ Nx (upd H4 D (.lst (acc ++ [y]))) else Nx H3) := by
  refine lc_enum (K := K) (a := a) (xs := xs) (fun i H' => Same H H' ∧ H' D = some (.lst (ys.take i))) ⟨same_new hD, by rw [upd_same]; rfl⟩ (fun i H' _ p => p.1.seq hS) (fun i x T H' hx hT p => ?_) (fun H' p => ?_)
  · have hi : i < ys.length := by
      rw [hn]
      exact (List.getElem?_eq_some_iff.mp hx).1
    refine hs i x ys[i] T H' _ _ hx (List.getElem?_eq_getElem hi) hT p.1 (ne_none p.2) fun H2 s2 => ⟨_, s2 _ _ (same_new hT _ _ p.2), ?_, ?_, ?_⟩
    · rw [List.length_take]
      exact small1000000 (by omega)
    · exact same_put (p.1.trans ((same_new hT).trans s2)) hD
    · rw [upd_same, List.take_add_one, List.getElem?_eq_getElem hi]
      rfl
  · refine hd H' p.1 ?_
    have e := p.2
    rw [← hn, List.take_length] at e
    exact e
theorem lc_enumTV {K : PySem.W.Frag} {a : Addr} {xs ys : List V} {g : TG} {tt : TT} {te : TE} {vs : List Nat} {σ : L2.St} {H : Hp} {D : Addr} {Qd : Hp → Prop} (hD : H D = none) (hS : SqT K H a xs) (hn : ys.length = xs.length) (hz : xs.length ≤ 1000000)
    (hs : ∀ (i : Nat) (x y : V) (T : Addr) (H' : Hp) (C : VK) (N : Hp → Prop), xs[i]? = some x → ys[i]? = some y → H' T = none → Same H H' → H' D ≠ none → (∀ H2, Same (upd H' T (.tup [.int (i : Nat), x])) H2 → C y H2) → g (.ref T) (wipe σ vs) (upd H' T (.tup [.int (i : Nat), x])) fun σ2 H2 => wipe σ2 vs = wipe σ vs ∧ tt σ2 H2 fun b H3 => if b = true then te σ2 H3 C else N H3)
    (hd : ∀ H', Same H H' → H' D = some (.lst ys) → Qd H') :
    ∃ W : Nat → Nat → Hp → Prop, (∃ m, W 0 m (upd H D (.lst []))) ∧ ∀ i m H, W i m H →
      ((Itet K a).stop i H ∧ Qd H) ∨ ((Itet K a).go i H ∧ ∃ Nx : Hp → Prop, (∀ H', Nx H' → ∃ m', m' < m ∧ W (i + 1) m' H') ∧ ∀ x H', (Itet K a).yld i H x H' → g x (wipe σ vs) H' fun σ2 H2 => wipe σ2 vs = wipe σ vs ∧ tt σ2 H2 fun b H3 =>
        if b = true then te σ2 H3 fun y H4 => ∃ acc, H4 D = some (.lst acc) ∧ acc.length < sizeLine ∧ Nx (upd H4 D (.lst (acc ++ [y]))) else Nx H3) := by
  refine lc_enumT (K := K) (a := a) (xs := xs) (fun i H' => Same H H' ∧ H' D = some (.lst (ys.take i))) ⟨same_new hD, by rw [upd_same]; rfl⟩ (fun i H' _ p => same_sqt p.1 hS) (fun i x T H' hx hT p => ?_) (fun H' p => ?_)
  · have hi : i < ys.length := by
      rw [hn]
      exact (List.getElem?_eq_some_iff.mp hx).1
    refine hs i x ys[i] T H' _ _ hx (List.getElem?_eq_getElem hi) hT p.1 (ne_none p.2) fun H2 s2 => ⟨_, s2 _ _ (same_new hT _ _ p.2), ?_, ?_, ?_⟩
    · rw [List.length_take]
      exact small1000000 (by omega)
    · exact same_put (p.1.trans ((same_new hT).trans s2)) hD
    · rw [upd_same, List.take_add_one, List.getElem?_eq_getElem hi]
      rfl
  · refine hd H' p.1 ?_
    have e := p.2
    rw [← hn, List.take_length] at e
    exact e
/-- elements are data that are made on the way -/
theorem lc_enumD {K : PySem.W.Frag} {a : Addr} {xs : List V} {ys : List PyData} {g : TG} {tt : TT} {te : TE} {vs : List Nat} {σ : L2.St} {H : Hp} {D : Addr} {Qd : Hp → Prop} (M : Ms) (hM : Mk M H) (hD : H D = none) (hS : SqL K H a xs) (hn : ys.length = xs.length) (hz : xs.length ≤ 1000000)
    (hs : ∀ (i : Nat) (x : V) (y : PyData) (T : Addr) (H' : Hp) (C : VK) (N : Hp → Prop), xs[i]? = some x → ys[i]? = some y → H' T = none → Same H H' → Mk (also M D) (upd H' T (.tup [.int (i : Nat), x])) → (∀ v H2, Same (upd H' T (.tup [.int (i : Nat), x])) H2 → Rp (also M D) H2 v y → C v H2) → g (.ref T) (wipe σ vs) (upd H' T (.tup [.int (i : Nat), x])) fun σ2 H2 => wipe σ2 vs = wipe σ vs ∧ tt σ2 H2 fun b H3 => if b = true then te σ2 H3 C else N H3)
    (hd : ∀ H', Same H H' → Ld M H' D ys → Qd H') :
    ∃ W : Nat → Nat → Hp → Prop, (∃ m, W 0 m (upd H D (.lst []))) ∧ ∀ i m H, W i m H →
      ((Ite K a).stop i H ∧ Qd H) ∨ ((Ite K a).go i H ∧ ∃ Nx : Hp → Prop, (∀ H', Nx H' → ∃ m', m' < m ∧ W (i + 1) m' H') ∧ ∀ x H', (Ite K a).yld i H x H' → g x (wipe σ vs) H' fun σ2 H2 => wipe σ2 vs = wipe σ vs ∧ tt σ2 H2 fun b H3 =>
        if b = true then te σ2 H3 fun y H4 => ∃ acc, H4 D = some (.lst acc) ∧ acc.length < sizeLine ∧ Nx (upd H4 D (.lst (acc ++ [y]))) else Nx H3) := by
  refine lc_enum (K := K) (a := a) (xs := xs) (fun i H' => Same H H' ∧ ∃ acc, H' D = some (.lst acc) ∧ RpAll (also M D) H' acc (ys.take i)) ⟨same_new hD, [], upd_same, by rw [List.take_zero]; exact .nil⟩ (fun i H' _ p => p.1.seq hS) (fun i x T H' hx hT p => ?_) (fun H' p => ?_)
  · obtain ⟨s, acc, e, r⟩ := p
    have hi : i < ys.length := by
      rw [hn]
      exact (List.getElem?_eq_some_iff.mp hx).1
    have hl := r.length
    rw [List.length_take] at hl
    have s1 : Same H' (upd H' T (.tup [.int (i : Nat), x])) := same_new hT
    refine hs i x ys[i] T H' _ _ hx (List.getElem?_eq_getElem hi) hT s (((hM.gr (Gr.same s)).also (ne_none e)).gr (Gr.same s1)) fun v H2 s2 rv => ?_
    refine ⟨acc, s2 _ _ (s1 _ _ e), small1000000 (by omega), ?_, acc ++ [v], upd_same, ?_⟩
    · exact same_put (s.trans (s1.trans s2)) hD
    · rw [List.take_add_one, List.getElem?_eq_getElem hi]
      exact ((r.sx (Sx.same (s1.trans s2))).append (.one rv)).sx (Sx.put (.inr rfl))
  · obtain ⟨s, acc, e, r⟩ := p
    rw [← hn, List.take_length] at r
    exact hd H' s ⟨hM.out hD, acc, e, r.less also_le⟩
end D
namespace D
open PySem PySem.Spec PyProof.Rows L2
theorem mt_lcountK {K : PySem.W.Frag} {X : Cx} (hK : X.K = K) : MtR X "list.count" (rCntI K) := by subst hK; exact mt_lcount
end D
namespace D
open PySem PySem.Spec PyProof.Rows L2
section
variable {X : Cx} {K : PySem.W.Frag} {o e : Expr} {es : List Expr} {to : TE} {t : TA} {name : Str} {apos cpos : Pos} {T id : String} {r : V → List V → Hp → VK → Prop}
theorem pe_bm0K2 (hK : X.K = K) (pa : PlainAttrs T) (slot : Slot T name id) (hty : typeOf (.builtin id) = pure (.type "method_descriptor")) (hm : MtR X id r) (ho : PE X o to)
    (hbase : attributeBase o name X.env (eval o X.env) = eval o X.env := by rfl) (hline : (apos.endLine == cpos.line) = true := by rfl) : PE X (.Call (.Attribute o name apos) [] [] cpos) (tBM0 K T r to) := by
  subst hK
  exact pe_bm0 pa slot hty hm ho hbase hline
theorem pe_bmK2 (hK : X.K = K) (pa : PlainAttrs T) (slot : Slot T name id) (hty : typeOf (.builtin id) = pure (.type "method_descriptor")) (hm : MtR X id r) (ho : PE X o to) (ha : PA X (e :: es) t)
    (hbase : attributeBase o name X.env (eval o X.env) = eval o X.env := by rfl)
    (hfew : ((backTo cpos (starEach (e :: es) X.env)).all (fun x => !x.1) && (backToKw cpos (keywordEach [] X.env)).all (fun x => x.1.isSome)
      && decide ((e :: es).length + ([] : List Keyword).length + (if ([] : List Keyword).isEmpty then 0 else 1) < 30)) = true := by rfl)
    (hline : (apos.endLine == cpos.line) = true := by rfl) (hs : starEach (e :: es) X.env = (false, eval e X.env) :: starEach es X.env := by rfl) (hplain : (backTo cpos (starEach es X.env)).any (·.1) = false := by rfl) :
    PE X (.Call (.Attribute o name apos) (e :: es) [] cpos) (tBM K T r to t) := by
  subst hK
  exact pe_bm pa slot hty hm ho ha hbase hfew hline hs hplain
end
end D

namespace D
open PySem PySem.Spec PyProof.Rows L2
/-- comprehensions' loops, whatever their bodies -/
theorem rng_loop {n : Nat} {lo : Int} {Qd : Hp → Prop} {H0 : Hp} {B : V → Hp → (Hp → Prop) → Prop} (Pv : Nat → Hp → Prop) (h0 : Pv 0 H0) (hs : ∀ i H, i < n → Pv i H → B (.int (lo + (i : Nat))) H (Pv (i + 1))) (hd : ∀ H, Pv n H → Qd H) :
    ∃ W : Nat → Nat → Hp → Prop, (∃ m, W 0 m H0) ∧ ∀ i m H, W i m H → ((Itr lo n).stop i H ∧ Qd H) ∨ ((Itr lo n).go i H ∧ ∃ Nx : Hp → Prop, (∀ H', Nx H' → ∃ m', m' < m ∧ W (i + 1) m' H') ∧ ∀ x H', (Itr lo n).yld i H x H' → B x H' Nx) := by
  refine ⟨fun i m H => m = n - i ∧ i ≤ n ∧ Pv i H, ⟨_, rfl, Nat.zero_le _, h0⟩, ?_⟩
  rintro i m H ⟨rfl, hi, p⟩
  by_cases hlt : i < n
  · refine .inr ⟨hlt, Pv (i + 1), fun H' p' => ⟨n - (i + 1), by omega, rfl, hlt, p'⟩, fun x H' y => ?_⟩
    obtain ⟨rfl, rfl⟩ := y
    exact hs i _ hlt p
  · have e : i = n := by omega
    subst e
    exact .inl ⟨Nat.le_refl _, hd H p⟩
theorem list_loop {K : PySem.W.Frag} {a : Addr} {xs : List V} {Qd : Hp → Prop} {H0 : Hp} {B : V → Hp → (Hp → Prop) → Prop} (Pv : Nat → Hp → Prop) (h0 : Pv 0 H0) (hl : ∀ i H, i ≤ xs.length → Pv i H → SqL K H a xs) (hs : ∀ i x H, xs[i]? = some x → Pv i H → B x H (Pv (i + 1))) (hd : ∀ H, Pv xs.length H → Qd H) :
    ∃ W : Nat → Nat → Hp → Prop, (∃ m, W 0 m H0) ∧ ∀ i m H, W i m H → ((Itl K a).stop i H ∧ Qd H) ∨ ((Itl K a).go i H ∧ ∃ Nx : Hp → Prop, (∀ H', Nx H' → ∃ m', m' < m ∧ W (i + 1) m' H') ∧ ∀ x H', (Itl K a).yld i H x H' → B x H' Nx) := by
  refine ⟨fun i m H => m = xs.length - i ∧ i ≤ xs.length ∧ Pv i H, ⟨_, rfl, Nat.zero_le _, h0⟩, ?_⟩
  rintro i m H ⟨rfl, hi, p⟩
  have q := hl i H hi p
  by_cases hlt : i < xs.length
  · refine .inr ⟨⟨xs, xs[i], q, by simp [hlt]⟩, Pv (i + 1), fun H' p' => ⟨xs.length - (i + 1), by omega, rfl, hlt, p'⟩, fun x H' y => ?_⟩
    obtain ⟨e, y⟩ := y
    subst e
    exact hs i x _ (y xs q) p
  · have e : i = xs.length := by omega
    subst e
    exact .inl ⟨⟨xs, q, Nat.le_refl _⟩, hd H p⟩
theorem tup_loop {K : PySem.W.Frag} {a : Addr} {xs : List V} {Qd : Hp → Prop} {H0 : Hp} {B : V → Hp → (Hp → Prop) → Prop} (Pv : Nat → Hp → Prop) (h0 : Pv 0 H0) (hl : ∀ i H, i ≤ xs.length → Pv i H → SqT K H a xs) (hs : ∀ i x H, xs[i]? = some x → Pv i H → B x H (Pv (i + 1))) (hd : ∀ H, Pv xs.length H → Qd H) :
    ∃ W : Nat → Nat → Hp → Prop, (∃ m, W 0 m H0) ∧ ∀ i m H, W i m H → ((Itt K a).stop i H ∧ Qd H) ∨ ((Itt K a).go i H ∧ ∃ Nx : Hp → Prop, (∀ H', Nx H' → ∃ m', m' < m ∧ W (i + 1) m' H') ∧ ∀ x H', (Itt K a).yld i H x H' → B x H' Nx) := by
  refine ⟨fun i m H => m = xs.length - i ∧ i ≤ xs.length ∧ Pv i H, ⟨_, rfl, Nat.zero_le _, h0⟩, ?_⟩
  rintro i m H ⟨rfl, hi, p⟩
  have q := hl i H hi p
  by_cases hlt : i < xs.length
  · refine .inr ⟨⟨xs, xs[i], q, by simp [hlt]⟩, Pv (i + 1), fun H' p' => ⟨xs.length - (i + 1), by omega, rfl, hlt, p'⟩, fun x H' y => ?_⟩
    obtain ⟨e, y⟩ := y
    subst e
    exact hs i x _ (y xs q) p
  · have e : i = xs.length := by omega
    subst e
    exact .inl ⟨⟨xs, q, Nat.le_refl _⟩, hd H p⟩
/-- a dict made of pairs of whole numbers -/
def toldK (ps : List (Int × Int)) : List (Key × V) := ps.foldl (fun k p => putK k (.inl p.2) (.int p.1)) []
theorem putK_le (c : List (Key × V)) (k : Key) (x : V) : (putK c k x).length ≤ c.length + 1 := by
  unfold putK
  split
  · rw [List.length_map]; omega
  · rw [List.length_append]; exact Nat.le_refl _
theorem toldK_snoc (ps : List (Int × Int)) (p : Int × Int) : toldK (ps ++ [p]) = putK (toldK ps) (.inl p.2) (.int p.1) := by
  unfold toldK
  rw [List.foldl_append]
  rfl
theorem told_all (ps : List (Int × Int)) : ∀ qs : List (Int × Int), (∀ p ∈ qs, p ∈ ps) → ∀ s w, valV (toldK qs) (.inl s) = some w → ∃ v, w = .int v ∧ (v, s) ∈ ps := by
  suffices h : ∀ (qs : List (Int × Int)) (c : List (Key × V)), (∀ p ∈ qs, p ∈ ps) → (∀ s w, valV c (.inl s) = some w → ∃ v, w = .int v ∧ (v, s) ∈ ps) → ∀ s w, valV (qs.foldl (fun k p => putK k (.inl p.2) (.int p.1)) c) (.inl s) = some w → ∃ v, w = .int v ∧ (v, s) ∈ ps from fun qs hq => h qs [] hq (fun s w e => nomatch e)
  intro qs
  induction qs with
  | nil => intro c _ hc; exact hc
  | cons q r ih =>
    intro c hq hc
    refine ih _ (fun p hp => hq p (List.mem_cons_of_mem _ hp)) (fun s w e => ?_)
    rw [valV_put] at e
    split at e
    · rename_i e2
      cases e2
      cases e
      exact ⟨_, rfl, hq q List.mem_cons_self⟩
    · exact hc s w e
theorem told_mem : ∀ (qs : List (Int × Int)) (p : Int × Int), p ∈ qs → ∃ w, valV (toldK qs) (.inl p.2) = some w := by
  suffices h : ∀ (qs : List (Int × Int)) (c : List (Key × V)) (s : Int), ((∃ p ∈ qs, p.2 = s) ∨ ∃ w, valV c (.inl s) = some w) → ∃ w, valV (qs.foldl (fun k p => putK k (.inl p.2) (.int p.1)) c) (.inl s) = some w from fun qs p hp => h qs [] p.2 (.inl ⟨p, hp, rfl⟩)
  intro qs
  induction qs with
  | nil =>
    intro c s h
    rcases h with ⟨_, h, _⟩ | h
    · exact nomatch h
    · exact h
  | cons q r ih =>
    intro c s h
    refine ih _ s ?_
    rcases h with ⟨p, hp, e⟩ | ⟨w, e⟩
    · rcases List.mem_cons.mp hp with rfl | hp
      · exact .inr ⟨_, by rw [valV_put, if_pos (by rw [e])]⟩
      · exact .inl ⟨p, hp, e⟩
    · right
      rw [valV_put]
      split
      · exact ⟨_, rfl⟩
      · exact ⟨w, e⟩
/-- what such a dict tells of a pair -/
theorem told_get {ps : List (Int × Int)} {p : Int × Int} (h : p ∈ ps) : ∃ v, valV (toldK ps) (.inl p.2) = some (.int v) ∧ (v, p.2) ∈ ps := by
  obtain ⟨w, e⟩ := told_mem ps p h
  obtain ⟨v, rfl, hv⟩ := told_all ps ps (fun _ h => h) _ _ e
  exact ⟨v, e, hv⟩
end D

namespace D
open PySem PySem.Spec PyProof.Rows L2
/-! ### dict comprehensions whose keys are tuples (after the layer's own for ints and texts) -/
theorem d_dictSetT {X : Cx} {pins : List (Addr × Obj)} {σ : L2.St} {H : Hp} {s : Shared} {E : Value → Shared → Prop} {D : Addr} {kvs : List (List Key × V)} {k : List Key} {b : Addr} {v : V} {u r : Value} {Q : Unit → Shared → Prop} (hu : X.A.units + 1 < cLine) (I : Inv X pins σ H s) (hD : H D = some (.dT kvs)) (hz : kvs.length < sizeLine)
    (eb : H b = some (.tup (k.map kV))) (ry : RelV (.ref b) u) (rv : RelV v r) (h : ∀ s', Inv X pins σ (upd H D (.dT (putK kvs k v))) s' → Q () s') : wpAny (model X.prog X.w) X.A (dictSet D u r) Q E s := by
  cases (show u = Value.ref b from ry)
  obtain ⟨z, hd, xs, rel, dd⟩ := dt_of I.hok hD
  have hz' : xs.length ≤ sizeLine := by rw [← Paired.length rel]; exact z
  have hl : (putK kvs k v).length ≤ sizeLine := by have := length_putK kvs k v; omega
  refine wpAny_dictSet_heap (hsz := hz') (show (tupleKind (mixKind X.prog X.w)).room X.A from Nat.lt_of_succ_lt hu) (key_of I.hok eb) dd fun h' dd' hs => h _ ?_
  obtain ⟨q, es, ep, hq, h2, h3, h4, _, h5⟩ := dd'
  refine d_write I (by rw [hD]; exact True.intro) hs ⟨q, hq⟩ ⟨hl, hd, _, (rel.put k eb rv).keeps fun c ys ec => ?_, q, es, ep, hq, h2, h3, h4, h5⟩
  rw [upd_ne (ne_of ec hD (fun z => nomatch z))]
  exact ec
theorem key_rd {P : Program} {w : World} {H : Hp} {h : Heap} {a : Addr} {ks : List Key} (ok : HOk P w H h) (e : Rd H a (.tup (ks.map kV))) : (tupleKind (mixKind P w)).is h ks a := by
  obtain ⟨_, its, r, o, h1, h2, n, h3⟩ := (show ObjOk P w H h a (.tup (ks.map kV)) from rd_of ok e)
  exact ⟨o, its.toArray, n, h1, h2, h3, by simpa using items_are r⟩
section
variable {X : Cx}
/-- something holds of all contexts that a block may have -/
abbrev InBlk (X : Cx) (sc : Scope) (F : Cx → Prop) : Prop := ∀ (t : Shared) (G : Hp) (L : Addr) (cells : List (Str × Addr)) (feet : List Addr), F (X.blk t G sc (compEnvC sc cells L X.env) feet)
/-- what a comprehension does with a new dict at D: O what stands there, Put the storing of a pair -/
def tDcG (O : Addr → HO) (Put : Addr → (Hp → Prop) → V → V → Hp → Prop) (walk : TI) (g : TG) (tt : TT) (tk tv : TE) (own : List Nat) : TE := fun σ H Q => walk σ H fun J H1 => ∀ D, H1 D = none → ∃ W : Nat → Nat → Hp → Prop, (∃ m, W 0 m (upd H1 D (O D))) ∧ ∀ i m G, W i m G →
  (J.stop i G ∧ Q (.ref D) G) ∨ (J.go i G ∧ ∃ N : Hp → Prop, (∀ G', N G' → ∃ m', m' < m ∧ W (i + 1) m' G') ∧
    ∀ x G', J.yld i G x G' → g x (wipe σ own) G' fun σ2 G2 => wipe σ2 own = wipe σ own ∧ tt σ2 G2 fun b G3 => if b = true then tk σ2 G3 fun y G4 => tv σ2 G4 fun z G5 => Put D N y z G5 else N G3)
/-- the pair is put into the dict at D -/
def PutT (D : Addr) (N : Hp → Prop) (y z : V) (G : Hp) : Prop := ∃ kvs k b, y = .ref b ∧ G b = some (.tup (k.map kV)) ∧ G D = some (.dT kvs) ∧ kvs.length < sizeLine ∧ N (upd G D (.dT (putK kvs k z)))
/-- what a storing must be -/
def Stores (X : Cx) (Put : Addr → (Hp → Prop) → V → V → Hp → Prop) : Prop := ∀ (B : Cx) (pins : List (Addr × Obj)) (σ : L2.St) (G : Hp) (t : Shared) (D : Addr) (N : Hp → Prop) (y z : V) (u r : Value) (Q : Unit → Shared → Prop) (E : Value → Shared → Prop),
  B.prog = X.prog → B.w = X.w → B.A = X.A → B.K = X.K → Inv B pins σ G t → Put D N y z G → RelV y u → RelV z r → (∀ t' G', Inv B pins σ G' t' → N G' → Q () t') → wpAny (model B.prog B.w) B.A (dictSet D u r) Q E t
theorem pe_dcG {O : Addr → HO} {Put : Addr → (Hp → Prop) → V → V → Hp → Prop} {kx vx tgt it : Expr} {ifs : List Expr} {sc : Scope} {own : List (Str × Nat)} {pos : Pos} {walk : TI} {g : TG} {tt : TT} {tk tv : TE} (mk0 : ∀ (H : Hp) (h : Heap), sysModules < h.objs.size → ObjOk X.prog X.w H (h.push { cls := .type "dict", data := .dict #[] }) h.objs.size (O h.objs.size)) (store : Stores X Put) (calm : X.calm = true) (nod : X.N.Nodup)
    (pi : PI X tgt it walk) (bo : BlkOk X.N X.env.scope sc own) (pg : InBlk X sc fun B => PG B tgt g) (pt : InBlk X sc fun B => PTs B ifs tt) (pk : InBlk X sc fun B => PE B kx tk) (pv : InBlk X sc fun B => PE B vx tv)
    (plain : ∀ x, foldedSetIterable it X.env x = pure x := by intro _; rfl) : PE X (.DictComp kx vx [⟨tgt, it, ifs, 0⟩] sc pos) (tDcG O Put walk g tt tk tv (own.map (·.2))) := ⟨fun pins s σ H Q I h => by
  rw [arm_eval_DictComp]
  have free : ∀ y ∈ sc.names, y.2 = .free → ∃ c, X.env.cells.lookup y.1 = some c := fun y hy e => (bo.free y hy e).elim (fun k => I.ok.has _ (.inl k)) fun k => I.ok.has _ (.inr k)
  refine wpAny_comprehension_free (use := none) rfl plain (closure_ok free) bo.kind (fun y hy e => by rw [bo.uniq y hy, e]) ?_
  -- what is walked, then the empty dict
  refine thn (pi.run pins s σ H _ I h) fun xv s1 hx => thn hx ?_
  rintro itv s2 ⟨ad, feet, tn, J, H2, rfl, I2, T, at2, ft2, q⟩
  refine wpAny_newObj_type (newEnv_comp ?_)
  have fresh : H2 s2.heap.objs.size = none := I2.hok.fresh (Nat.le_refl _)
  obtain ⟨W, ⟨m0, w0⟩, turn⟩ := q _ fresh
  let s3 : Shared := { s2 with heap := s2.heap.push { cls := .type "dict", data := .dict #[] } }
  let D : Addr := s2.heap.objs.size
  let H3 : Hp := upd H2 D (O D)
  let L : Addr := s3.heap.objs.size
  let e3 : Env := compEnvC sc (cellsFrom (L + 1) sc.names (cloFrom X.env.cells sc.names [])) L X.env
  let s4 : Shared := { s3 with heap := pushCells (s3.heap.push { cls := .type "dict", data := .dict #[] }) sc.names }
  have I3 : Inv X pins σ H3 s3 := I2.laid (t' := s2.toks) (fun _ _ e => Heap.get?_push_of_some _ e) (Nat.le_refl _) (mk0 _ s2.heap I2.big)
  have grown : ∀ b o, s2.heap.get? b = some o → s3.heap.get? b = some o := fun _ _ e => Heap.get?_push_of_some _ e
  have low : ∀ b ∈ feet, b < s2.heap.objs.size := fun b hb => Heap.lt_size (T.obj _ _ at2 b hb).choose_spec.1
  have ft3 : ∀ b ∈ feet, FpOk X pins H3 b ∧ b < s3.heap.objs.size := fun b hb => ⟨⟨(upd_ne (Nat.ne_of_lt (low b hb))).trans (ft2 b hb).1, (ft2 b hb).2⟩, by show b < (s2.heap.push _).objs.size; rw [Heap.size_push]; exact Nat.lt_succ_of_lt (low b hb)⟩
  have at3 : tn 0 s3.heap := T.keep _ _ _ at2 fun b _ o e => grown b o e
  have I4 : Inv (X.blk s3 H3 sc e3 feet) [] (wipe σ (own.map (·.2))) H3 s4 := block_start I3 bo nod ft3
  have at4 : tn 0 s4.heap := T.keep _ _ _ at3 fun b _ o e => pushCells_keeps _ _ _ _ (Heap.get?_push_of_some _ e)
  -- the walker's own objects in the block's context
  have foot : ∀ {σ' : L2.St} {G : Hp} {t : Shared}, Inv (X.blk s3 H3 sc e3 feet) [] σ' G t → (∀ b ∈ feet, G b = none) → ∀ b ∈ feet, FpOk (X.blk s3 H3 sc e3 feet) [] G b := by
    intro σ' G t J' none b hb
    refine ⟨none b hb, (J'.ok.exf b hb).1, J'.ok.exfs b hb, .inl hb, fun x c e => (J'.ok.exf b hb).2 x c e, ?_⟩
    intro p hp
    exact nomatch (show p ∈ ([] : List (Addr × Obj)) from by simpa using hp)
  have loop : codeAny (model X.prog X.w) X.A (.compLoop (.DictComp kx vx [⟨tgt, it, ifs, 0⟩] sc pos) 0 (.ref ad) (.ref D) e3) (compPost (model X.prog X.w) X.A X.xe none (fun v t => ∃ x G, Inv X pins σ G t ∧ RelV x v ∧ Q x G) (.ref D) L) s4 := by
    refine compLoop_anyD (fun n t => ∃ i G, Inv (X.blk s3 H3 sc e3 feet) [] (wipe σ (own.map (·.2))) G t ∧ tn i t.heap ∧ (∀ b ∈ feet, G b = none) ∧ W i n G) ?_ m0 ⟨0, H3, I4, at4, fun b hb => (ft3 b hb).1.1, w0⟩
    rintro n t ⟨i, G, IG, atG, nG, wG⟩
    obtain ⟨stop, fin⟩ | ⟨go, N, less, step⟩ := turn i n G wG
    · refine thnF (T.done (X.blk s3 H3 sc e3 feet) rfl rfl rfl calm i [] t _ G (fun _ _ => False) IG (foot IG nG) atG stop) ?_
      rintro r t6 ⟨rfl, I6⟩
      have I7 : Inv X pins σ G t6 := I3.call' (ch := feet) I6.os I6.base I6.hok I6.bare fun b hb => let z := (ft3 b hb).1.2; ⟨z.2.2.1, z.1, z.2.2.2.1, z.2.2.2.2⟩
      obtain ⟨m, names, _⟩ := I6.loc
      obtain ⟨a0, a1, a2, a3, a4, a5⟩ := I3.fpOk (Nat.le_refl _) (show G L = none from I6.free)
      exact ⟨m, names, fun h'' kept => ⟨.ref D, G, I7.turned (t' := t6.toks) (fun b o hb e => (kept.2 b hb).trans e) a0 a1 a3 a4 a5, rfl, fin⟩⟩
    · refine thnF (T.item (X.blk s3 H3 sc e3 feet) rfl rfl rfl calm i [] t _ G (fun _ _ => False) IG (foot IG nG) atG go) ?_
      rintro r t6 ⟨u, rfl, h6⟩
      refine thnF h6 ?_
      rintro _ t7 ⟨x, G7, I7, r7, y7, at7, n7⟩
      refine thnF ((pg _ _ _ _ _).run _ t7 _ G7 x u _ (I7.pinned (foot I7 n7) (T.obj _ _ at7)) r7 (step x G7 y7)) ?_
      rintro _ t8 ⟨σ8, G8, I8, wp8, q8⟩
      refine thnF ((pt _ _ _ _ _).run _ t8 σ8 G8 _ I8 q8) ?_
      rintro b t9 ⟨G9, I9, q9⟩
      have back : ∀ {t' : Shared} {G' : Hp}, Inv (X.blk s3 H3 sc e3 feet) ([] ++ pinsAt feet t7.heap) σ8 G' t' → N G' → ∃ m, m < n ∧ ∃ i G, Inv (X.blk s3 H3 sc e3 feet) [] (wipe σ (own.map (·.2))) G t' ∧ tn i t'.heap ∧ (∀ b ∈ feet, G b = none) ∧ W i m G := by
        intro t' G' I' nx
        obtain ⟨m', lt, w'⟩ := less G' nx
        have held : ∀ b ∈ feet, ∀ o, t7.heap.get? b = some o → t'.heap.get? b = some o ∧ G' b = none := fun b hb o e => let z := I'.pin (b, o) (List.mem_append_right _ (List.mem_append_right _ (mem_pinsAt hb e))); ⟨z.1, z.2.1⟩
        refine ⟨m', lt, i + 1, G', I'.unpinned.weak (by rw [← wp8, wipe_length]) fun j v e => ?_, T.keep _ _ _ at7 fun b hb o e => (held b hb o e).1, fun b hb => ?_, w'⟩
        · exact (wipe_some (wp8 ▸ e)).1
        · obtain ⟨o, e, _⟩ := T.obj _ _ at7 b hb
          exact (held b hb o e).2
      by_cases yes : b = true
      · subst yes
        refine thnF ((pk _ _ _ _ _).run _ t9 σ8 G9 _ I9 q9) ?_
        rintro ku t10 ⟨ky, G10, I10, r10, q10⟩
        refine thnF ((pv _ _ _ _ _).run _ t10 σ8 G10 _ I10 q10) ?_
        rintro vu t11 ⟨vy, G11, I11, r11, putting⟩
        exact store (X.blk s3 H3 sc e3 feet) _ _ _ _ _ _ _ _ _ _ _ _ rfl rfl rfl rfl I11 putting r10 r11 fun t12 G12 I12 nx => back I12 nx
      · have no : b = false := by cases b with | true => exact absurd rfl yes | false => rfl
        subst no
        exact back I9 q9
  exact codeAny_compStart_dict loop (T.self X.A 0 _ _ _ at4 loop)⟩
/-- keys that are tuples of ints and texts -/
abbrev tDcT (walk : TI) (g : TG) (tt : TT) (tk tv : TE) (own : List Nat) : TE := tDcG (fun _ => .dT []) PutT walk g tt tk tv own
theorem stores_T (hu : X.A.units + 1 < cLine) : Stores X PutT := by
  rintro B pins σ G t D N y z u r Q E e1 e2 e3 e4 I ⟨kvs, k, kb, rfl, tup, dict, room, nx⟩ ry rz h
  exact d_dictSetT (by rw [e3]; exact hu) I dict room tup ry rz fun t' I' => h t' _ I' nx
theorem pe_dcT {kx vx tgt it : Expr} {ifs : List Expr} {sc : Scope} {own : List (Str × Nat)} {pos : Pos} {walk : TI} {g : TG} {tt : TT} {tk tv : TE} (hu : X.A.units + 1 < cLine) (calm : X.calm = true) (nod : X.N.Nodup)
    (pi : PI X tgt it walk) (bo : BlkOk X.N X.env.scope sc own) (pg : InBlk X sc fun B => PG B tgt g) (pt : InBlk X sc fun B => PTs B ifs tt) (pk : InBlk X sc fun B => PE B kx tk) (pv : InBlk X sc fun B => PE B vx tv)
    (plain : ∀ x, foldedSetIterable it X.env x = pure x := by intro _; rfl) : PE X (.DictComp kx vx [⟨tgt, it, ifs, 0⟩] sc pos) (tDcT walk g tt tk tv (own.map (·.2))) :=
  pe_dcG (fun _ h b => dt_empty h b) (stores_T hu) calm nod pi bo pg pt pk pv plain
/-! ### dicts whose keys are tuples that may be known to their objects -/
/-- the dict at a: kvs its pairs, ks its keys with the tuples that stand for them -/
def KX (kvs : List (List Key × V)) (ks : List (List Key × Addr)) (xs : List (List Key × Addr × Value)) : Prop := Paired (fun (p : List Key × V) (q : List Key × Addr × Value) => p.1 = q.1 ∧ RelV p.2 q.2.2) kvs xs ∧ xs.map (fun q => (q.1, q.2.1)) = ks
def dXo (P : Program) (w : World) (a : Addr) (kvs : List (List Key × V)) (ks : List (List Key × Addr)) : HO := .ext fun h => kvs.length ≤ sizeLine ∧ (a == sysModules) = false ∧ ∃ xs, KX kvs ks xs ∧ (∃ o es ep, h.get? a = some o ∧ o.ExactDict ∧ o.data = .dict es ep ∧ es.toList = xs.map (entryOfKey (tupleKind (mixKind P w)))) ∧ (xs.map (·.1)).Nodup
theorem dXo_ok {P : Program} {w : World} {H : Hp} {h : Heap} {a : Addr} {kvs : List (List Key × V)} {ks : List (List Key × Addr)} {xs : List (List Key × Addr × Value)} {o : Obj} {es : Array DictEntry} {ep : Nat} (l : kvs.length ≤ sizeLine) (n : (a == sysModules) = false) (r : KX kvs ks xs) (g : h.get? a = some o) (x : o.ExactDict) (d : o.data = .dict es ep)
    (e : es.toList = xs.map (entryOfKey (tupleKind (mixKind P w)))) (nd : (xs.map (·.1)).Nodup) : ObjOk P w H h a (dXo P w a kvs ks) := by
  refine ⟨⟨l, n, xs, r, ⟨o, es, ep, g, x, d, e⟩, nd⟩, ⟨o, g⟩, ?_⟩
  rintro h1 h2 ⟨l1, n1, xs1, r1, ⟨o1, es1, ep1, g1, x1, d1, e1⟩, nd1⟩ same
  exact ⟨l1, n1, xs1, r1, ⟨o1, es1, ep1, same o1 g1, x1, d1, e1⟩, nd1⟩
/-- the tuples stand -/
def KsAt (H : Hp) (ks : List (List Key × Addr)) : Prop := ∀ p ∈ ks, Rd H p.2 (.tup (p.1.map kV))
theorem dXo_at {P : Program} {w : World} {H : Hp} {h : Heap} {a : Addr} {kvs : List (List Key × V)} {ks : List (List Key × Addr)} (ok : HOk P w H h) (e : H a = some (dXo P w a kvs ks)) (t : KsAt H ks) :
    kvs.length ≤ sizeLine ∧ (a == sysModules) = false ∧ ∃ xs, KX kvs ks xs ∧ h.DictOfH (tupleKind (mixKind P w)) a xs := by
  obtain ⟨⟨l, n, xs, r, ⟨o, es, ep, g, x, d, e1⟩, nd⟩, _⟩ := ok a _ e
  refine ⟨l, n, xs, r, o, es, ep, g, x, d, e1, fun q hq => ?_, nd⟩
  have hk : (q.1, q.2.1) ∈ ks := by rw [← r.2]; exact List.mem_map.mpr ⟨q, hq, rfl⟩
  exact key_rd ok (t _ hk)
theorem paired_keys {F : (List Key × V) → (List Key × Addr × Value) → Prop} (hF : ∀ p q, F p q → p.1 = q.1) : ∀ {kvs : List (List Key × V)} {xs : List (List Key × Addr × Value)}, Paired F kvs xs → kvs.map (·.1) = xs.map (·.1) := by
  intro kvs xs r
  induction r with
  | nil => rfl
  | cons h t ih => rw [List.map_cons, List.map_cons, ih, hF _ _ h]
theorem kx_val {kvs : List (List Key × V)} {ks : List (List Key × Addr)} {xs : List (List Key × Addr × Value)} (r : KX kvs ks xs) (k : List Key) : RelO (valV kvs k) ((atKey xs k).map (·.2)) := by
  replace r := r.1
  induction r with
  | nil => exact True.intro
  | @cons p q ps qs h t ih =>
    by_cases c : p.1 = k
    · have c' : q.1 = k := h.1.symm.trans c
      rw [valV_pos c, show atKey (q :: qs) k = some q.2 by simp [atKey, List.find?_cons, c']]
      exact h.2
    · have c' : ¬ q.1 = k := fun z => c (h.1.trans z)
      rw [valV_neg c, show atKey (q :: qs) k = atKey qs k by simp [atKey, List.find?_cons, c']]
      exact ih
/-- the keys behind a storing -/
def ksPut (kvs : List (List Key × V)) (ks : List (List Key × Addr)) (k : List Key) (b : Addr) : List (List Key × Addr) := if (valV kvs k).isSome = true then ks else ks ++ [(k, b)]
theorem kx_put {kvs : List (List Key × V)} {ks : List (List Key × Addr)} {xs : List (List Key × Addr × Value)} (r : KX kvs ks xs) (k : List Key) (b : Addr) {y : V} {u : Value} (ry : RelV y u) : KX (putK kvs k y) (ksPut kvs ks k b) (storedH xs k b u) := by
  have e : (valV kvs k).isSome = (atKey xs k).isSome := by rw [(kx_val r k).isSome_eq, Option.isSome_map]
  obtain ⟨r, rk⟩ := r
  unfold putK storedH ksPut
  rw [valV_any, e]
  by_cases c : (atKey xs k).isSome = true
  · rw [if_pos c, if_pos c, if_pos c]
    refine ⟨?_, ?_⟩
    · clear rk e c
      induction r with
      | nil => exact .nil
      | @cons p q ps qs h t ih =>
        refine .cons ?_ ih
        show (if p.1 = k then (p.1, y) else p).1 = (putAt k u q).1 ∧ RelV (if p.1 = k then (p.1, y) else p).2 (putAt k u q).2.2
        unfold putAt
        by_cases d : p.1 = k
        · rw [if_pos d, if_pos (h.1.symm.trans d)]
          exact ⟨h.1, ry⟩
        · rw [if_neg d, if_neg (fun z => d (h.1.trans z))]
          exact h
    · rw [← rk, List.map_map]
      refine List.map_congr_left fun q _ => ?_
      show ((putAt k u q).1, (putAt k u q).2.1) = _
      unfold putAt
      split <;> rfl
  · rw [if_neg c, if_neg c, if_neg c]
    exact ⟨Paired.snoc r ⟨rfl, ry⟩, by rw [List.map_append, rk]; rfl⟩
def PutX (P : Program) (w : World) (D : Addr) (N : Hp → Prop) (y z : V) (G : Hp) : Prop := ∃ kvs ks k b, y = .ref b ∧ Rd G b (.tup (k.map kV)) ∧ G D = some (dXo P w D kvs ks) ∧ KsAt G ks ∧ kvs.length < sizeLine ∧ N (upd G D (dXo P w D (putK kvs k z) (ksPut kvs ks k b)))
theorem stores_X (hu : X.A.units + 1 < cLine) : Stores X (PutX X.prog X.w) := by
  rintro B pins σ G t D N y z u r Q E e1 e2 e3 e4 I ⟨kvs, ks, k, kb, rfl, tup, dict, kat, room, nx⟩ ry rz h
  cases (show u = Value.ref kb from ry)
  rw [← e1, ← e2] at dict nx
  obtain ⟨l, n, xs, rel, dd⟩ := dXo_at I.hok dict kat
  have lx : xs.length = kvs.length := (Paired.length rel.1).symm
  refine wpAny_dictSet_heap (hsz := by omega) (show (tupleKind (mixKind B.prog B.w)).room B.A from by rw [e3]; exact Nat.lt_of_succ_lt hu) (key_rd I.hok tup) dd fun h' dd' same => h _ _ ?_ nx
  obtain ⟨o, es, ep, g, x, d, e5, _, nd⟩ := dd'
  exact d_write I (by rw [dict]; exact True.intro) same ⟨o, g⟩ (dXo_ok (Nat.le_trans (length_putK kvs k z) room) n (kx_put rel k kb rz) g x d e5 nd)
theorem dXo_empty {P : Program} {w : World} (H : Hp) (h : Heap) (b : sysModules < h.objs.size) : ObjOk P w H (h.push { cls := .type "dict", data := .dict #[] }) h.objs.size (dXo P w h.objs.size [] []) :=
  dXo_ok (xs := []) (Nat.zero_le _) (beq_eq_false_iff_ne.mpr (Ne.symm (Nat.ne_of_lt b))) ⟨.nil, rfl⟩ (Heap.get?_push_size _ rfl) ⟨rfl, rfl, rfl⟩ rfl rfl List.nodup_nil
abbrev tDcX (P : Program) (w : World) (walk : TI) (g : TG) (tt : TT) (tk tv : TE) (own : List Nat) : TE := tDcG (fun D => dXo P w D [] []) (PutX P w) walk g tt tk tv own
theorem pe_dcX {P : Program} {w : World} (hP : X.prog = P) (hw : X.w = w) {kx vx tgt it : Expr} {ifs : List Expr} {sc : Scope} {own : List (Str × Nat)} {pos : Pos} {walk : TI} {g : TG} {tt : TT} {tk tv : TE} (hu : X.A.units + 1 < cLine) (calm : X.calm = true) (nod : X.N.Nodup)
    (pi : PI X tgt it walk) (bo : BlkOk X.N X.env.scope sc own) (pg : InBlk X sc fun B => PG B tgt g) (pt : InBlk X sc fun B => PTs B ifs tt) (pk : InBlk X sc fun B => PE B kx tk) (pv : InBlk X sc fun B => PE B vx tv)
    (plain : ∀ x, foldedSetIterable it X.env x = pure x := by intro _; rfl) : PE X (.DictComp kx vx [⟨tgt, it, ifs, 0⟩] sc pos) (tDcX P w walk g tt tk tv (own.map (·.2))) := by
  subst hP hw
  exact pe_dcG (fun H h b => dXo_empty H h b) (stores_X hu) calm nod pi bo pg pt pk pv plain
/-- d[k] of such a dict -/
def tXGet (P : Program) (w : World) (td ty : TE) : TE := fun σ H Q => td σ H fun x H1 => ty σ H1 fun y H2 => ∃ a kvs ks k b v, x = .ref a ∧ y = .ref b ∧ H2 a = some (dXo P w a kvs ks) ∧ KsAt H2 ks ∧ Rd H2 b (.tup (k.map kV)) ∧ valV kvs k = some v ∧ Q v H2
theorem pe_xget {P : Program} {w : World} (hP : X.prog = P) (hw : X.w = w) (hu : X.A.units + 1 < cLine) {o i : Expr} {td ty : TE} {pos : Pos} (ho : PE X o td) (hi : PE X i ty) (hs : NoSl i) : PE X (.Subscript o i pos) (tXGet P w td ty) := by
  subst hP hw
  refine ⟨fun pins s σ H Q I h => ?_⟩
  refine subD_of PySem.F.slot_dict_getitem.lookup hs (thn (ho.run pins s σ H _ I h) fun ov s1 ⟨x, H1, I1, rx, q1⟩ => thn (hi.run pins s1 σ H1 _ I1 q1) ?_)
  rintro iv s2 ⟨y, H2, I2, ry, a, kvs, ks, k, b, v, rfl, rfl, dict, kat, tup, has, q2⟩
  obtain rfl : ov = Value.ref a := rx
  cases (show iv = Value.ref b from ry)
  obtain ⟨l, n, xs, rel, dd⟩ := dXo_at I2.hok dict kat
  have rv := kx_val rel k
  rw [has] at rv
  obtain ⟨u, hp, ru⟩ := RelO.some_of rv
  obtain ⟨p, hp', rfl⟩ := Option.map_eq_some_iff.mp hp
  refine ⟨?_, wpAny_getItem_heap (tupleKind_room_in1 hu) (key_rd I2.hok tup) dd hp' ?_⟩
  · obtain ⟨o', es, ep, g, x, _⟩ := dd
    exact ⟨o', g, x.1⟩
  · exact ⟨v, H2, I2.tok _, ru, q2⟩
/-- deep membership, in lists and in tuples -/
def rInDT (K : PySem.W.Frag) : R2 := fun x y H Q => ∃ d ds, Dp K H x d ∧ Dp K H y (.tuple ds) ∧ SeqAt.shaped d = true ∧ SeqAt.shaped (.tuple ds) = true ∧ Q (.bl (ds.any fun z => PyData.eqv z d)) H
def rNotInDT (K : PySem.W.Frag) : R2 := fun x y H Q => ∃ d ds, Dp K H x d ∧ Dp K H y (.tuple ds) ∧ SeqAt.shaped d = true ∧ SeqAt.shaped (.tuple ds) = true ∧ Q (.bl (!ds.any fun z => PyData.eqv z d)) H
theorem op_inDT {K : PySem.W.Frag} (hK : X.K = K) (hu : X.A.units + 65 < cLine) : OpR X (compareOp .In) (rInDT K) := by
  subst hK
  intro pins s σ H x y v u Q I rx ry h
  obtain ⟨d, ds, hd, he, sd, se, q⟩ := h
  obtain ⟨as, r1⟩ := Dp.reads I d x v hd rx
  obtain ⟨bs, r2⟩ := Dp.reads I (.tuple ds) y u he ry
  exact SeqAt.in_tuple_reads r2 r1 (SeqAt.canLay_of_shaped se) (SeqAt.canLay_of_shaped sd) (room_in_shaped sd hu) ⟨.bl _, H, I, rfl, q⟩
theorem op_notInDT {K : PySem.W.Frag} (hK : X.K = K) (hu : X.A.units + 65 < cLine) : OpR X (compareOp .NotIn) (rNotInDT K) := by
  subst hK
  intro pins s σ H x y v u Q I rx ry h
  obtain ⟨d, ds, hd, he, sd, se, q⟩ := h
  obtain ⟨as, r1⟩ := Dp.reads I d x v hd rx
  obtain ⟨bs, r2⟩ := Dp.reads I (.tuple ds) y u he ry
  exact SeqAt.notIn_tuple_reads r2 r1 (SeqAt.canLay_of_shaped se) (SeqAt.canLay_of_shaped sd) (room_in_shaped sd hu) ⟨.bl _, H, I, rfl, q⟩
theorem op_inDK {K : PySem.W.Frag} (hK : X.K = K) (hu : X.A.units + 65 < cLine) : OpR X (compareOp .In) (rInD K) := by subst hK; exact op_inD hu
theorem op_notInDK {K : PySem.W.Frag} (hK : X.K = K) (hu : X.A.units + 65 < cLine) : OpR X (compareOp .NotIn) (rNotInD K) := by subst hK; exact op_notInD hu
/-- t.index(n), the first place, of a tuple of ints -/
def rTIdx (K : PySem.W.Frag) : V → List V → Hp → VK → Prop := fun x xs H Q => ∃ p, ∃ ys : List Int, ∃ z j, x = .ref p ∧ xs = [.int z] ∧ SqT K H p (ys.map V.int) ∧ ys[j]? = some z ∧ (∀ m, m < j → ys[m]? ≠ some z) ∧ Q (.int (j : Nat)) H
theorem flat_ints (ys : List Int) : (ys.map V.int).all flatV = true := by induction ys <;> simp_all [flatV]
theorem mt_tup_indexI {K : PySem.W.Frag} (hK : X.K = K) : MtR X "tuple.index" (rTIdx K) := by
  subst hK
  rintro pins s σ H _ _ v us Q I rx rs ⟨p, ys, z, j, rfl, rfl, reads, found, first, q⟩
  cases rx
  obtain ⟨_, rfl, tk, rfl⟩ := vals1 rs
  obtain ⟨its, vals, ⟨⟨_, dd, _, sl⟩, stands, rfl, n, rfl⟩, _⟩ := I.tuple reads
  have size : its.length = ys.length := by simpa using vals.length.symm
  have item : ∀ m : Nat, m < ys.length → ∃ t', its[m]? = some (Value.int (ys.getD m 0) t') := by
    intro m hm
    obtain ⟨w, hw, t', rfl⟩ := vals.get (i := m) (x := V.int (ys.getD m 0)) (by simp [hm])
    exact ⟨t', hw⟩
  have eqs : ∀ (m : Nat) (hm : m < its.toArray.size), eqU (V.int z) its.toArray[m] = decide (ys.getD m 0 = z) := by
    intro m hm
    obtain ⟨t', e⟩ := item m (by simpa [size] using hm)
    have e' : its.toArray[m] = Value.int (ys.getD m 0) t' := by
      have := (List.getElem?_eq_some_iff.mp e).2
      simpa using this
    rw [e']
    rfl
  have inside := (List.getElem?_eq_some_iff.mp found).1
  have jz : ys.getD j 0 = z := by rw [List.getD_eq_getElem?_getD, found]; rfl
  have answer := TI.tuple_indexAt p its.toArray n dd sl (.int z tk) (eqU (.int z)) j (by simpa [size] using inside) (by rw [eqs, jz]; exact decide_eq_true rfl) (fun m hm lt => by
    rw [eqs]
    refine decide_eq_false fun e => first m lt ?_
    have inm : m < ys.length := by simpa [size] using hm
    rw [List.getElem?_eq_getElem inm, ← e, List.getD_eq_getElem?_getD, List.getElem?_eq_getElem inm]
    rfl)
  exact call_meets PySem.F.slot_tuple_index ⟨_, stands, rfl⟩ PySem.F.entry_tuple_index (PySem.F.args_tuple_index_2 _ _) answer
    ⟨stands, fun w hw => mem_eqAt (x := .int z) ⟨tk, rfl⟩ rfl vals (flat_ints ys) w (by simpa using hw), ⟨.int (j : Nat), H, I.tok _, ⟨_, rfl⟩, q⟩⟩
end
/-! ### loops over enumerate and zip, whatever their bodies -/
theorem enumL_loop {K : PySem.W.Frag} {a : Addr} {xs : List V} {Qd : Hp → Prop} {H0 : Hp} {B : V → Hp → (Hp → Prop) → Prop} (Pv : Nat → Hp → Prop) (h0 : Pv 0 H0) (hl : ∀ i H, i ≤ xs.length → Pv i H → SqL K H a xs) (hs : ∀ i x T H, xs[i]? = some x → H T = none → Pv i H → B (.ref T) (upd H T (.tup [.int (i : Nat), x])) (Pv (i + 1))) (hd : ∀ H, Pv xs.length H → Qd H) :
    ∃ W : Nat → Nat → Hp → Prop, (∃ m, W 0 m H0) ∧ ∀ i m H, W i m H → ((Ite K a).stop i H ∧ Qd H) ∨ ((Ite K a).go i H ∧ ∃ Nx : Hp → Prop, (∀ H', Nx H' → ∃ m', m' < m ∧ W (i + 1) m' H') ∧ ∀ x H', (Ite K a).yld i H x H' → B x H' Nx) := by
  refine ⟨fun i m H => m = xs.length - i ∧ i ≤ xs.length ∧ Pv i H, ⟨_, rfl, Nat.zero_le _, h0⟩, ?_⟩
  rintro i m H ⟨rfl, hi, p⟩
  have q := hl i H hi p
  by_cases hlt : i < xs.length
  · refine .inr ⟨⟨xs, xs[i], q, by simp [hlt]⟩, Pv (i + 1), fun H' p' => ⟨xs.length - (i + 1), by omega, rfl, hlt, p'⟩, fun x H' y => ?_⟩
    obtain ⟨T, z, rfl, hT, rfl, hz⟩ := y
    exact hs i z T _ (hz xs q) hT p
  · have e : i = xs.length := by omega
    subst e
    exact .inl ⟨⟨xs, q, Nat.le_refl _⟩, hd H p⟩
theorem enumT_loop {K : PySem.W.Frag} {a : Addr} {xs : List V} {Qd : Hp → Prop} {H0 : Hp} {B : V → Hp → (Hp → Prop) → Prop} (Pv : Nat → Hp → Prop) (h0 : Pv 0 H0) (hl : ∀ i H, i ≤ xs.length → Pv i H → SqT K H a xs) (hs : ∀ i x T H, xs[i]? = some x → H T = none → Pv i H → B (.ref T) (upd H T (.tup [.int (i : Nat), x])) (Pv (i + 1))) (hd : ∀ H, Pv xs.length H → Qd H) :
    ∃ W : Nat → Nat → Hp → Prop, (∃ m, W 0 m H0) ∧ ∀ i m H, W i m H → ((Itet K a).stop i H ∧ Qd H) ∨ ((Itet K a).go i H ∧ ∃ Nx : Hp → Prop, (∀ H', Nx H' → ∃ m', m' < m ∧ W (i + 1) m' H') ∧ ∀ x H', (Itet K a).yld i H x H' → B x H' Nx) := by
  refine ⟨fun i m H => m = xs.length - i ∧ i ≤ xs.length ∧ Pv i H, ⟨_, rfl, Nat.zero_le _, h0⟩, ?_⟩
  rintro i m H ⟨rfl, hi, p⟩
  have q := hl i H hi p
  by_cases hlt : i < xs.length
  · refine .inr ⟨⟨xs, xs[i], q, by simp [hlt]⟩, Pv (i + 1), fun H' p' => ⟨xs.length - (i + 1), by omega, rfl, hlt, p'⟩, fun x H' y => ?_⟩
    obtain ⟨T, z, rfl, hT, rfl, hz⟩ := y
    exact hs i z T _ (hz xs q) hT p
  · have e : i = xs.length := by omega
    subst e
    exact .inl ⟨⟨xs, q, rfl⟩, hd H p⟩
end D
namespace D
open PySem PySem.Spec PyProof.Rows L2
section
variable {X : Cx}
/-- tuple(list): the new object is known to have no dict -/
def rTupF (K : PySem.W.Frag) : List V → Hp → VK → Prop := fun xs H Q => ∃ p ys, xs = [.ref p] ∧ SqL K H p ys ∧ ∀ l o, H l = none → o.cls = .type "tuple" → o.dict = none → Q (.ref l) (upd H l (.frz o (.tup ys)))
theorem call_tupleF {K : PySem.W.Frag} (hK : X.K = K) : CallR X (.type "tuple") (rTupF K) := by
  subst hK
  intro pins s σ H xs us Q I r h
  obtain ⟨p, ys, rfl, hq, q⟩ := h
  obtain ⟨u, rfl, rx⟩ := vals1 r
  cases rx
  obtain ⟨its, r', pl, hz⟩ := I.list hq
  have hlen := r'.length
  refine call_tuple_list pl.isList (fun h' kp => ?_) (by simp only [List.size_toArray] <;> omega)
  have I1 : Inv X pins σ H { s with heap := h' } := I.kept (t' := s.toks) kp
  have I2 : Inv X pins σ (upd H h'.objs.size (.frz { cls := .type "tuple", data := .seq its.toArray } (.tup ys))) { s with heap := h'.push { cls := .type "tuple", data := .seq its.toArray } } :=
    I1.laid (t' := s.toks) (fun b o e => Heap.get?_push_of_some _ e) (Nat.le_refl _) (show ObjOk X.prog X.w _ _ _ (.frz _ (.tup ys)) from ⟨Heap.get?_push_size _ rfl, hz, its, r', IsTup.new _ _⟩)
  exact ⟨.ref h'.objs.size, _, I2, rfl, q _ _ (I1.hok.fresh (Nat.le_refl _)) rfl rfl⟩
/-- t[lo:hi], the cut known to its object -/
def rSlF (K : PySem.W.Frag) : V → Option Int → Option Int → Hp → VK → Prop := fun x lo hi H Q => ∃ a xs, x = .ref a ∧ SqT K H a xs ∧
  (HT.sIx xs.length 0 lo = 0 ∧ HT.sIx xs.length xs.length hi = xs.length → Q (.ref a) H) ∧ (¬ (HT.sIx xs.length 0 lo = 0 ∧ HT.sIx xs.length xs.length hi = xs.length) → ∀ p o, H p = none → o.cls = .type "tuple" → o.dict = none → Q (.ref p) (upd H p (.frz o (.tup (cutV xs lo hi)))))
theorem sl_tupF {K : PySem.W.Frag} (hK : X.K = K) : SlR X (rSlF K) := by
  subst hK
  rintro pins s σ H _ v vl vu lo hi sl Q I rx hs pl pu ⟨a, xs, rfl, reads, all, part⟩
  by_cases whole : HT.sIx xs.length 0 lo = 0 ∧ HT.sIx xs.length xs.length hi = xs.length
  · exact sl_tupA pins s σ H _ v vl vu lo hi sl Q I rx hs pl pu ⟨a, xs, rfl, reads, all, fun z => absurd whole z⟩
  · cases rx
    obtain ⟨its, vals, stands, small⟩ := I.tuple reads
    have size : its.toArray.size = xs.length := by rw [List.size_toArray]; exact vals.length.symm
    refine ⟨"tuple", _, PyProof.Rows.slot_tuple_getitem.lookup, stands.typeIs, HT.getItem_tuple_cut stands hs pl pu (by rw [size]; exact whole) ?_ (by rw [size]; exact small)⟩
    rw [size]
    have cut := (vals.drop (HT.sIx xs.length 0 lo)).take (HT.sIx xs.length xs.length hi - HT.sIx xs.length 0 lo)
    let ob : Obj := { cls := .type "tuple", data := .seq ((its.drop (HT.sIx xs.length 0 lo)).take (HT.sIx xs.length xs.length hi - HT.sIx xs.length 0 lo)).toArray }
    have good : ObjOk X.prog X.w (upd H s.heap.objs.size (.frz ob (.tup (cutV xs lo hi)))) (s.heap.push ob) s.heap.objs.size (.frz ob (.tup (cutV xs lo hi))) := ⟨Heap.get?_push_size _ rfl, Nat.le_trans (cutV_length xs lo hi) small, _, cut, IsTup.new _ _⟩
    exact ⟨.ref s.heap.objs.size, _, I.laid (t' := s.toks) (fun b ob e => Heap.get?_push_of_some _ e) (Nat.le_refl _) good, rfl, part whole _ ob (I.hok.fresh (Nat.le_refl _)) rfl rfl⟩
def tyTup (x : V) (H : Hp) : Prop := ∃ a o u, x = .ref a ∧ H a = some (.frz o u) ∧ o.cls = .type "tuple" ∧ o.dict = none
theorem ty_tup : TyOk X "tuple" tyTup := by
  intro pins σ H s x v I r h
  obtain ⟨a, o, u, rfl, e, hc, hd⟩ := h
  cases r
  obtain ⟨e2, _⟩ := I.hok a _ e
  refine ⟨⟨o, e2, hc⟩, fun b eb => ?_⟩
  cases eb
  exact ⟨o, e2, hd⟩
end
/-- rows -/
def RowAt (M : Ms) (H : Hp) (v : V) (ns : List Int) : Prop := ∃ a, v = .ref a ∧ ¬ M a ∧ Rd H a (.tup (ns.map V.int))
def RowF (M : Ms) (H : Hp) (v : V) (ns : List Int) : Prop := ∃ a o, v = .ref a ∧ ¬ M a ∧ H a = some (.frz o (.tup (ns.map V.int))) ∧ o.cls = .type "tuple" ∧ o.dict = none
theorem RowF.row {M : Ms} {H : Hp} {v : V} {ns : List Int} (h : RowF M H v ns) : RowAt M H v ns := by
  obtain ⟨a, o, e, n, ha, _⟩ := h
  exact ⟨a, e, n, .inr ⟨o, ha⟩⟩
theorem RowAt.sx {M : Ms} {H H' : Hp} {v : V} {ns : List Int} (h : RowAt M H v ns) (s : Sx M H H') : RowAt M H' v ns := by
  obtain ⟨a, e, n, ha⟩ := h
  exact ⟨a, e, n, sx_rd s n ha⟩
theorem RowF.sx {M : Ms} {H H' : Hp} {v : V} {ns : List Int} (h : RowF M H v ns) (s : Sx M H H') : RowF M H' v ns := by
  obtain ⟨a, o, e, n, ha, r⟩ := h
  exact ⟨a, o, e, n, s _ _ n ha, r⟩
theorem RowAt.less {M N : Ms} {H : Hp} {v : V} {ns : List Int} (h : RowAt M H v ns) (f : ∀ a, N a → M a) : RowAt N H v ns := by
  obtain ⟨a, e, n, ha⟩ := h
  exact ⟨a, e, fun z => n (f a z), ha⟩
theorem RowF.less {M N : Ms} {H : Hp} {v : V} {ns : List Int} (h : RowF M H v ns) (f : ∀ a, N a → M a) : RowF N H v ns := by
  obtain ⟨a, o, e, n, ha⟩ := h
  exact ⟨a, o, e, fun z => n (f a z), ha⟩
theorem RowF.fresh {M : Ms} {H : Hp} {v : V} {ns : List Int} {p : Addr} (hp : H p = none) (h : RowF M H v ns) : RowF (also M p) H v ns := by
  obtain ⟨a, o, e, n, ha, r⟩ := h
  refine ⟨a, o, e, fun z => ?_, ha, r⟩
  rcases z with z | z
  · exact n z
  · rw [show a = p from z, hp] at ha
    cases ha
end D

namespace D
open PySem PySem.Spec PyProof.Rows L2
theorem hu65 {A : Around} {k : Nat} (hr : Room k A) : A.units + 65 < cLine := by have := hr.un; omega
/-! ### idents and matches -/
abbrev IP := Int × Int
def idp (ws : List Int) : List IP := ws.mapIdx fun i w => (w, (((ws.take i).count w : Nat) : Int))
theorem idp_len (ws : List Int) : (idp ws).length = ws.length := List.length_mapIdx
theorem idp_at {ws : List Int} {i : Nat} {w : Int} (h : ws[i]? = some w) : (idp ws)[i]? = some (w, (((ws.take i).count w : Nat) : Int)) := by
  unfold idp
  rw [List.getElem?_mapIdx, h]
  rfl
theorem nodup_get {α : Type} {l : List α} : l.Nodup ↔ ∀ i j : Nat, i < j → j < l.length → l[i]? ≠ l[j]? := by
  unfold List.Nodup
  rw [List.pairwise_iff_getElem]
  constructor
  · intro h i j hij hj e
    rw [List.getElem?_eq_getElem (Nat.lt_trans hij hj), List.getElem?_eq_getElem hj] at e
    exact h i j (Nat.lt_trans hij hj) hj hij (Option.some.inj e)
  · intro h i j hi hj hij e
    exact h i j hij hj (by rw [List.getElem?_eq_getElem hi, List.getElem?_eq_getElem hj, e])
theorem idp_nodup (ws : List Int) : (idp ws).Nodup := by
  rw [nodup_get]
  intro i j hij hj
  have hj' : j < ws.length := by rw [idp_len] at hj; exact hj
  have hi' : i < ws.length := Nat.lt_trans hij hj'
  have ei : ws[i]? = some ws[i] := List.getElem?_eq_getElem hi'
  have ej : ws[j]? = some ws[j] := List.getElem?_eq_getElem hj'
  rw [idp_at ei, idp_at ej]
  intro e
  have e' := Option.some.inj e
  have e1 : ws[i] = ws[j] := congrArg Prod.fst e'
  have e2 : (((ws.take i).count ws[i] : Nat) : Int) = ((ws.take j).count ws[j] : Nat) := congrArg Prod.snd e'
  have e3 : (ws.take i).count ws[i] = (ws.take j).count ws[j] := Int.ofNat.inj e2
  rw [← e1] at e3
  have s1 : List.Sublist ((ws.take (i + 1))) (ws.take j) := by
    have : ws.take (i + 1) = (ws.take j).take (i + 1) := by rw [List.take_take]; congr 1; omega
    rw [this]
    exact List.take_sublist _ _
  have c1 := s1.count_le ws[i]
  rw [List.take_add_one, ei, List.count_append] at c1
  have : List.count ws[i] (some ws[i]).toList = 1 := by simp
  omega
def pos (B : List IP) (x : IP) : Option Nat := if x ∈ B then some (B.idxOf x) else none
theorem pos_snoc {B : List IP} {b : IP} (hb : b ∉ B) (x : IP) : pos (B ++ [b]) x = if x = b then some B.length else pos B x := by
  unfold pos
  by_cases e : x = b
  · subst e
    rw [if_pos rfl, if_pos (by simp), List.idxOf_append, if_neg hb]
    simp
  · rw [if_neg e]
    by_cases m : x ∈ B
    · rw [if_pos m, if_pos (by simp [m]), List.idxOf_append, if_pos m]
    · rw [if_neg m, if_neg (by simp [m, e])]
theorem pos_take {B : List IP} (hB : B.Nodup) {i : Nat} {b : IP} (h : B[i]? = some b) (x : IP) : pos (B.take (i + 1)) x = if x = b then some i else pos (B.take i) x := by
  have hi : i < B.length := (List.getElem?_eq_some_iff.mp h).1
  have hb : b ∉ B.take i := by
    intro hm
    obtain ⟨j, hj⟩ := List.mem_iff_getElem?.mp hm
    have hji : j < i := by
      have := (List.getElem?_eq_some_iff.mp hj).1
      rw [List.length_take] at this
      omega
    rw [List.getElem?_take_of_lt hji] at hj
    exact (nodup_get.mp hB) j i hji hi (hj.trans h.symm)
  have e : B.take (i + 1) = B.take i ++ [b] := by rw [List.take_add_one, h]; rfl
  have := pos_snoc hb x
  rw [← e, List.length_take, Nat.min_eq_left (Nat.le_of_lt hi)] at this
  exact this
theorem pos_lt {B : List IP} {x : IP} {i : Nat} (h : pos B x = some i) : i < B.length ∧ B[i]? = some x := by
  unfold pos at h
  split at h
  · rename_i m
    cases h
    have hl := List.idxOf_lt_length_of_mem m
    exact ⟨hl, by rw [List.getElem?_eq_getElem hl, List.getElem_idxOf hl]⟩
  · cases h
/-- the key of an ident in a dict -/
def kk (x : IP) : List Key := [.inl x.1, .inl x.2]
theorem kk_inj {x y : IP} (h : kk x = kk y) : x = y := by
  have h' : [(Sum.inl x.1 : Key), .inl x.2] = [.inl y.1, .inl y.2] := h
  injection h' with h1 h2
  injection h2 with h2 _
  exact Prod.ext (Sum.inl.inj h1) (Sum.inl.inj h2)
/-- what a dict tells of idents -/
def Tells (kvs : List (List Key × V)) (B : List IP) : Prop := ∀ x, valV kvs (kk x) = (pos B x).map fun (i : Nat) => V.int (i : Int)
theorem tells_nil : Tells [] [] := fun x => by
  unfold pos
  rw [if_neg (by simp)]
  rfl
theorem tells_put {kvs : List (List Key × V)} {B : List IP} (hB : B.Nodup) {i : Nat} {b : IP} (h : B[i]? = some b) (t : Tells kvs (B.take i)) : Tells (putK kvs (kk b) (.int (i : Nat))) (B.take (i + 1)) := fun x => by
  rw [valV_put, pos_take hB h]
  by_cases e : x = b
  · subst e
    rw [if_pos rfl, if_pos rfl]
    rfl
  · rw [if_neg (fun z => e (kk_inj z)), if_neg e]
    exact t x
def mst (B : List IP) (x : IP) (j : Nat) : List IP := match pos B x with
  | some i => [((i : Int), (j : Int))]
  | none => []
def mt (B N : List IP) : List IP := (N.mapIdx fun j x => mst B x j).flatten
theorem mt_step (B : List IP) {N : List IP} {j : Nat} {x : IP} (h : N[j]? = some x) : mt B (N.take (j + 1)) = mt B (N.take j) ++ mst B x j := by
  have hj : j < N.length := (List.getElem?_eq_some_iff.mp h).1
  unfold mt
  rw [List.take_add_one, h]
  show (List.mapIdx _ (List.take j N ++ [x])).flatten = _
  rw [List.mapIdx_append, List.flatten_append]
  congr 1
  rw [List.length_take, Nat.min_eq_left (Nat.le_of_lt hj)]
  show [mst B x (0 + j)].flatten = _
  rw [Nat.zero_add]
  simp
theorem mst_take {B : List IP} (hB : B.Nodup) {i : Nat} {b : IP} (h : B[i]? = some b) (x : IP) (j : Nat) : mst (B.take (i + 1)) x j = mst (B.take i) x j ++ if b = x then [((i : Int), (j : Int))] else [] := by
  have hn : b = x → pos (B.take i) x = none := fun e => by
    subst e
    unfold pos
    rw [if_neg]
    intro hm
    obtain ⟨k, hk⟩ := List.mem_iff_getElem?.mp hm
    have hji : k < i := by
      have := (List.getElem?_eq_some_iff.mp hk).1
      rw [List.length_take] at this
      omega
    rw [List.getElem?_take_of_lt hji] at hk
    exact (nodup_get.mp hB) k i hji (List.getElem?_eq_some_iff.mp h).1 (hk.trans h.symm)
  unfold mst
  rw [pos_take hB h]
  by_cases e : x = b
  · rw [if_pos e, hn e.symm, if_pos e.symm]
    rfl
  · rw [if_neg e, if_neg (fun z => e z.symm), List.append_nil]
theorem mst_nil (x : IP) (j : Nat) : mst [] x j = [] := by
  unfold mst pos
  rw [if_neg (by simp)]
theorem mst_mem {B : List IP} {x : IP} {j : Nat} {p : IP} (h : p ∈ mst B x j) : ∃ i, i < B.length ∧ p = ((i : Int), (j : Int)) := by
  unfold mst at h
  split at h
  · rename_i i e
    exact ⟨i, (pos_lt e).1, List.mem_singleton.mp h⟩
  · exact nomatch h
theorem mt_mem {B N : List IP} {p : IP} (h : p ∈ mt B N) : ∃ i j : Nat, i < B.length ∧ j < N.length ∧ p = ((i : Int), (j : Int)) := by
  unfold mt at h
  obtain ⟨l, hl, hp⟩ := List.mem_flatten.mp h
  obtain ⟨j, hj, rfl⟩ := List.mem_mapIdx.mp hl
  obtain ⟨i, hi, e⟩ := mst_mem hp
  exact ⟨i, j, hi, hj, e⟩
theorem mst_len (B : List IP) (x : IP) (j : Nat) : (mst B x j).length ≤ 1 := by
  unfold mst
  split <;> simp
theorem mt_len (B N : List IP) : (mt B N).length ≤ N.length := by
  suffices h : ∀ n, n ≤ N.length → (mt B (N.take n)).length ≤ n by
    have := h N.length (Nat.le_refl _)
    rw [List.take_length] at this
    exact this
  intro n
  induction n with
  | zero => intro _; simp [mt]
  | succ n ih =>
    intro h
    rw [mt_step B (List.getElem?_eq_getElem (by omega : n < N.length)), List.length_append]
    have := ih (by omega)
    have := mst_len B N[n] n
    omega
/-- slips -/
def atI0 (l : List Int) (i : Int) : Int := l.getD i.toNat 0
theorem atI0_nat {l : List Int} {i : Nat} {x : Int} (h : l[i]? = some x) : atI0 l (i : Int) = x := by
  unfold atI0
  rw [Int.toNat_natCast, List.getD_eq_getElem?_getD, h]
  rfl
def sst (o n : List Int) (p : IP) : List IP := if atI0 o p.1 = atI0 n p.2 then [] else [(atI0 o p.1, atI0 n p.2)]
def slp (o n : List Int) (ms : List IP) : List IP := (ms.map (sst o n)).flatten
theorem slp_step (o n : List Int) {ms : List IP} {j : Nat} {p : IP} (h : ms[j]? = some p) : slp o n (ms.take (j + 1)) = slp o n (ms.take j) ++ sst o n p := by
  unfold slp
  rw [List.take_add_one, h, List.map_append, List.flatten_append]
  simp
theorem slp_len (o n : List Int) : ∀ ms : List IP, (slp o n ms).length ≤ ms.length
  | [] => Nat.le_refl _
  | p :: r => by
    have h1 := slp_len o n r
    have h2 : (sst o n p).length ≤ 1 := by unfold sst; split <;> simp
    show ((sst o n p) ++ slp o n r).length ≤ r.length + 1
    rw [List.length_append]
    omega
/-- lost items -/
def lst1 (o : List Int) (ms : List IP) (x : Int) (j : Nat) : List Int := if x ∈ o ∧ (((o.idxOf x : Nat) : Int), (j : Int)) ∉ ms then [x] else []
def lsts (o n : List Int) (ms : List IP) : List Int := (n.mapIdx fun j x => lst1 o ms x j).flatten
theorem lsts_step (o : List Int) (ms : List IP) {n : List Int} {j : Nat} {x : Int} (h : n[j]? = some x) : lsts o (n.take (j + 1)) ms = lsts o (n.take j) ms ++ lst1 o ms x j := by
  have hj : j < n.length := (List.getElem?_eq_some_iff.mp h).1
  unfold lsts
  rw [List.take_add_one, h]
  show (List.mapIdx _ (List.take j n ++ [x])).flatten = _
  rw [List.mapIdx_append, List.flatten_append]
  congr 1
  rw [List.length_take, Nat.min_eq_left (Nat.le_of_lt hj)]
  show [lst1 o ms x (0 + j)].flatten = _
  rw [Nat.zero_add]
  simp
theorem lsts_len (o n : List Int) (ms : List IP) : (lsts o n ms).length ≤ n.length := by
  suffices h : ∀ k, k ≤ n.length → (lsts o (n.take k) ms).length ≤ k by
    have := h n.length (Nat.le_refl _)
    rw [List.take_length] at this
    exact this
  intro k
  induction k with
  | zero => intro _; simp [lsts]
  | succ k ih =>
    intro h
    rw [lsts_step o ms (List.getElem?_eq_getElem (by omega : k < n.length)), List.length_append]
    have := ih (by omega)
    have : (lst1 o ms n[k] k).length ≤ 1 := by unfold lst1; split <;> simp
    omega
/-- deep facts of pairs -/
theorem pD_lay (p : IP) : (pD p).canLay0 = true := by simp [pD, PyData.canLay0, PyData.canLayAll0]
theorem pD_depth (p : IP) : (pD p).depth = 1 := by simp [pD, PyData.depth, PyData.depthAll]
theorem pDs_lay : ∀ ps : List IP, PyData.canLayAll0 (ps.map pD) = true
  | [] => rfl
  | p :: r => by simp [PyData.canLayAll0, pD_lay p, pDs_lay r]
theorem pDs_depth : ∀ ps : List IP, PyData.depthAll (ps.map pD) ≤ 1
  | [] => Nat.zero_le _
  | p :: r => by
    have := pDs_depth r
    simp only [List.map_cons, PyData.depthAll, pD_depth p]
    omega
theorem pD_shaped (p : IP) : SeqAt.shaped (pD p) = true := by
  refine Bool.and_eq_true_iff.mpr ⟨pD_lay p, decide_eq_true ?_⟩
  rw [pD_depth]
  decide
theorem pDs_shapedL (ps : List IP) : SeqAt.shaped (.list (ps.map pD)) = true := by
  refine Bool.and_eq_true_iff.mpr ⟨by simp [PyData.canLay0, pDs_lay ps], decide_eq_true ?_⟩
  have := pDs_depth ps
  simp only [PyData.depth]
  omega
theorem pDs_shapedT (ps : List IP) : SeqAt.shaped (.tuple (ps.map pD)) = true := by
  refine Bool.and_eq_true_iff.mpr ⟨by simp [PyData.canLay0, pDs_lay ps], decide_eq_true ?_⟩
  have := pDs_depth ps
  simp only [PyData.depth]
  omega
theorem pD_eqv (p q : IP) : PyData.eqv (pD p) (pD q) = decide (p = q) := by
  simp only [pD, PyData.eqv, PyData.eqvAll, Bool.and_true]
  rw [Bool.eq_iff_iff]
  simp only [Bool.and_eq_true, decide_eq_true_iff, beq_iff_eq, Prod.ext_iff]
theorem pD_any (ps : List IP) (p : IP) : ((ps.map pD).any fun z => PyData.eqv z (pD p)) = decide (p ∈ ps) := by
  rw [List.any_map, Bool.eq_iff_iff, List.any_eq_true, decide_eq_true_iff]
  constructor
  · rintro ⟨x, hx, e⟩
    have e' : PyData.eqv (pD x) (pD p) = true := e
    rw [pD_eqv, decide_eq_true_iff] at e'
    rw [← e']
    exact hx
  · intro h
    exact ⟨p, h, by show PyData.eqv (pD p) (pD p) = true; rw [pD_eqv]; exact decide_eq_true rfl⟩
end D
namespace D
open PySem PySem.Spec PyProof.Rows L2
/-! ### a list of data that grows beside -/
def Acc (M : Ms) (H : Hp) (D : Addr) (H' : Hp) (ys : List PyData) : Prop := H D = none ∧ Same H H' ∧ ∃ acc, H' D = some (.lst acc) ∧ RpAll (also M D) H' acc ys
theorem Acc.new {M : Ms} {H : Hp} {D : Addr} (hD : H D = none) : Acc M H D (upd H D (.lst [])) [] := ⟨hD, same_new hD, [], upd_same, .nil⟩
theorem Acc.keep {M : Ms} {H H1 H2 : Hp} {D : Addr} {ys : List PyData} (h : Acc M H D H1 ys) (s : Same H1 H2) : Acc M H D H2 ys := by
  obtain ⟨hD, s0, acc, e, r⟩ := h
  exact ⟨hD, s0.trans s, acc, s _ _ e, r.sx (Sx.same s)⟩
theorem Acc.same {M : Ms} {H H1 : Hp} {D : Addr} {ys : List PyData} (h : Acc M H D H1 ys) : Same H H1 := h.2.1
theorem Acc.at {M : Ms} {H H1 : Hp} {D : Addr} {ys : List PyData} (h : Acc M H D H1 ys) : ∃ acc, H1 D = some (.lst acc) ∧ acc.length = ys.length := by
  obtain ⟨hD, s0, acc, e, r⟩ := h
  exact ⟨acc, e, r.length⟩
theorem Acc.put {M : Ms} {H H1 : Hp} {D : Addr} {ys : List PyData} {v : V} {y : PyData} (h : Acc M H D H1 ys) (r : Rp (also M D) H1 v y) (hl : ys.length ≤ 1000000) : ∃ acc, H1 D = some (.lst acc) ∧ acc.length < sizeLine ∧ Acc M H D (upd H1 D (.lst (acc ++ [v]))) (ys ++ [y]) := by
  obtain ⟨hD, s0, acc, e, ra⟩ := h
  refine ⟨acc, e, small1000000 (by rw [ra.length]; exact hl), hD, same_put s0 hD, acc ++ [v], upd_same, ?_⟩
  exact (ra.append (.one r)).sx (Sx.put (.inr rfl))
theorem Acc.mk {M : Ms} {H H1 : Hp} {D : Addr} {ys : List PyData} (h : Acc M H D H1 ys) (hM : Mk M H) : Mk (also M D) H1 := by
  obtain ⟨hD, s0, acc, e, r⟩ := h
  exact (hM.gr (Gr.same s0)).also (ne_none e)
theorem Acc.fin {M : Ms} {H H1 : Hp} {D : Addr} {ys : List PyData} (h : Acc M H D H1 ys) (hM : Mk M H) : Ld M H1 D ys := by
  obtain ⟨hD, s0, acc, e, r⟩ := h
  exact ⟨hM.out hD, acc, e, r.less also_le⟩
theorem Acc.rp {M : Ms} {H H1 : Hp} {D : Addr} {ys : List PyData} (h : Acc M H D H1 ys) (hM : Mk M H) : Rp M H1 (.ref D) (.list ys) := (h.fin hM).rp
/-- what stood ahead is read in the same way beside the list -/
theorem Acc.old {M : Ms} {H H1 : Hp} {D : Addr} {ys : List PyData} {v : V} {d : PyData} (h : Acc M H D H1 ys) (r : Rp M H v d) : Rp (also M D) H1 v d := (r.fresh h.1).sx (Sx.same h.2.1)
theorem Acc.oldM {M : Ms} {H H1 : Hp} {D : Addr} {ys : List PyData} {v : V} {d : PyData} (h : Acc M H D H1 ys) (r : Rp M H v d) : Rp M H1 v d := r.sx (Sx.same h.2.1)
end D
namespace D
open PySem PySem.Spec PyProof.Rows L2
theorem Rp.newT {M : Ms} {H : Hp} {p : Addr} {us : List V} {ds : List PyData} (hM : Mk M H) (hp : H p = none) (r : RpAll M H us ds) : Rp M (upd H p (.tup us)) (.ref p) (.tuple ds) := .tup (hM.out hp) (.inl upd_same) (r.sx (Sx.new hp))
theorem Rp.newL {M : Ms} {H : Hp} {p : Addr} {us : List V} {ds : List PyData} (hM : Mk M H) (hp : H p = none) (r : RpAll M H us ds) : Rp M (upd H p (.lst us)) (.ref p) (.list ds) := .lst (hM.out hp) (.inl upd_same) (r.sx (Sx.new hp))
theorem Mk.new {M : Ms} {H : Hp} {p : Addr} {o : HO} (hM : Mk M H) : Mk M (upd H p o) := hM.gr Gr.upd
def unI : PyData → Int
  | .int i => i
  | _ => 0
theorem perm_ints {es : List PyData} {l : List Int} (h : es.Perm (l.map PyData.int)) : ∃ ns : List Int, ns.Perm l ∧ es = ns.map PyData.int := by
  refine ⟨es.map unI, ?_, ?_⟩
  · have h1 := h.map unI
    rw [List.map_map] at h1
    have e : l.map (unI ∘ PyData.int) = l := by
      have : (unI ∘ PyData.int) = id := rfl
      rw [this, List.map_id]
    rw [e] at h1
    exact h1
  · rw [List.map_map]
    have e : ∀ x ∈ es, (PyData.int ∘ unI) x = x := fun x hx => by
      obtain ⟨i, _, rfl⟩ := List.mem_map.mp (h.mem_iff.mp hx)
      rfl
    exact (List.map_id es).symm.trans (List.map_congr_left fun x hx => (e x hx).symm)
def ten : List Int := [0, 1, 2, 3, 4, 5, 6, 7, 8, 9]
theorem ten_take (n : Nat) : (ten.take n).Nodup ∧ ∀ x ∈ ten.take n, 0 ≤ x ∧ x ≤ 9 :=
  ⟨(show ten.Nodup by decide).sublist (List.take_sublist n ten), fun x hx => (show ∀ x ∈ ten, 0 ≤ x ∧ x ≤ 9 by decide) x (List.mem_of_mem_take hx)⟩
def mxd (m : Nat) (s : Fm) : Nat := max m s.dep
theorem FmAt.two {M : Ms} {H : Hp} {f : Fm} {xs : List V} (h : FmAt M H f xs) : (∃ y z, xs = [.str y, z] ∧ (y = sIs ∨ y = sGet) ∧ f.dep = 1) ∨ ∃ y r, xs = .str y :: r ∧ r ≠ [] ∧ y ≠ sIs ∧ y ≠ sGet ∧ RpAll M H r (f.subs.map Fm.enc) ∧ f.dep = f.subs.foldl mxd 0 + 1 := by
  cases h with
  | is n => exact .inl ⟨_, _, rfl, .inl rfl, rfl⟩
  | get x => exact .inl ⟨_, _, rfl, .inr rfl, rfl⟩
  | @sum f g u w a b =>
    refine .inr ⟨_, _, rfl, by simp, by decide +kernel, by decide +kernel, .cons a (.one b), ?_⟩
    show max f.dep g.dep + 1 = max (max 0 f.dep) g.dep + 1
    omega
  | @same f g u w a b =>
    refine .inr ⟨_, _, rfl, by simp, by decide +kernel, by decide +kernel, .cons a (.one b), ?_⟩
    show max f.dep g.dep + 1 = max (max 0 f.dep) g.dep + 1
    omega
  | @pick f g k u w z a b c =>
    refine .inr ⟨_, _, rfl, by simp, by decide +kernel, by decide +kernel, .cons a (.cons b (.one c)), ?_⟩
    show max f.dep (max g.dep k.dep) + 1 = max (max (max 0 f.dep) g.dep) k.dep + 1
    omega
theorem ints_mem {l : List Int} (h : ∀ n ∈ l, 0 ≤ n ∧ n ≤ 9) {v : V} (hv : v ∈ l.map V.int) : ∃ n, v = .int n ∧ 0 ≤ n ∧ n ≤ 9 := by
  obtain ⟨n, hn, rfl⟩ := List.mem_map.mp hv
  exact ⟨n, rfl, h n hn⟩
/-- a draw of a row -/
def DrR (K : PySem.W.Frag) (M : Ms) (b : Addr) (H : Hp) (R : List Int → Prop) (Q : VK) : Prop := ∀ v H' ns, Sx (one b) H H' → Gr H H' → Bag K M H' b → RowF M H' v ns → R ns → Q v H'
end D

namespace D
open PySem PySem.Spec PyProof.Rows L2
/-! ### rows that a key mixes up -/
theorem flat_ne {α β : Type} (f : α → List β) (l : List α) : (l.map f).flatten ≠ [] ↔ ∃ x ∈ l, f x ≠ [] := by
  induction l with
  | nil => simp
  | cons a r ih =>
    rw [List.map_cons, List.flatten_cons]
    constructor
    · intro h
      by_cases c : f a = []
      · rw [c, List.nil_append] at h
        obtain ⟨x, hx, e⟩ := ih.mp h
        exact ⟨x, List.mem_cons_of_mem _ hx, e⟩
      · exact ⟨a, List.mem_cons_self, c⟩
    · rintro ⟨x, hx, e⟩ z
      obtain ⟨z1, z2⟩ := List.append_eq_nil_iff.mp z
      rcases List.mem_cons.mp hx with rfl | hx
      · exact e z1
      · exact ih.mpr ⟨x, hx, e⟩ z2
theorem flat_ne_idx {α β : Type} (f : Nat → α → List β) (l : List α) : (l.mapIdx f).flatten ≠ [] ↔ ∃ (j : Nat) (x : α), l[j]? = some x ∧ f j x ≠ [] := by
  have h := flat_ne (fun y => y) (l.mapIdx f)
  rw [List.map_id'] at h
  rw [h]
  constructor
  · rintro ⟨y, hy, e⟩
    obtain ⟨j, hj⟩ := List.mem_iff_getElem?.mp hy
    rw [List.getElem?_mapIdx] at hj
    obtain ⟨x, hx, rfl⟩ := Option.map_eq_some_iff.mp hj
    exact ⟨j, x, hx, e⟩
  · rintro ⟨j, x, hx, e⟩
    exact ⟨f j x, List.mem_iff_getElem?.mpr ⟨j, by rw [List.getElem?_mapIdx, hx]; rfl⟩, e⟩
theorem pos_of {B : List IP} (hB : B.Nodup) {i : Nat} {x : IP} (h : B[i]? = some x) : pos B x = some i := by
  have hm : x ∈ B := List.mem_of_getElem? h
  have hi := (List.getElem?_eq_some_iff.mp h).1
  have h2 := List.idxOf_lt_length_of_mem hm
  have e2 : B[B.idxOf x]? = some x := by rw [List.getElem?_eq_getElem h2, List.getElem_idxOf h2]
  unfold pos
  rw [if_pos hm]
  rcases Nat.lt_trichotomy (B.idxOf x) i with c | c | c
  · exact absurd (e2.trans h.symm) (nodup_get.mp hB _ _ c hi)
  · rw [c]
  · exact absurd (h.trans e2.symm) (nodup_get.mp hB _ _ c h2)
theorem mem_mt {B N : List IP} (hB : B.Nodup) (i j : Nat) : ((i : Int), (j : Int)) ∈ mt B N ↔ ∃ x, B[i]? = some x ∧ N[j]? = some x := by
  constructor
  · intro h
    unfold mt at h
    obtain ⟨l, hl, hp⟩ := List.mem_flatten.mp h
    obtain ⟨k, hk, rfl⟩ := List.mem_mapIdx.mp hl
    unfold mst at hp
    cases e : pos B N[k] with
    | none => rw [e] at hp; exact nomatch hp
    | some m =>
      rw [e] at hp
      have hp' := List.mem_singleton.mp hp
      injection hp' with h1 h2
      have h1' : i = m := Int.ofNat.inj h1
      have h2' : j = k := Int.ofNat.inj h2
      subst h1' h2'
      exact ⟨_, (pos_lt e).2, List.getElem?_eq_getElem hk⟩
  · rintro ⟨x, h1, h2⟩
    unfold mt
    refine List.mem_flatten.mpr ⟨mst B x j, List.mem_iff_getElem?.mpr ⟨j, by rw [List.getElem?_mapIdx, h2]; rfl⟩, ?_⟩
    unfold mst
    rw [pos_of hB h1]
    exact List.mem_singleton.mpr rfl
def badB (o n : List Int) (B N : List IP) : Bool := !(slp o n (mt B N)).isEmpty || !(lsts o n (mt B N)).isEmpty
theorem idx_of {n : List Int} (h : n.Nodup) {i : Nat} {x : Int} (e : n[i]? = some x) : n.idxOf x = i := by
  have hi := (List.getElem?_eq_some_iff.mp e).1
  have hx : x ∈ n := List.mem_of_getElem? e
  have h2 := List.idxOf_lt_length_of_mem hx
  have e2 : n[n.idxOf x]? = some x := by rw [List.getElem?_eq_getElem h2, List.getElem_idxOf h2]
  rcases Nat.lt_trichotomy (n.idxOf x) i with c | c | c
  · exact absurd (e2.trans e.symm) (nodup_get.mp h _ _ c hi)
  · exact c
  · exact absurd (e.trans e2.symm) (nodup_get.mp h _ _ c h2)
theorem bad_iff {o n : List Int} {B N : List IP} (ho : o.Nodup) (hB : B.Nodup) (lB : B.length = o.length) (lN : N.length = n.length) :
    badB o n B N = true ↔ ∃ (i j : Nat) (x y : Int) (u v : IP), o[i]? = some x ∧ n[j]? = some y ∧ B[i]? = some u ∧ N[j]? = some v ∧ decide (u = v) ≠ decide (x = y) := by
  have e1 : badB o n B N = true ↔ (slp o n (mt B N) ≠ [] ∨ lsts o n (mt B N) ≠ []) := by
    unfold badB
    rw [Bool.or_eq_true]
    constructor
    · rintro (h | h)
      · left; intro z; rw [z] at h; exact nomatch h
      · right; intro z; rw [z] at h; exact nomatch h
    · rintro (h | h)
      · left; cases e : slp o n (mt B N) with
        | nil => exact absurd e h
        | cons a r => rfl
      · right; cases e : lsts o n (mt B N) with
        | nil => exact absurd e h
        | cons a r => rfl
  rw [e1]
  have at_ : ∀ {i : Nat}, i < o.length → ∃ u, B[i]? = some u := fun {i} h => ⟨B[i]'(by omega), List.getElem?_eq_getElem _⟩
  constructor
  · rintro (h | h)
    · obtain ⟨p, hp, e⟩ := (flat_ne (sst o n) (mt B N)).mp h
      obtain ⟨i, j, hi, hj, rfl⟩ := mt_mem hp
      obtain ⟨w, h1, h2⟩ := (mem_mt hB i j).mp hp
      have x1 : o[i]? = some (o[i]'(by omega)) := List.getElem?_eq_getElem _
      have x2 : n[j]? = some (n[j]'(by omega)) := List.getElem?_eq_getElem _
      refine ⟨i, j, _, _, w, w, x1, x2, h1, h2, ?_⟩
      rw [decide_eq_true rfl]
      intro z
      have z' := of_decide_eq_true z.symm
      apply e
      unfold sst
      rw [atI0_nat x1, atI0_nat x2, if_pos z']
    · obtain ⟨j, x, hx, e⟩ := (flat_ne_idx (fun j x => lst1 o (mt B N) x j) n).mp h
      have hc : x ∈ o ∧ (((o.idxOf x : Nat) : Int), (j : Int)) ∉ mt B N := by
        by_cases c : x ∈ o ∧ (((o.idxOf x : Nat) : Int), (j : Int)) ∉ mt B N
        · exact c
        · exact absurd (if_neg c) e
      have hix := List.idxOf_lt_length_of_mem hc.1
      have hj := (List.getElem?_eq_some_iff.mp hx).1
      obtain ⟨u, hu⟩ := at_ hix
      have hv : N[j]? = some (N[j]'(by omega)) := List.getElem?_eq_getElem _
      refine ⟨o.idxOf x, j, x, x, u, _, by rw [List.getElem?_eq_getElem hix, List.getElem_idxOf hix], hx, hu, hv, ?_⟩
      rw [decide_eq_true (show x = x from rfl)]
      intro z
      have z' := of_decide_eq_true z
      exact hc.2 ((mem_mt hB _ j).mpr ⟨u, hu, by rw [hv, z']⟩)
  · rintro ⟨i, j, x, y, u, v, hx, hy, hu, hv, hne⟩
    by_cases c : u = v
    · left
      subst c
      have hp : ((i : Int), (j : Int)) ∈ mt B N := (mem_mt hB i j).mpr ⟨u, hu, hv⟩
      refine (flat_ne (sst o n) (mt B N)).mpr ⟨_, hp, ?_⟩
      unfold sst
      rw [atI0_nat hx, atI0_nat hy, if_neg]
      · simp
      · intro z
        apply hne
        rw [decide_eq_true rfl, decide_eq_true z]
    · have xy : x = y := by
        by_cases z : x = y
        · exact z
        · exact absurd (by rw [decide_eq_false c, decide_eq_false z]) hne
      subst xy
      right
      refine (flat_ne_idx (fun j x => lst1 o (mt B N) x j) n).mpr ⟨j, x, hy, ?_⟩
      have hm : x ∈ o := List.mem_of_getElem? hx
      show lst1 o (mt B N) x j ≠ []
      unfold lst1
      rw [if_pos]
      · simp
      · refine ⟨hm, fun z => ?_⟩
        rw [idx_of ho hx] at z
        obtain ⟨w, h1, h2⟩ := (mem_mt hB i j).mp z
        exact c ((Option.some.inj (hu.symm.trans h1)).trans (Option.some.inj (h2.symm.trans hv)))
end D

namespace D
open PySem PySem.Spec PyProof.Rows L2
section
variable {X : Cx} {C g : Addr} {n : Nat} {CX : CXT} {sp : Sp} {E : XK} {fd : FuncData} {ps : List Str}
theorem room_in1 {A : Around} (r : Room (n + 1) A) : Room n A.in1 := ⟨r.hd, by have := r.dp; show A.depth + 3 * n + 5 < _; omega, by have := r.un; show A.units + 1 + 16 * n + 200 < _; omega⟩
/-- a def is run one step in -/
theorem run_in1 {pins : List (Addr × Obj)} {σ : L2.St} {H : Hp} {s : Shared} {Q : VK} {us : List Value} {vs : List V} (F : FnOk X.prog X.w X.K X.mg X.base CX n g fd ps sp) (hr : Room (n + 1) X.A) (hb : Binds X.K fd ps []) (hx : Passes CX X E)
    (I : Inv X pins σ H s) (r : Vals vs us) (h : sp vs H Q E) : wpAny (model X.prog X.w) X.A.in1 (call (.ref g) us) (EP X pins σ Q) X.xe s := by
  have hl : (us ++ []).length = ps.length := by rw [List.append_nil, ← r.length]; exact F.len _ _ _ _ h
  have bd := hb s us I.kIn hl
  rw [List.append_nil] at bd
  refine wpAny_call (codeAny_mono (F.run X.A.in1 X.stack s H ⟨us, []⟩ us vs Q E (room_in1 hr) I.env0.in1 bd r h) fun r s' hq => ?_)
  match r, hq with
  | .error e, hq => exact hx pins σ H s e s' I hq
  | .ok (.ret u), hq => exact I.after hq
  | .ok .next, hq => exact False.elim hq
  | .ok .brk, hq => exact False.elim hq
  | .ok .cont, hq => exact False.elim hq
/-- what an instance's own subscript reads: the def at g answers for the instance and the index -/
def tOwnIx (C : Addr) (sp : Sp) (E : XK) (to ti : TE) : TE := fun σ H Q => to σ H fun x H1 => ti σ H1 fun y H2 => ∃ a dx fs, x = .ref a ∧ H2 a = some (.ins C dx fs) ∧ sp [x, y] H2 Q E
theorem pe_ownIx {o i : Expr} {to ti : TE} {pos : Pos} (ho : PE X o to) (hi : PE X i ti) (hs : PySem.W.findIn X.K (.ref C) "__getitem__" = some (some (.ref g))) (hf : PySem.W.fnIn X.K g = true) (hg : PySem.W.isFn X.K (.ref g) = true)
    (F : FnOk X.prog X.w X.K X.mg X.base CX n g fd ps sp) (hb : Binds X.K fd ps []) (hr : Room (n + 1) X.A) (hx : Passes CX X E)
    (hsl : ∀ ov iv, subscripted i true ov iv = runValue (.builtin "lifetime.subscript" ⟨[ov, iv], []⟩)) : PE X (.Subscript o i pos) (tOwnIx C sp E to ti) := by
  refine ⟨fun pins s σ H Q I h => ?_⟩
  refine Subscript_ (thn (ho.run pins s σ H _ I h) fun ov s1 ⟨x, H1, I1, rx, q1⟩ => thn (hi.run pins s1 σ H1 _ I1 q1) fun iv s2 ⟨y, H2, I2, ry, a, dx, fs, ex, ha, q⟩ => ?_)
  subst ex
  obtain rfl : ov = Value.ref a := rx
  obtain ⟨mA, O, _⟩ := ins_get I2.hok ha
  obtain ⟨od, J, _⟩ := O.look
  obtain ⟨m, hF⟩ := I2.fr
  exact PySem.W.sub_K hF I2.ok.mod.kin J hs hf hg (run_in1 (us := [.ref a, iv]) (vs := [.ref a, y]) F hr hb hx I2 (.cons rfl (.cons ry .nil)) q) (hsl _ _)
/-- the store into an instance by its own def -/
theorem wp_ownPut {prog : Program} {w : World} {A : Around} {Ex : Value → Shared → Prop} {s : Shared} {K : PySem.W.Frag} {x C f : Addr} {ox : Obj} {od : Option Obj} {i v : Value} {Q : Unit → Shared → Prop} (hK : K.In s.heap) (J : PySem.W.InstAt s.heap x ox C od)
    (hq : PySem.W.noSeq K C = true) (hs : PySem.W.findIn K (.ref C) "__setitem__" = some (some (.ref f))) (hf : PySem.W.isFn K (.ref f) = true)
    (h : wpAny (model prog w) A (call (.ref f) [.ref x, i, v]) (fun _ => Q ()) Ex s) : wpAny (model prog w) A (setItem (.ref x) i v) Q Ex s := by
  unfold setItem sequenceKey
  have called : wpAny (model prog w) A (callSpecial? (.ref x) "__setitem__" [i, v]) (fun r => match r with | some _ => Q () | none => fun _ => False) Ex s :=
    PySem.W.special_fn hK J hs (beq_iff_eq.mp hf) h
  refine wpAny_holding (wpAny_bind (wpAny_bind (J.type.here (wpAny_bind ((PySem.W.anyM_none hK hq).here ?_)))))
  rw [if_pos (by rfl : (!false) = true)]
  refine wpAny_pure (wpAny_bind (wpAny_mono called (fun r s' z => ?_) fun _ _ z => z))
  match r, z with
  | some _, z => exact wpAny_pure z
/-- x[i] = v, an own def's store -/
def sOwnPut (C : Addr) (sp : Sp) (E : XK) (to ti tv : TE) : TS := fun D σ H => tv σ H fun v H1 => to σ H1 fun x H2 => ti σ H2 fun y H3 => ∃ a dx fs, x = .ref a ∧ H3 a = some (.ins C dx fs) ∧ sp [x, y, v] H3 (fun _ H4 => D.nx σ H4) E
theorem ps_ownPut {o i value : Expr} {pos pos' : Pos} {to ti tv : TE} (ho : PE X o to) (hi : PE X i ti) (hv : PE X value tv) (hq : PySem.W.noSeq X.K C = true) (hs : PySem.W.findIn X.K (.ref C) "__setitem__" = some (some (.ref g))) (hf : PySem.W.isFn X.K (.ref g) = true)
    (F : FnOk X.prog X.w X.K X.mg X.base CX n g fd ps sp) (hb : Binds X.K fd ps []) (hr : Room (n + 1) X.A) (hx : Passes CX X E) (sw : swapsWith value (some (.Subscript o i pos')) pos.line X.env = pure false) :
    PS X (.Assign [.Subscript o i pos'] value pos) (sOwnPut C sp E to ti tv) := by
  refine ⟨fun pins s σ H D I h => ?_⟩
  refine wpAny_Assign_Subscript (thn (hv.run pins s σ H _ I h) fun r s1 ⟨v, H1, I1, rv, q1⟩ => thn (ho.run pins s1 σ H1 _ I1 q1) fun u s2 ⟨x, H2, I2, rx, q2⟩ => thn (hi.run pins s2 σ H2 _ I2 q2) fun iv s3 ⟨y, H3, I3, ry, a, dx, fs, ex, ha, q⟩ => ?_) sw
  subst ex
  obtain rfl : u = Value.ref a := rx
  obtain ⟨mA, O, _⟩ := ins_get I3.hok ha
  obtain ⟨od, J, _⟩ := O.look
  refine wp_ownPut I3.kIn J hq hs hf (wpAny_mono (run_fn (us := [.ref a, iv, r]) (vs := [.ref a, y, v]) F (hr.mono (Nat.le_succ n)) hb .nil hx I3 (.cons rfl (.cons ry (.cons rv .nil))) q) (fun w s' z => ?_) fun _ _ z => z)
  obtain ⟨z', H', I', _, qz⟩ := z
  exact ⟨σ, H', I', qz⟩
theorem pi_zipAK {K : PySem.W.Frag} {e e2 : Expr} {ta : TA} {p pos tpos : Pos} {elts : List Expr} {kk : Nat} (hK : X.K = K) (hg : Gl X "zip") (hm : X.mg "zip" = none) (ha : PA X [e, e2] ta)
    (hs : starEach [e, e2] X.env = (false, eval e X.env) :: starEach [e2] X.env := by rfl) (hpl : (backTo pos (starEach [e2] X.env)).any (·.1) = false := by rfl) :
    PI X (.Tuple elts kk tpos) (.Call (.Name "zip" p) [e, e2] [] pos) (RZ.iZipA K ta) := by subst hK; exact RZ.pi_zipA hg hm ha hs hpl
end
/-- the loop over two tuples side by side, whatever its body -/
theorem zipT_loop {K : PySem.W.Frag} {a b : Addr} {xs ys : List V} {Qd : Hp → Prop} {H0 : Hp} {B : V → Hp → (Hp → Prop) → Prop} (he : xs.length = ys.length) (Pv : Nat → Hp → Prop) (h0 : Pv 0 H0) (hl : ∀ i H, i ≤ xs.length → Pv i H → SqT K H a xs ∧ SqT K H b ys)
    (hs : ∀ i x y T H, xs[i]? = some x → ys[i]? = some y → H T = none → Pv i H → B (.ref T) (upd H T (.tup [x, y])) (Pv (i + 1))) (hd : ∀ H, Pv xs.length H → Qd H) :
    ∃ W : Nat → Nat → Hp → Prop, (∃ m, W 0 m H0) ∧ ∀ i m H, W i m H → ((RZ.ItzT K a b).stop i H ∧ Qd H) ∨ ((RZ.ItzT K a b).go i H ∧ ∃ Nx : Hp → Prop, (∀ H', Nx H' → ∃ m', m' < m ∧ W (i + 1) m' H') ∧ ∀ x H', (RZ.ItzT K a b).yld i H x H' → B x H' Nx) := by
  refine ⟨fun i m H => m = xs.length - i ∧ i ≤ xs.length ∧ Pv i H, ⟨_, rfl, Nat.zero_le _, h0⟩, ?_⟩
  rintro i m H ⟨rfl, hi, p⟩
  obtain ⟨q1, q2⟩ := hl i H hi p
  by_cases hlt : i < xs.length
  · refine .inr ⟨⟨xs, ys, xs[i], ys[i]'(by omega), q1, q2, by simp [hlt], List.getElem?_eq_getElem _⟩, Pv (i + 1), fun H' p' => ⟨xs.length - (i + 1), by omega, rfl, hlt, p'⟩, fun x H' y => ?_⟩
    obtain ⟨T, u, v, rfl, hT, rfl, z1, z2⟩ := y
    exact hs i u v T _ (z1 xs q1) (z2 ys q2) hT p
  · have e : i = xs.length := by omega
    subst e
    exact .inl ⟨⟨xs, ys, q1, q2, .inl (Nat.le_refl _)⟩, hd H p⟩
/-- keys of pairs -/
def idk (p : IP) : List Key := [.inl p.1, .inl p.2]
theorem idk_inj {p q : IP} (h : idk p = idk q) : p = q := by
  unfold idk at h
  injection h with h1 h2
  injection h2 with h2 _
  exact Prod.ext (Sum.inl.inj h1) (Sum.inl.inj h2)
theorem idk_kV (p : IP) : (idk p).map kV = [.int p.1, .int p.2] := rfl
/-- a dict of whole numbers by pairs -/
def DN (kvs : List (List Key × V)) (N : IP → Option Int) : Prop := ∀ p : IP, valV kvs (idk p) = (N p).map V.int
def shownN (l : List IP) (N : IP → Option Int) : IP → Option Int := fun x => if x ∈ l then some ((N x).getD 0) else none
theorem DN.put {kvs : List (List Key × V)} {N : IP → Option Int} (h : DN kvs N) (p : IP) (w : Int) : DN (putK kvs (idk p) (.int w)) (fun x => if x = p then some w else N x) := fun x => by
  rw [valV_put]
  dsimp only
  by_cases c : x = p
  · rw [if_pos (by rw [c]), if_pos c]
    rfl
  · rw [if_neg (fun z => c (idk_inj z)), if_neg c]
    exact h x
theorem DN.show {kvs : List (List Key × V)} {N : IP → Option Int} {l : List IP} {n : IP} (h : DN kvs (shownN l N)) : DN (putK kvs (idk n) (.int ((N n).getD 0))) (shownN (l ++ [n]) N) := fun x => by
  rw [h.put n _ x]
  unfold shownN
  dsimp only
  by_cases c : x = n
  · subst c
    rw [if_pos rfl, if_pos (List.mem_append_right _ (List.mem_singleton.mpr rfl))]
  · rw [if_neg c]
    by_cases d : x ∈ l
    · rw [if_pos d, if_pos (List.mem_append_left _ d)]
    · rw [if_neg d, if_neg (fun z => (List.mem_append.mp z).elim d fun e => c (List.mem_singleton.mp e))]
theorem putK_len {κ : Type} [DecidableEq κ] {c : List (κ × V)} {k : κ} {x y : V} (h : valV c k = some y) : (putK c k x).length = c.length := by
  unfold putK
  rw [if_pos]
  · exact List.length_map _
  · unfold valV at h
    obtain ⟨q, hq, _⟩ := Option.map_eq_some_iff.mp h
    have hq2 := List.find?_some (p := fun kv : κ × V => decide (kv.1 = k)) hq
    exact List.any_eq_true.mpr ⟨q, List.mem_of_find?_eq_some hq, hq2⟩
theorem putK_more {κ : Type} [DecidableEq κ] (c : List (κ × V)) (k : κ) (x : V) : (putK c k x).length ≤ c.length + 1 := by
  unfold putK
  split
  · rw [List.length_map]; omega
  · rw [List.length_append]; exact Nat.le_refl _
end D

namespace D
open PySem PySem.Spec PyProof.Rows L2
section
variable {X : Cx} {es : List Expr} {t : TA} {pos : Pos}
theorem pe_notTK {K : PySem.W.Frag} {a : Expr} {ta : TE} (hK : X.K = K) (ha : PE X a ta) : PE X (.UnaryOp .Not a pos) (tNotT K ta) := by subst hK; exact pe_notT ha
/-- a written tuple, known to its object -/
def tTupF (t : TA) : TE := fun σ H Q => t σ H fun xs H1 => xs.length ≤ sizeLine ∧ ∀ p o, H1 p = none → o.cls = .type "tuple" → o.dict = none → Q (.ref p) (upd H1 p (.frz o (.tup xs)))
theorem pe_tupF {x1} (h : PA X es t) : PE X (.Tuple es x1 pos) (tTupF t) := by
  refine ⟨fun held st sl G C J want => ?_⟩
  refine wpAny_Tuple_spliced (thn (h.run pos held st sl G _ J want) fun vals st2 ⟨items, G2, J2, rel, fits, fin⟩ => ⟨by rw [← rel.length]; exact fits, ?_⟩)
  have unused : G2 st2.heap.objs.size = none := J2.hok.fresh (Nat.le_refl _)
  let made : Obj := { cls := .type "tuple", data := .seq vals.toArray }
  refine ⟨.ref st2.heap.objs.size, upd G2 st2.heap.objs.size (.frz made (.tup items)), J2.laid (t' := st2.toks) (fun _ _ old => Heap.get?_push_of_some _ old) (Nat.le_refl _) ?_, rfl, fin _ made unused rfl rfl⟩
  exact (show ObjOk X.prog X.w _ _ _ (.frz made (.tup items)) from ⟨Heap.get?_push_size _ rfl, fits, vals, rel, ⟨_, Heap.get?_push_size _ rfl, rfl, _, rfl⟩⟩)
/-- t + u, known to its object -/
def rCatF (K : PySem.W.Frag) : R2 := fun x y H Q => ∃ a b xs ys, x = .ref a ∧ y = .ref b ∧ SqT K H a xs ∧ SqT K H b ys ∧ xs.length + ys.length ≤ sizeLine ∧
  (xs = [] → Q (.ref b) H) ∧ (xs ≠ [] → ys = [] → Q (.ref a) H) ∧ (xs ≠ [] → ys ≠ [] → ∀ p o, H p = none → o.cls = .type "tuple" → o.dict = none → Q (.ref p) (upd H p (.frz o (.tup (xs ++ ys)))))
theorem op_catF {K : PySem.W.Frag} (hK : X.K = K) : OpR X (binaryOp .Add) (rCatF K) := by
  subst hK
  intro held st sl G x y v u C J relx rely want
  obtain ⟨one', two, left, right, rfl, rfl, readL, readR, fits, none1, none2, both⟩ := want
  by_cases emp : left = []
  · exact op_catA held st sl G _ _ v u C J relx rely ⟨one', two, left, right, rfl, rfl, readL, readR, fits, none1, fun no => absurd emp no, fun no => absurd emp no⟩
  cases relx
  cases rely
  obtain ⟨itemsL, relL, tupL, _⟩ := J.tuple readL
  obtain ⟨itemsR, relR, tupR, _⟩ := J.tuple readR
  refine HT.cat_tup tupL tupR (fun no => emp (relL.nil_iff.mp no)) (fun no => ⟨.ref one', G, J, rfl, none2 emp (relR.nil_iff.mp no)⟩) (fun full => ?_) (by rw [← relL.length, ← relR.length]; exact fits)
  let made : Obj := { cls := .type "tuple", data := .seq (itemsL ++ itemsR).toArray }
  refine ⟨.ref st.heap.objs.size, _, J.laid (t' := st.toks) (o := .frz made (.tup (left ++ right))) (fun _ _ old => Heap.get?_push_of_some _ old) (Nat.le_refl _) ?_, rfl, both emp (fun no => full (relR.nil_iff.mpr no)) _ made (J.hok.fresh (Nat.le_refl _)) rfl rfl⟩
  exact ⟨Heap.get?_push_size _ rfl, by rw [List.length_append]; exact fits, _, relL.append relR, IsTup.new _ _⟩
theorem dcG_core {pins : List (Addr × Obj)} {s : Shared} {σ : L2.St} {H : Hp} {Q : VK} {O : Addr → HO} {Put : Addr → (Hp → Prop) → V → V → Hp → Prop} {kx vx tgt it : Expr} {ifs : List Expr} {sc : Scope} {own : List (Str × Nat)} {pos pos' : Pos} {walk : TI} {g : TG} {tt : TT} {tk tv : TE} {use : Option (Value → Sem Unit)} {Qf : Value → Shared → Prop}
    (mk0 : ∀ (H : Hp) (h : Heap), sysModules < h.objs.size → ObjOk X.prog X.w H (h.push { cls := .type "dict", data := .dict #[] }) h.objs.size (O h.objs.size)) (store : Stores X Put) (calm : X.calm = true) (nod : X.N.Nodup) (I : Inv X pins σ H s)
    (pi : PI X tgt it walk) (bo : BlkOk X.N X.env.scope sc own) (pg : InBlk X sc fun B => PG B tgt g) (pt : InBlk X sc fun B => PTs B ifs tt) (pk : InBlk X sc fun B => PE B kx tk) (pv : InBlk X sc fun B => PE B vx tv)
    (plain : ∀ x, foldedSetIterable it X.env x = pure x) (h : tDcG O Put walk g tt tk tv (own.map (·.2)) σ H Q)
    (behind : ∀ made frame st names G, Inv X pins σ G st → Q (.ref made) G → st.heap.Ns frame names → FpOk X pins G frame → compPost (model X.prog X.w) X.A X.xe use Qf (.ref made) frame (.ok .next) st) :
    wpAny (model X.prog X.w) X.A (comprehension (.DictComp kx vx [⟨tgt, it, ifs, 0⟩] sc pos) sc X.env pos' newDict false (eval it X.env) use) Qf X.xe s := by
  have free : ∀ y ∈ sc.names, y.2 = .free → ∃ c, X.env.cells.lookup y.1 = some c := fun y hy e => (bo.free y hy e).elim (fun k => I.ok.has _ (.inl k)) fun k => I.ok.has _ (.inr k)
  refine wpAny_comprehension_free (use := use) rfl plain (closure_ok free) bo.kind (fun y hy e => by rw [bo.uniq y hy, e]) ?_
  -- what is walked, then the empty dict
  refine thn (pi.run pins s σ H _ I h) fun xv s1 hx => thn hx ?_
  rintro itv s2 ⟨ad, feet, tn, J, H2, rfl, I2, T, at2, ft2, q⟩
  refine wpAny_newObj_type (newEnv_comp ?_)
  have fresh : H2 s2.heap.objs.size = none := I2.hok.fresh (Nat.le_refl _)
  obtain ⟨W, ⟨m0, w0⟩, turn⟩ := q _ fresh
  let s3 : Shared := { s2 with heap := s2.heap.push { cls := .type "dict", data := .dict #[] } }
  let D : Addr := s2.heap.objs.size
  let H3 : Hp := upd H2 D (O D)
  let L : Addr := s3.heap.objs.size
  let e3 : Env := compEnvC sc (cellsFrom (L + 1) sc.names (cloFrom X.env.cells sc.names [])) L X.env
  let s4 : Shared := { s3 with heap := pushCells (s3.heap.push { cls := .type "dict", data := .dict #[] }) sc.names }
  have I3 : Inv X pins σ H3 s3 := I2.laid (t' := s2.toks) (fun _ _ e => Heap.get?_push_of_some _ e) (Nat.le_refl _) (mk0 _ s2.heap I2.big)
  have grown : ∀ b o, s2.heap.get? b = some o → s3.heap.get? b = some o := fun _ _ e => Heap.get?_push_of_some _ e
  have low : ∀ b ∈ feet, b < s2.heap.objs.size := fun b hb => Heap.lt_size (T.obj _ _ at2 b hb).choose_spec.1
  have ft3 : ∀ b ∈ feet, FpOk X pins H3 b ∧ b < s3.heap.objs.size := fun b hb => ⟨⟨(upd_ne (Nat.ne_of_lt (low b hb))).trans (ft2 b hb).1, (ft2 b hb).2⟩, by show b < (s2.heap.push _).objs.size; rw [Heap.size_push]; exact Nat.lt_succ_of_lt (low b hb)⟩
  have at3 : tn 0 s3.heap := T.keep _ _ _ at2 fun b _ o e => grown b o e
  have I4 : Inv (X.blk s3 H3 sc e3 feet) [] (wipe σ (own.map (·.2))) H3 s4 := block_start I3 bo nod ft3
  have at4 : tn 0 s4.heap := T.keep _ _ _ at3 fun b _ o e => pushCells_keeps _ _ _ _ (Heap.get?_push_of_some _ e)
  -- the walker's own objects in the block's context
  have foot : ∀ {σ' : L2.St} {G : Hp} {t : Shared}, Inv (X.blk s3 H3 sc e3 feet) [] σ' G t → (∀ b ∈ feet, G b = none) → ∀ b ∈ feet, FpOk (X.blk s3 H3 sc e3 feet) [] G b := by
    intro σ' G t J' none b hb
    refine ⟨none b hb, (J'.ok.exf b hb).1, J'.ok.exfs b hb, .inl hb, fun x c e => (J'.ok.exf b hb).2 x c e, ?_⟩
    intro p hp
    exact nomatch (show p ∈ ([] : List (Addr × Obj)) from by simpa using hp)
  have loop : codeAny (model X.prog X.w) X.A (.compLoop (.DictComp kx vx [⟨tgt, it, ifs, 0⟩] sc pos) 0 (.ref ad) (.ref D) e3) (compPost (model X.prog X.w) X.A X.xe use Qf (.ref D) L) s4 := by
    refine compLoop_anyD (fun n t => ∃ i G, Inv (X.blk s3 H3 sc e3 feet) [] (wipe σ (own.map (·.2))) G t ∧ tn i t.heap ∧ (∀ b ∈ feet, G b = none) ∧ W i n G) ?_ m0 ⟨0, H3, I4, at4, fun b hb => (ft3 b hb).1.1, w0⟩
    rintro n t ⟨i, G, IG, atG, nG, wG⟩
    obtain ⟨stop, fin⟩ | ⟨go, N, less, step⟩ := turn i n G wG
    · refine thnF (T.done (X.blk s3 H3 sc e3 feet) rfl rfl rfl calm i [] t _ G (fun _ _ => False) IG (foot IG nG) atG stop) ?_
      rintro r t6 ⟨rfl, I6⟩
      have I7 : Inv X pins σ G t6 := I3.call' (ch := feet) I6.os I6.base I6.hok I6.bare fun b hb => let z := (ft3 b hb).1.2; ⟨z.2.2.1, z.1, z.2.2.2.1, z.2.2.2.2⟩
      obtain ⟨m, names, _⟩ := I6.loc
      exact behind D L t6 m G I7 fin names (I3.fpOk (Nat.le_refl _) (show G L = none from I6.free))
    · refine thnF (T.item (X.blk s3 H3 sc e3 feet) rfl rfl rfl calm i [] t _ G (fun _ _ => False) IG (foot IG nG) atG go) ?_
      rintro r t6 ⟨u, rfl, h6⟩
      refine thnF h6 ?_
      rintro _ t7 ⟨x, G7, I7, r7, y7, at7, n7⟩
      refine thnF ((pg _ _ _ _ _).run _ t7 _ G7 x u _ (I7.pinned (foot I7 n7) (T.obj _ _ at7)) r7 (step x G7 y7)) ?_
      rintro _ t8 ⟨σ8, G8, I8, wp8, q8⟩
      refine thnF ((pt _ _ _ _ _).run _ t8 σ8 G8 _ I8 q8) ?_
      rintro b t9 ⟨G9, I9, q9⟩
      have back : ∀ {t' : Shared} {G' : Hp}, Inv (X.blk s3 H3 sc e3 feet) ([] ++ pinsAt feet t7.heap) σ8 G' t' → N G' → ∃ m, m < n ∧ ∃ i G, Inv (X.blk s3 H3 sc e3 feet) [] (wipe σ (own.map (·.2))) G t' ∧ tn i t'.heap ∧ (∀ b ∈ feet, G b = none) ∧ W i m G := by
        intro t' G' I' nx
        obtain ⟨m', lt, w'⟩ := less G' nx
        have held : ∀ b ∈ feet, ∀ o, t7.heap.get? b = some o → t'.heap.get? b = some o ∧ G' b = none := fun b hb o e => let z := I'.pin (b, o) (List.mem_append_right _ (List.mem_append_right _ (mem_pinsAt hb e))); ⟨z.1, z.2.1⟩
        refine ⟨m', lt, i + 1, G', I'.unpinned.weak (by rw [← wp8, wipe_length]) fun j v e => ?_, T.keep _ _ _ at7 fun b hb o e => (held b hb o e).1, fun b hb => ?_, w'⟩
        · exact (wipe_some (wp8 ▸ e)).1
        · obtain ⟨o, e, _⟩ := T.obj _ _ at7 b hb
          exact (held b hb o e).2
      by_cases yes : b = true
      · subst yes
        refine thnF ((pk _ _ _ _ _).run _ t9 σ8 G9 _ I9 q9) ?_
        rintro ku t10 ⟨ky, G10, I10, r10, q10⟩
        refine thnF ((pv _ _ _ _ _).run _ t10 σ8 G10 _ I10 q10) ?_
        rintro vu t11 ⟨vy, G11, I11, r11, putting⟩
        exact store (X.blk s3 H3 sc e3 feet) _ _ _ _ _ _ _ _ _ _ _ _ rfl rfl rfl rfl I11 putting r10 r11 fun t12 G12 I12 nx => back I12 nx
      · have no : b = false := by cases b with | true => exact absurd rfl yes | false => rfl
        subst no
        exact back I9 q9
  exact codeAny_compStart_dict loop (T.self X.A 0 _ _ _ at4 loop)
theorem ps_setDcG {i : Nat} {y : Str} {py : Pos} {O : Addr → HO} {Put : Addr → (Hp → Prop) → V → V → Hp → Prop} {kx vx tgt it : Expr} {ifs : List Expr} {sc : Scope} {own : List (Str × Nat)} {pos spos : Pos} {walk : TI} {g : TG} {tt : TT} {tk tv : TE}
    (mk0 : ∀ (H : Hp) (h : Heap), sysModules < h.objs.size → ObjOk X.prog X.w H (h.push { cls := .type "dict", data := .dict #[] }) h.objs.size (O h.objs.size)) (store : Stores X Put) (calm : X.calm = true) (nod : X.N.Nodup) (hy : X.N[i]? = some y) (hyl : X.env.scope.names.lookup y = some .local)
    (hsw : swapsWith (.DictComp kx vx [⟨tgt, it, ifs, 0⟩] sc pos) (some (.Name y py)) spos.line X.env = pure true)
    (pi : PI X tgt it walk) (bo : BlkOk X.N X.env.scope sc own) (pg : InBlk X sc fun B => PG B tgt g) (pt : InBlk X sc fun B => PTs B ifs tt) (pk : InBlk X sc fun B => PE B kx tk) (pv : InBlk X sc fun B => PE B vx tv)
    (plain : ∀ x, foldedSetIterable it X.env x = pure x := by intro _; rfl) :
    PS X (.Assign [.Name y py] (.DictComp kx vx [⟨tgt, it, ifs, 0⟩] sc pos) spos) (tAsg (tDcG O Put walk g tt tk tv (own.map (·.2))) (gName i)) := by
  refine ⟨fun held st sl G ends J want => ?_⟩
  rw [exec_Assign_Name_used _ _ _ _ hsw]
  refine wpAny_bind (wpAny_standAt ?_)
  refine wpAny_bind ?_
  show wpAny _ X.A (do let _ ← comprehension (.DictComp kx vx [⟨tgt, it, ifs, 0⟩] sc pos) sc X.env (firstIterPos [⟨tgt, it, ifs, 0⟩] pos) newDict false (eval it X.env) (some (assign (.Name y py) X.env))) _ _ st
  have want : tDcG O Put walk g tt tk tv (own.map (·.2)) sl G (fun x G1 => gName i x sl G1 ends.nx) := want
  refine wpAny_bind (thn (dcG_core (Qf := fun _ st' => SP X held ends .next st') mk0 store calm nod J pi bo pg pt pk pv plain want fun made frame st2 names G2 J2 fin ns foot => ?_) fun _ _ last => wpAny_pure (wpAny_pure last))
  show wpAny _ _ (assign (.Name y py) X.env (.ref made)) _ _ _
  refine wpAny_assign_Name (store_ok2 (v := V.ref made) J2 nod hy (.inl hyl) rfl (fun st3 J3 ⟨place, same, way⟩ => ?_) (.inr hyl))
  obtain ⟨c0, c1, c2, c3, c4, c5⟩ := foot
  have apart : frame ≠ place := by
    rcases way with way | way
    · rw [way]; exact c1
    · exact fun e => c4 y place way e.symm
  refine ⟨names, ns.sameBut same apart, fun st4 same4 => ?_⟩
  exact ⟨_, G2, J3.turned (t' := st3.toks) (fun b _ out e => (same4.2 b out).trans e) c0 c1 c3 c4 c5, fin⟩
theorem sw_trueD {kx vx : Expr} {gs : List Comprehension} {scope : Scope} {pos py : Pos} {y : Str} {l : Nat} {env : Env} (hk : env.scope.kind = .function) (hy : env.scope.names.lookup y = some .local) (hl : (py.line == pos.line) = true)
    (ha : (scope.names.any fun (n, k) => n == y && (k == .local || k == .cell)) = false) : swapsWith (.DictComp kx vx gs scope pos) (some (.Name y py)) l env = pure true := by
  have kind : env.kindOf y = some .local := hy
  have block : env.blockKind = .function := by
    unfold Env.blockKind
    rw [hk]
    rfl
  unfold swapsWith
  simp only [block, kind, ha, Expr.pos, hl]
  rfl
theorem ps_setDcX {P : Program} {w : World} (hP : X.prog = P) (hw : X.w = w) {i : Nat} {y : Str} {py : Pos} {kx vx tgt it : Expr} {ifs : List Expr} {sc : Scope} {own : List (Str × Nat)} {pos spos : Pos} {walk : TI} {g : TG} {tt : TT} {tk tv : TE} (hu : X.A.units + 1 < cLine) (calm : X.calm = true) (nod : X.N.Nodup) (hy : X.N[i]? = some y) (hyl : X.env.scope.names.lookup y = some .local)
    (hsw : swapsWith (.DictComp kx vx [⟨tgt, it, ifs, 0⟩] sc pos) (some (.Name y py)) spos.line X.env = pure true)
    (pi : PI X tgt it walk) (bo : BlkOk X.N X.env.scope sc own) (pg : InBlk X sc fun B => PG B tgt g) (pt : InBlk X sc fun B => PTs B ifs tt) (pk : InBlk X sc fun B => PE B kx tk) (pv : InBlk X sc fun B => PE B vx tv)
    (plain : ∀ x, foldedSetIterable it X.env x = pure x := by intro _; rfl) :
    PS X (.Assign [.Name y py] (.DictComp kx vx [⟨tgt, it, ifs, 0⟩] sc pos) spos) (tAsg (tDcX P w walk g tt tk tv (own.map (·.2))) (gName i)) := by
  subst hP hw
  exact ps_setDcG (fun H h b => dXo_empty H h b) (stores_X hu) calm nod hy hyl hsw pi bo pg pt pk pv plain
theorem ps_setDcT {i : Nat} {y : Str} {py : Pos} {kx vx tgt it : Expr} {ifs : List Expr} {sc : Scope} {own : List (Str × Nat)} {pos spos : Pos} {walk : TI} {g : TG} {tt : TT} {tk tv : TE} (hu : X.A.units + 1 < cLine) (calm : X.calm = true) (nod : X.N.Nodup) (hy : X.N[i]? = some y) (hyl : X.env.scope.names.lookup y = some .local)
    (hsw : swapsWith (.DictComp kx vx [⟨tgt, it, ifs, 0⟩] sc pos) (some (.Name y py)) spos.line X.env = pure true)
    (pi : PI X tgt it walk) (bo : BlkOk X.N X.env.scope sc own) (pg : InBlk X sc fun B => PG B tgt g) (pt : InBlk X sc fun B => PTs B ifs tt) (pk : InBlk X sc fun B => PE B kx tk) (pv : InBlk X sc fun B => PE B vx tv)
    (plain : ∀ x, foldedSetIterable it X.env x = pure x := by intro _; rfl) :
    PS X (.Assign [.Name y py] (.DictComp kx vx [⟨tgt, it, ifs, 0⟩] sc pos) spos) (tAsg (tDcT walk g tt tk tv (own.map (·.2))) (gName i)) :=
  ps_setDcG (fun _ h b => dt_empty h b) (stores_T hu) calm nod hy hyl hsw pi bo pg pt pk pv plain
end
/-- a row with one item more -/
theorem cat_row {K : PySem.W.Frag} {M : Ms} {H : Hp} {v u : V} {r : List Int} {x : Int} {Q : VK} (h : RowF M H v r) (hu : RowF M H u [x]) (lr : r.length ≤ 1000) (hM : Mk M H) (q : ∀ z H', Same H H' → RowF M H' z (r ++ [x]) → Q z H') : rCatF K v u H Q := by
  obtain ⟨a, o, rfl, na, ha, h1, h2⟩ := id h
  obtain ⟨b, o2, rfl, nb, hb, h3, h4⟩ := id hu
  refine ⟨a, b, _, _, rfl, rfl, .inl (.inr ⟨o, ha⟩), .inl (.inr ⟨o2, hb⟩), ?_, fun z => ?_, fun _ z => absurd z (by simp), fun z _ p o3 hp h5 h6 => ?_⟩
  · rw [List.length_map]
    exact Nat.le_of_lt (small1000000 (by show _ + 1 ≤ _; omega))
  · have e : r = [] := by simpa using z
    subst e
    exact q _ _ (Same.refl _) hu
  · refine q _ _ (same_new hp) ⟨p, o3, rfl, hM.out hp, ?_, h5, h6⟩
    rw [upd_same, List.map_append]
theorem row_new {M : Ms} {H : Hp} {p : Addr} {o : Obj} {ns : List Int} (hM : Mk M H) (hp : H p = none) (h1 : o.cls = .type "tuple") (h2 : o.dict = none) : RowF M (upd H p (.frz o (.tup (ns.map V.int)))) (.ref p) ns := ⟨p, o, rfl, hM.out hp, upd_same, h1, h2⟩
/-- rows in a list -/
def RowsAt (good : List Int → Prop) (M : Ms) (H : Hp) (xs : List V) (nss : List (List Int)) : Prop := xs.length = nss.length ∧ ∀ (i : Nat) (ns : List Int), nss[i]? = some ns → ∃ w, xs[i]? = some w ∧ RowF M H w ns ∧ good ns
section
variable {good : List Int → Prop} {M : Ms} {H H' : Hp} {xs : List V} {nss : List (List Int)}
theorem RowsAt.get (h : RowsAt good M H xs nss) {i : Nat} {x : V} (hx : xs[i]? = some x) : ∃ ns, nss[i]? = some ns ∧ RowF M H x ns ∧ good ns := by
  have hi : i < nss.length := by rw [← h.1]; exact (List.getElem?_eq_some_iff.mp hx).1
  obtain ⟨w, hw, q, g⟩ := h.2 i _ (List.getElem?_eq_getElem hi)
  rw [hx] at hw
  cases hw
  exact ⟨_, List.getElem?_eq_getElem hi, q, g⟩
theorem RowsAt.mem (h : RowsAt good M H xs nss) {x : V} (hx : x ∈ xs) : ∃ ns, ns ∈ nss ∧ RowF M H x ns ∧ good ns := by
  obtain ⟨i, hi⟩ := List.mem_iff_getElem?.mp hx
  obtain ⟨ns, h1, h2, h3⟩ := h.get hi
  exact ⟨ns, List.mem_of_getElem? h1, h2, h3⟩
theorem RowsAt.sx (h : RowsAt good M H xs nss) (s : Sx M H H') : RowsAt good M H' xs nss := ⟨h.1, fun i ns e => by
  obtain ⟨w, h1, h2, h3⟩ := h.2 i ns e
  exact ⟨w, h1, h2.sx s, h3⟩⟩
theorem RowsAt.nil : RowsAt good M H [] [] := ⟨rfl, fun i ns e => by simp at e⟩
theorem RowsAt.append {ys : List V} {mss : List (List Int)} (h : RowsAt good M H xs nss) (g : RowsAt good M H ys mss) : RowsAt good M H (xs ++ ys) (nss ++ mss) := by
  refine ⟨by rw [List.length_append, List.length_append, h.1, g.1], fun i ns e => ?_⟩
  by_cases c : i < nss.length
  · rw [List.getElem?_append_left c] at e
    rw [List.getElem?_append_left (by rw [h.1]; exact c)]
    exact h.2 i ns e
  · rw [List.getElem?_append_right (by omega)] at e
    rw [List.getElem?_append_right (by rw [h.1]; omega), h.1]
    exact g.2 _ ns e
theorem RowsAt.one {w : V} {ns : List Int} (q : RowF M H w ns) (g : good ns) : RowsAt good M H [w] [ns] := ⟨rfl, fun i ms e => by
  cases i with
  | zero => cases e; exact ⟨w, rfl, q, g⟩
  | succ i => simp at e⟩
theorem RowsAt.less {N : Ms} (h : RowsAt good M H xs nss) (f : ∀ a, N a → M a) : RowsAt good N H xs nss := ⟨h.1, fun i ns e => by
  obtain ⟨w, h1, h2, h3⟩ := h.2 i ns e
  exact ⟨w, h1, h2.less f, h3⟩⟩
theorem RowsAt.fresh {p : Addr} (h : RowsAt good M H xs nss) (hp : H p = none) : RowsAt good (also M p) H xs nss := ⟨h.1, fun i ns e => by
  obtain ⟨w, h1, h2, h3⟩ := h.2 i ns e
  exact ⟨w, h1, h2.fresh hp, h3⟩⟩
end
end D

namespace D
open PySem PySem.Spec PyProof.Rows L2
local macro_rules | `(tactic| walk_at "st") => `(tactic| first | exact SqT.of (by assumption) | exact Or.inl (by assumption) | exact SqT.of upd_same | fail "st")
local macro_rules | `(tactic| walk_at "ixt") => `(tactic| refine ⟨_, _, _, _, rfl, rfl, (by walk_at "st" : SqT _ _ _ _), by rfl, ?_⟩)
local macro_rules | `(tactic| walk_at "sq") => `(tactic| first | exact SqL.of (by assumption) | assumption | exact Or.inl (by assumption) | exact SqL.of upd_same | fail "sq")
local macro_rules | `(tactic| walk_at "ix") => `(tactic| refine ⟨_, _, _, _, rfl, rfl, (by walk_at "sq" : SqL _ _ _ _), by rfl, ?_⟩)
local macro_rules | `(tactic| walk_at "set") => `(tactic| refine ⟨_, _, _, _, rfl, rfl, by first | assumption | exact upd_same, by rfl, ?_⟩)
local macro_rules | `(tactic| walk_at "len") => `(tactic| refine ⟨_, _, rfl, Or.inl (by walk_at "sq" : SqL _ _ _ _), ?_⟩)
local macro_rules | `(tactic| walk_at "g") => `(tactic| repeat (first | refine ⟨_, rfl, ?_⟩ | refine ⟨_, _, rfl, rfl, ?_⟩ | refine ⟨Or.inr (by decide), ?_⟩ | refine ⟨Or.inl (by decide), ?_⟩ | refine ⟨(by decide : (0 : Int) < _), ?_⟩ | refine ⟨(⟨by decide, by decide⟩ : CDiv _ _), ?_⟩ | refine ⟨(⟨by decide, by decide, by decide⟩ : CPow _ _), ?_⟩ | refine Or.inl ⟨_, rfl, ?_⟩ | refine ⟨rfl, ?_⟩ | walk_at "ix" | walk_at "ixt" | walk_at "len" | fail "g"))
local macro_rules | `(tactic| walk_at "if") => `(tactic| refine ite2 (fun e => ?_) (fun e => ?_))
def topS (i : Nat) : Stmt := PySem.Challenge.pw_drawnanew_k28_whole_least_pair.main.body.getD i (.Pass ⟨0, 0, 0, 0⟩)
abbrev s_BadForm___init__ : Stmt := inClass (topS 2) 0
theorem sc_BadForm___init__ : FnScope ["self", "part"] ["self", "part"] (defScope s_BadForm___init__) := ⟨rfl, rfl, rfl, by decide +kernel, rfl, by decide +kernel, by decide +kernel⟩
abbrev s_NoName___init__ : Stmt := inClass (topS 3) 0
theorem sc_NoName___init__ : FnScope ["self", "name"] ["self", "name"] (defScope s_NoName___init__) := ⟨rfl, rfl, rfl, by decide +kernel, rfl, by decide +kernel, by decide +kernel⟩
abbrev s_BadRow___init__ : Stmt := inClass (topS 4) 0
theorem sc_BadRow___init__ : FnScope ["self", "row"] ["self", "row"] (defScope s_BadRow___init__) := ⟨rfl, rfl, rfl, by decide +kernel, rfl, by decide +kernel, by decide +kernel⟩
abbrev s_NoItem___init__ : Stmt := inClass (topS 5) 0
theorem sc_NoItem___init__ : FnScope ["self", "item"] ["self", "item"] (defScope s_NoItem___init__) := ⟨rfl, rfl, rfl, by decide +kernel, rfl, by decide +kernel, by decide +kernel⟩
abbrev s_is_whole : Stmt := topS 10
theorem sc_is_whole : FnScope ["thing"] ["thing"] (defScope s_is_whole) := ⟨rfl, rfl, rfl, by decide +kernel, rfl, by decide +kernel, by decide +kernel⟩
abbrev s_is_value : Stmt := topS 11
theorem sc_is_value : FnScope ["thing"] ["thing"] (defScope s_is_value) := ⟨rfl, rfl, rfl, by decide +kernel, rfl, by decide +kernel, by decide +kernel⟩
abbrev s_is_name : Stmt := topS 12
theorem sc_is_name : FnScope ["thing", "sign"] ["thing"] (defScope s_is_name) := ⟨rfl, rfl, rfl, by decide +kernel, rfl, by decide +kernel, by decide +kernel⟩
abbrev s_inner_forms : Stmt := topS 13
theorem sc_inner_forms : FnScope ["form"] ["form"] (defScope s_inner_forms) := ⟨rfl, rfl, rfl, by decide +kernel, rfl, by decide +kernel, by decide +kernel⟩
abbrev s__well_made : Stmt := topS 14
theorem sc__well_made : FnScope ["part"] ["part"] (defScope s__well_made) := ⟨rfl, rfl, rfl, by decide +kernel, rfl, by decide +kernel, by decide +kernel⟩
abbrev s_check_form : Stmt := topS 15
theorem sc_check_form : FnScope ["parts", "deepest", "waiting", "part", "level", "inner", "form"] ["parts"] (defScope s_check_form) := ⟨rfl, rfl, rfl, by decide +kernel, rfl, by decide +kernel, by decide +kernel⟩
abbrev s_value_of : Stmt := topS 16
theorem sc_value_of : FnScope ["form", "values", "word", "first", "second"] ["form", "values"] (defScope s_value_of) := ⟨rfl, rfl, rfl, by decide +kernel, rfl, by decide +kernel, by decide +kernel⟩
abbrev s_names_in : Stmt := topS 17
theorem sc_names_in : FnScope ["form", "names", "inner", "name"] ["form"] (defScope s_names_in) := ⟨rfl, rfl, rfl, by decide +kernel, rfl, by decide +kernel, by decide +kernel⟩
abbrev s_is_row : Stmt := topS 20
theorem sc_is_row : FnScope ["thing", "item"] ["thing"] (defScope s_is_row) := ⟨rfl, rfl, rfl, by decide +kernel, rfl, by decide +kernel, by decide +kernel⟩
abbrev s_check_rows : Stmt := topS 21
theorem sc_check_rows : FnScope ["rows", "row"] ["rows"] (defScope s_check_rows) := ⟨rfl, rfl, rfl, by decide +kernel, rfl, by decide +kernel, by decide +kernel⟩
abbrev s__key_value : Stmt := topS 22
theorem sc__key_value : FnScope ["parts", "item", "at"] ["parts", "item", "at"] (defScope s__key_value) := ⟨rfl, rfl, rfl, by decide +kernel, rfl, by decide +kernel, by decide +kernel⟩
abbrev s_Key___init__ : Stmt := inClass (topS 23) 0
theorem sc_Key___init__ : FnScope ["self", "form", "name"] ["self", "form"] (defScope s_Key___init__) := ⟨rfl, rfl, rfl, by decide +kernel, rfl, by decide +kernel, by decide +kernel⟩
abbrev s_Key_parts : Stmt := inClass (topS 23) 1
theorem sc_Key_parts : FnScope ["self"] ["self"] (defScope s_Key_parts) := ⟨rfl, rfl, rfl, by decide +kernel, rfl, by decide +kernel, by decide +kernel⟩
abbrev s_Key___call__ : Stmt := inClass (topS 23) 2
theorem sc_Key___call__ : FnScope ["self", "item", "at"] ["self", "item", "at"] (defScope s_Key___call__) := ⟨rfl, rfl, rfl, by decide +kernel, rfl, by decide +kernel, by decide +kernel⟩
abbrev s_Key___le__ : Stmt := inClass (topS 23) 3
theorem sc_Key___le__ : FnScope ["self", "other", "values", "told", "item", "at", "first", "second"] ["self", "other"] (defScope s_Key___le__) := ⟨rfl, rfl, rfl, by decide +kernel, rfl, by decide +kernel, by decide +kernel⟩
abbrev s_Key_idents : Stmt := inClass (topS 23) 4
theorem sc_Key_idents : FnScope ["self", "row"] ["self", "row"] (defScope s_Key_idents) := ⟨rfl, rfl, rfl, by decide +kernel, rfl, by decide +kernel, by decide +kernel⟩
abbrev s__idents : Stmt := topS 24
theorem sc__idents : FnScope ["key", "row", "values", "at", "item", "value"] ["key", "row"] (defScope s__idents) := ⟨rfl, rfl, rfl, by decide +kernel, rfl, by decide +kernel, by decide +kernel⟩
abbrev s__matches : Stmt := topS 25
theorem sc__matches : FnScope ["before", "behind", "places", "place", "ident"] ["before", "behind"] (defScope s__matches) := ⟨rfl, rfl, rfl, by decide +kernel, rfl, by decide +kernel, by decide +kernel⟩
abbrev s__slipped : Stmt := topS 26
theorem sc__slipped : FnScope ["matches", "old", "new", "place", "at"] ["matches", "old", "new"] (defScope s__slipped) := ⟨rfl, rfl, rfl, by decide +kernel, rfl, by decide +kernel, by decide +kernel⟩
abbrev s__lost : Stmt := topS 27
theorem sc__lost : FnScope ["matches", "old", "new", "at", "item"] ["matches", "old", "new"] (defScope s__lost) := ⟨rfl, rfl, rfl, by decide +kernel, rfl, by decide +kernel, by decide +kernel⟩
abbrev s__first_parted : Stmt := topS 28
theorem sc__first_parted : FnScope ["pairs", "idents", "old", "new", "matches"] ["pairs", "idents"] (defScope s__first_parted) := ⟨rfl, rfl, rfl, by decide +kernel, rfl, by decide +kernel, by decide +kernel⟩
abbrev s_faithful : Stmt := topS 29
theorem sc_faithful : FnScope ["key", "menu", "pairs", "old", "new", "row"] ["key", "menu"] (defScope s_faithful) := ⟨rfl, rfl, rfl, by decide +kernel, rfl, by decide +kernel, by decide +kernel⟩
abbrev s__rows_of : Stmt := topS 30
theorem sc__rows_of : FnScope ["size", "places", "rows", "longest", "_", "row", "item"] ["size", "places"] (defScope s__rows_of) := ⟨rfl, rfl, rfl, by decide +kernel, rfl, by decide +kernel, by decide +kernel⟩
abbrev s_least_pair : Stmt := topS 31
theorem sc_least_pair : FnScope ["key", "size", "places", "rows", "idents", "many", "pairs", "found", "row", "old", "new"] ["key", "size", "places"] (defScope s_least_pair) := ⟨rfl, rfl, rfl, by decide +kernel, rfl, by decide +kernel, by decide +kernel⟩
abbrev s_Known___init__ : Stmt := inClass (topS 33) 0
theorem sc_Known___init__ : FnScope ["self", "key", "row"] ["self", "key", "row"] (defScope s_Known___init__) := ⟨rfl, rfl, rfl, by decide +kernel, rfl, by decide +kernel, by decide +kernel⟩
abbrev s_Known___getitem__ : Stmt := inClass (topS 33) 1
theorem sc_Known___getitem__ : FnScope ["self", "item"] ["self", "item"] (defScope s_Known___getitem__) := ⟨rfl, rfl, rfl, by decide +kernel, rfl, by decide +kernel, by decide +kernel⟩
abbrev s_Known___setitem__ : Stmt := inClass (topS 33) 2
theorem sc_Known___setitem__ : FnScope ["self", "item", "number"] ["self", "item", "number"] (defScope s_Known___setitem__) := ⟨rfl, rfl, rfl, by decide +kernel, rfl, by decide +kernel, by decide +kernel⟩
abbrev s_Known___iter__ : Stmt := inClass (topS 33) 3
theorem sc_Known___iter__ : FnScope ["self"] ["self"] (defScope s_Known___iter__) := ⟨rfl, rfl, rfl, by decide +kernel, rfl, by decide +kernel, by decide +kernel⟩
abbrev s_Known_show : Stmt := inClass (topS 33) 4
theorem sc_Known_show : FnScope ["self", "row", "idents", "ident", "item"] ["self", "row"] (defScope s_Known_show) := ⟨rfl, rfl, rfl, by decide +kernel, rfl, by decide +kernel, by decide +kernel⟩
abbrev s_Things___init__ : Stmt := inClass (topS 34) 0
theorem sc_Things___init__ : FnScope ["self", "row"] ["self", "row"] (defScope s_Things___init__) := ⟨rfl, rfl, rfl, by decide +kernel, rfl, by decide +kernel, by decide +kernel⟩
abbrev s_Things___getitem__ : Stmt := inClass (topS 34) 1
theorem sc_Things___getitem__ : FnScope ["self", "item"] ["self", "item"] (defScope s_Things___getitem__) := ⟨rfl, rfl, rfl, by decide +kernel, rfl, by decide +kernel, by decide +kernel⟩
abbrev s_Things___setitem__ : Stmt := inClass (topS 34) 2
theorem sc_Things___setitem__ : FnScope ["self", "item", "number"] ["self", "item", "number"] (defScope s_Things___setitem__) := ⟨rfl, rfl, rfl, by decide +kernel, rfl, by decide +kernel, by decide +kernel⟩
abbrev s_Things___iter__ : Stmt := inClass (topS 34) 3
theorem sc_Things___iter__ : FnScope ["self"] ["self"] (defScope s_Things___iter__) := ⟨rfl, rfl, rfl, by decide +kernel, rfl, by decide +kernel, by decide +kernel⟩
abbrev s_Things_show : Stmt := inClass (topS 34) 4
theorem sc_Things_show : FnScope ["self", "row", "item"] ["self", "row"] (defScope s_Things_show) := ⟨rfl, rfl, rfl, by decide +kernel, rfl, by decide +kernel, by decide +kernel⟩
abbrev s__differ : Stmt := topS 35
theorem sc__differ : FnScope ["key", "old", "item", "new", "known", "things", "told"] ["key", "old", "item", "new"] (defScope s__differ) := ⟨rfl, rfl, rfl, by decide +kernel, rfl, by decide +kernel, by decide +kernel⟩
abbrev s_least_parting : Stmt := topS 36
theorem sc_least_parting : FnScope ["key", "menu", "old", "new", "item"] ["key", "menu"] (defScope s_least_parting) := ⟨rfl, rfl, rfl, by decide +kernel, rfl, by decide +kernel, by decide +kernel⟩
abbrev s__law_mixed : Stmt := topS 38
theorem sc__law_mixed : FnScope ["_law_number_here", "_law_turn", "_law_first", "_law_second"] ["_law_number_here", "_law_turn"] (defScope s__law_mixed) := ⟨rfl, rfl, rfl, by decide +kernel, rfl, by decide +kernel, by decide +kernel⟩
abbrev s__law_bag : Stmt := topS 39
theorem sc__law_bag : FnScope ["_law_script", "_law_cell", "_law_numbers", "_law_seed", "_law_at"] ["_law_script"] (defScope s__law_bag) := ⟨rfl, rfl, rfl, by decide +kernel, rfl, by decide +kernel, by decide +kernel⟩
abbrev s__law_pick : Stmt := topS 40
theorem sc__law_pick : FnScope ["_law_bag_here", "_law_many", "_law_turn", "_law_cell", "_law_worth"] ["_law_bag_here", "_law_many"] (defScope s__law_pick) := ⟨rfl, rfl, rfl, by decide +kernel, rfl, by decide +kernel, by decide +kernel⟩
abbrev s__law_choice : Stmt := topS 41
theorem sc__law_choice : FnScope ["_law_bag_here", "_law_things"] ["_law_bag_here", "_law_things"] (defScope s__law_choice) := ⟨rfl, rfl, rfl, by decide +kernel, rfl, by decide +kernel, by decide +kernel⟩
abbrev s__law_number : Stmt := topS 42
theorem sc__law_number : FnScope ["_law_thing"] ["_law_thing"] (defScope s__law_number) := ⟨rfl, rfl, rfl, by decide +kernel, rfl, by decide +kernel, by decide +kernel⟩
abbrev s__law_form : Stmt := topS 43
theorem sc__law_form : FnScope ["_law_bag_here", "_law_readable", "_law_levels", "_law_way", "_law_first", "_law_second"] ["_law_bag_here", "_law_readable", "_law_levels"] (defScope s__law_form) := ⟨rfl, rfl, rfl, by decide +kernel, rfl, by decide +kernel, by decide +kernel⟩
abbrev s__law_value : Stmt := topS 44
theorem sc__law_value : FnScope ["_law_form_here", "_law_worths", "_law_word", "_law_first", "_law_second"] ["_law_form_here", "_law_worths"] (defScope s__law_value) := ⟨rfl, rfl, rfl, by decide +kernel, rfl, by decide +kernel, by decide +kernel⟩
abbrev s__law_idents : Stmt := topS 45
theorem sc__law_idents : FnScope ["_law_key", "_law_row", "_law_out", "_law_at", "_law_item", "_law_worth", "_law_told"] ["_law_key", "_law_row"] (defScope s__law_idents) := ⟨rfl, rfl, rfl, by decide +kernel, rfl, by decide +kernel, by decide +kernel⟩
abbrev s__law_any_key : Stmt := topS 46
theorem sc__law_any_key : FnScope ["_law_bag_here", "_law_way", "_law_worth", "_law_spot", "_law_item"] ["_law_bag_here"] (defScope s__law_any_key) := ⟨rfl, rfl, rfl, by decide +kernel, rfl, by decide +kernel, by decide +kernel⟩
abbrev s__law_told_items : Stmt := topS 47
theorem sc__law_told_items : FnScope ["_law_told", "_law_due", "_law_at"] ["_law_told", "_law_due"] (defScope s__law_told_items) := ⟨rfl, rfl, rfl, by decide +kernel, rfl, by decide +kernel, by decide +kernel⟩
abbrev s__law_all_rows : Stmt := topS 48
theorem sc__law_all_rows : FnScope ["_law_size", "_law_places", "_law_lists", "_law_length", "_law_longer", "_law_row", "_law_item"] ["_law_size", "_law_places"] (defScope s__law_all_rows) := ⟨rfl, rfl, rfl, by decide +kernel, rfl, by decide +kernel, by decide +kernel⟩
abbrev s__law_unlike_rows : Stmt := topS 49
theorem sc__law_unlike_rows : FnScope ["_law_old", "_law_before", "_law_new", "_law_behind", "_law_one", "_law_two"] ["_law_old", "_law_before", "_law_new", "_law_behind"] (defScope s__law_unlike_rows) := ⟨rfl, rfl, rfl, by decide +kernel, rfl, by decide +kernel, by decide +kernel⟩
abbrev s__law_first_of : Stmt := topS 50
theorem sc__law_first_of : FnScope ["_law_form_here", "_law_olds", "_law_news", "_law_marks", "_law_old", "_law_before", "_law_at", "_law_row"] ["_law_form_here", "_law_olds", "_law_news"] (defScope s__law_first_of) := ⟨rfl, rfl, rfl, by decide +kernel, rfl, by decide +kernel, by decide +kernel⟩
abbrev s__law_least : Stmt := topS 51
theorem sc__law_least : FnScope ["_law_form_here", "_law_size", "_law_places", "_law_lists", "_law_total", "_law_length", "_law_found"] ["_law_form_here", "_law_size", "_law_places"] (defScope s__law_least) := ⟨rfl, rfl, rfl, by decide +kernel, rfl, by decide +kernel, by decide +kernel⟩
abbrev s__law_plain : Stmt := topS 52
theorem sc__law_plain : FnScope ["_law_form_here", "_law_size", "_law_places", "_law_most", "_law_values", "_law_item", "_law_first", "_law_at"] ["_law_form_here", "_law_size", "_law_places"] (defScope s__law_plain) := ⟨rfl, rfl, rfl, by decide +kernel, rfl, by decide +kernel, by decide +kernel⟩
abbrev s__law_right : Stmt := topS 53
theorem sc__law_right : FnScope ["_law_key", "_law_form_here", "_law_size", "_law_places", "_law_menu", "_law_due", "_law_told", "_law_shown"] ["_law_key", "_law_form_here", "_law_size", "_law_places", "_law_menu"] (defScope s__law_right) := ⟨rfl, rfl, rfl, by decide +kernel, rfl, by decide +kernel, by decide +kernel⟩
abbrev s__law_menu_of : Stmt := topS 54
theorem sc__law_menu_of : FnScope ["_law_bag_here", "_law_size", "_law_places", "_law_rows", "_law_length", "_law_step"] ["_law_bag_here", "_law_size", "_law_places"] (defScope s__law_menu_of) := ⟨rfl, rfl, rfl, by decide +kernel, rfl, by decide +kernel, by decide +kernel⟩
abbrev s_law : Stmt := topS 55
theorem sc_law : FnScope ["_law_script", "_law_bag_here", "_law_forms", "_law_both", "_law_size", "_law_places", "_law_menu", "_law_less", "_law_fewer", "_law_other", "_law_form_here"] ["_law_script"] (defScope s_law) := ⟨rfl, rfl, rfl, by decide +kernel, rfl, by decide +kernel, by decide +kernel⟩

structure Txt (K : PySem.W.Frag) (mg : Str → Option Value) where
  f_is_whole : Addr
  d_is_whole : FuncData
  F_is_whole : Fun K "is_whole" "is_whole" s_is_whole f_is_whole d_is_whole
  b_is_whole : Binds K d_is_whole ["thing"] []
  g_is_whole : mg "is_whole" = some (.ref f_is_whole)
  f_is_value : Addr
  d_is_value : FuncData
  F_is_value : Fun K "is_value" "is_value" s_is_value f_is_value d_is_value
  b_is_value : Binds K d_is_value ["thing"] []
  g_is_value : mg "is_value" = some (.ref f_is_value)
  f_is_name : Addr
  d_is_name : FuncData
  F_is_name : Fun K "is_name" "is_name" s_is_name f_is_name d_is_name
  b_is_name : Binds K d_is_name ["thing"] []
  g_is_name : mg "is_name" = some (.ref f_is_name)
  f_inner_forms : Addr
  d_inner_forms : FuncData
  F_inner_forms : Fun K "inner_forms" "inner_forms" s_inner_forms f_inner_forms d_inner_forms
  b_inner_forms : Binds K d_inner_forms ["form"] []
  g_inner_forms : mg "inner_forms" = some (.ref f_inner_forms)
  f__well_made : Addr
  d__well_made : FuncData
  F__well_made : Fun K "_well_made" "_well_made" s__well_made f__well_made d__well_made
  b__well_made : Binds K d__well_made ["part"] []
  g__well_made : mg "_well_made" = some (.ref f__well_made)
  f_check_form : Addr
  d_check_form : FuncData
  F_check_form : Fun K "check_form" "check_form" s_check_form f_check_form d_check_form
  b_check_form : Binds K d_check_form ["parts"] []
  g_check_form : mg "check_form" = some (.ref f_check_form)
  f_value_of : Addr
  d_value_of : FuncData
  F_value_of : Fun K "value_of" "value_of" s_value_of f_value_of d_value_of
  b_value_of : Binds K d_value_of ["form", "values"] []
  g_value_of : mg "value_of" = some (.ref f_value_of)
  f_names_in : Addr
  d_names_in : FuncData
  F_names_in : Fun K "names_in" "names_in" s_names_in f_names_in d_names_in
  b_names_in : Binds K d_names_in ["form"] []
  g_names_in : mg "names_in" = some (.ref f_names_in)
  f_is_row : Addr
  d_is_row : FuncData
  F_is_row : Fun K "is_row" "is_row" s_is_row f_is_row d_is_row
  b_is_row : Binds K d_is_row ["thing"] []
  g_is_row : mg "is_row" = some (.ref f_is_row)
  f_check_rows : Addr
  d_check_rows : FuncData
  F_check_rows : Fun K "check_rows" "check_rows" s_check_rows f_check_rows d_check_rows
  b_check_rows : Binds K d_check_rows ["rows"] []
  g_check_rows : mg "check_rows" = some (.ref f_check_rows)
  f__key_value : Addr
  d__key_value : FuncData
  F__key_value : Fun K "_key_value" "_key_value" s__key_value f__key_value d__key_value
  b__key_value : Binds K d__key_value ["parts", "item", "at"] []
  g__key_value : mg "_key_value" = some (.ref f__key_value)
  f__idents : Addr
  d__idents : FuncData
  F__idents : Fun K "_idents" "_idents" s__idents f__idents d__idents
  b__idents : Binds K d__idents ["key", "row"] []
  g__idents : mg "_idents" = some (.ref f__idents)
  f__matches : Addr
  d__matches : FuncData
  F__matches : Fun K "_matches" "_matches" s__matches f__matches d__matches
  b__matches : Binds K d__matches ["before", "behind"] []
  g__matches : mg "_matches" = some (.ref f__matches)
  f__slipped : Addr
  d__slipped : FuncData
  F__slipped : Fun K "_slipped" "_slipped" s__slipped f__slipped d__slipped
  b__slipped : Binds K d__slipped ["matches", "old", "new"] []
  g__slipped : mg "_slipped" = some (.ref f__slipped)
  f__lost : Addr
  d__lost : FuncData
  F__lost : Fun K "_lost" "_lost" s__lost f__lost d__lost
  b__lost : Binds K d__lost ["matches", "old", "new"] []
  g__lost : mg "_lost" = some (.ref f__lost)
  f__first_parted : Addr
  d__first_parted : FuncData
  F__first_parted : Fun K "_first_parted" "_first_parted" s__first_parted f__first_parted d__first_parted
  b__first_parted : Binds K d__first_parted ["pairs", "idents"] []
  g__first_parted : mg "_first_parted" = some (.ref f__first_parted)
  f_faithful : Addr
  d_faithful : FuncData
  F_faithful : Fun K "faithful" "faithful" s_faithful f_faithful d_faithful
  b_faithful : Binds K d_faithful ["key", "menu"] []
  g_faithful : mg "faithful" = some (.ref f_faithful)
  f__rows_of : Addr
  d__rows_of : FuncData
  F__rows_of : Fun K "_rows_of" "_rows_of" s__rows_of f__rows_of d__rows_of
  b__rows_of : Binds K d__rows_of ["size", "places"] []
  g__rows_of : mg "_rows_of" = some (.ref f__rows_of)
  f_least_pair : Addr
  d_least_pair : FuncData
  F_least_pair : Fun K "least_pair" "least_pair" s_least_pair f_least_pair d_least_pair
  b_least_pair : Binds K d_least_pair ["key", "size", "places"] []
  g_least_pair : mg "least_pair" = some (.ref f_least_pair)
  f__differ : Addr
  d__differ : FuncData
  F__differ : Fun K "_differ" "_differ" s__differ f__differ d__differ
  b__differ : Binds K d__differ ["key", "old", "item", "new"] []
  g__differ : mg "_differ" = some (.ref f__differ)
  f_least_parting : Addr
  d_least_parting : FuncData
  F_least_parting : Fun K "least_parting" "least_parting" s_least_parting f_least_parting d_least_parting
  b_least_parting : Binds K d_least_parting ["key", "menu"] []
  g_least_parting : mg "least_parting" = some (.ref f_least_parting)
  f__law_mixed : Addr
  d__law_mixed : FuncData
  F__law_mixed : Fun K "_law_mixed" "_law_mixed" s__law_mixed f__law_mixed d__law_mixed
  b__law_mixed : Binds K d__law_mixed ["_law_number_here", "_law_turn"] []
  g__law_mixed : mg "_law_mixed" = some (.ref f__law_mixed)
  f__law_bag : Addr
  d__law_bag : FuncData
  F__law_bag : Fun K "_law_bag" "_law_bag" s__law_bag f__law_bag d__law_bag
  b__law_bag : Binds K d__law_bag ["_law_script"] []
  g__law_bag : mg "_law_bag" = some (.ref f__law_bag)
  f__law_pick : Addr
  d__law_pick : FuncData
  F__law_pick : Fun K "_law_pick" "_law_pick" s__law_pick f__law_pick d__law_pick
  b__law_pick : Binds K d__law_pick ["_law_bag_here", "_law_many"] []
  g__law_pick : mg "_law_pick" = some (.ref f__law_pick)
  f__law_choice : Addr
  d__law_choice : FuncData
  F__law_choice : Fun K "_law_choice" "_law_choice" s__law_choice f__law_choice d__law_choice
  b__law_choice : Binds K d__law_choice ["_law_bag_here", "_law_things"] []
  g__law_choice : mg "_law_choice" = some (.ref f__law_choice)
  f__law_number : Addr
  d__law_number : FuncData
  F__law_number : Fun K "_law_number" "_law_number" s__law_number f__law_number d__law_number
  b__law_number : Binds K d__law_number ["_law_thing"] []
  g__law_number : mg "_law_number" = some (.ref f__law_number)
  f__law_form : Addr
  d__law_form : FuncData
  F__law_form : Fun K "_law_form" "_law_form" s__law_form f__law_form d__law_form
  b__law_form : Binds K d__law_form ["_law_bag_here", "_law_readable", "_law_levels"] []
  g__law_form : mg "_law_form" = some (.ref f__law_form)
  f__law_value : Addr
  d__law_value : FuncData
  F__law_value : Fun K "_law_value" "_law_value" s__law_value f__law_value d__law_value
  b__law_value : Binds K d__law_value ["_law_form_here", "_law_worths"] []
  g__law_value : mg "_law_value" = some (.ref f__law_value)
  f__law_idents : Addr
  d__law_idents : FuncData
  F__law_idents : Fun K "_law_idents" "_law_idents" s__law_idents f__law_idents d__law_idents
  b__law_idents : Binds K d__law_idents ["_law_key", "_law_row"] []
  g__law_idents : mg "_law_idents" = some (.ref f__law_idents)
  f__law_any_key : Addr
  d__law_any_key : FuncData
  F__law_any_key : Fun K "_law_any_key" "_law_any_key" s__law_any_key f__law_any_key d__law_any_key
  b__law_any_key : Binds K d__law_any_key ["_law_bag_here"] []
  g__law_any_key : mg "_law_any_key" = some (.ref f__law_any_key)
  f__law_told_items : Addr
  d__law_told_items : FuncData
  F__law_told_items : Fun K "_law_told_items" "_law_told_items" s__law_told_items f__law_told_items d__law_told_items
  b__law_told_items : Binds K d__law_told_items ["_law_told", "_law_due"] []
  g__law_told_items : mg "_law_told_items" = some (.ref f__law_told_items)
  f__law_all_rows : Addr
  d__law_all_rows : FuncData
  F__law_all_rows : Fun K "_law_all_rows" "_law_all_rows" s__law_all_rows f__law_all_rows d__law_all_rows
  b__law_all_rows : Binds K d__law_all_rows ["_law_size", "_law_places"] []
  g__law_all_rows : mg "_law_all_rows" = some (.ref f__law_all_rows)
  f__law_unlike_rows : Addr
  d__law_unlike_rows : FuncData
  F__law_unlike_rows : Fun K "_law_unlike_rows" "_law_unlike_rows" s__law_unlike_rows f__law_unlike_rows d__law_unlike_rows
  b__law_unlike_rows : Binds K d__law_unlike_rows ["_law_old", "_law_before", "_law_new", "_law_behind"] []
  g__law_unlike_rows : mg "_law_unlike_rows" = some (.ref f__law_unlike_rows)
  f__law_first_of : Addr
  d__law_first_of : FuncData
  F__law_first_of : Fun K "_law_first_of" "_law_first_of" s__law_first_of f__law_first_of d__law_first_of
  b__law_first_of : Binds K d__law_first_of ["_law_form_here", "_law_olds", "_law_news"] []
  g__law_first_of : mg "_law_first_of" = some (.ref f__law_first_of)
  f__law_least : Addr
  d__law_least : FuncData
  F__law_least : Fun K "_law_least" "_law_least" s__law_least f__law_least d__law_least
  b__law_least : Binds K d__law_least ["_law_form_here", "_law_size", "_law_places"] []
  g__law_least : mg "_law_least" = some (.ref f__law_least)
  f__law_plain : Addr
  d__law_plain : FuncData
  F__law_plain : Fun K "_law_plain" "_law_plain" s__law_plain f__law_plain d__law_plain
  b__law_plain : Binds K d__law_plain ["_law_form_here", "_law_size", "_law_places"] []
  g__law_plain : mg "_law_plain" = some (.ref f__law_plain)
  f__law_right : Addr
  d__law_right : FuncData
  F__law_right : Fun K "_law_right" "_law_right" s__law_right f__law_right d__law_right
  b__law_right : Binds K d__law_right ["_law_key", "_law_form_here", "_law_size", "_law_places", "_law_menu"] []
  g__law_right : mg "_law_right" = some (.ref f__law_right)
  f__law_menu_of : Addr
  d__law_menu_of : FuncData
  F__law_menu_of : Fun K "_law_menu_of" "_law_menu_of" s__law_menu_of f__law_menu_of d__law_menu_of
  b__law_menu_of : Binds K d__law_menu_of ["_law_bag_here", "_law_size", "_law_places"] []
  g__law_menu_of : mg "_law_menu_of" = some (.ref f__law_menu_of)
  f_law : Addr
  d_law : FuncData
  F_law : Fun K "law" "law" s_law f_law d_law
  b_law : Binds K d_law ["_law_script"] []
  g_law : mg "law" = some (.ref f_law)
  C_Key : Addr
  g_Key : mg "Key" = some (.ref C_Key)
  cl_Key : Cls K C_Key
  mk_Key : PySem.W.makesIn K C_Key = true
  kc_Key : PySem.W.keepIn K (.ref C_Key) = true
  nf_Key : PySem.W.notFirst K C_Key (.ref C_Key) = true
  in_Key : C8.InsC K C_Key
  nA_Key__parts : NoAttr K C_Key "_parts"
  f_Key___init__ : Addr
  d_Key___init__ : FuncData
  F_Key___init__ : Fun K "__init__" "Key.__init__" s_Key___init__ f_Key___init__ d_Key___init__
  b_Key___init__ : Binds K d_Key___init__ ["self", "form"] []
  a_Key___init__ : PySem.W.findIn K (.ref C_Key) "__init__" = some (some (.ref f_Key___init__))
  i_Key___init__ : PySem.W.isFn K (.ref f_Key___init__) = true
  n_Key___init__ : PySem.W.fnIn K f_Key___init__ = true
  f_Key_parts : Addr
  d_Key_parts : FuncData
  F_Key_parts : Fun K "parts" "Key.parts" s_Key_parts f_Key_parts d_Key_parts
  b_Key_parts : Binds K d_Key_parts ["self"] []
  p_Key_parts : Addr
  P_Key_parts : PropOf K C_Key "parts" p_Key_parts f_Key_parts
  f_Key___call__ : Addr
  d_Key___call__ : FuncData
  F_Key___call__ : Fun K "__call__" "Key.__call__" s_Key___call__ f_Key___call__ d_Key___call__
  b_Key___call__ : Binds K d_Key___call__ ["self", "item", "at"] []
  a_Key___call__ : PySem.W.findIn K (.ref C_Key) "__call__" = some (some (.ref f_Key___call__))
  i_Key___call__ : PySem.W.isFn K (.ref f_Key___call__) = true
  n_Key___call__ : PySem.W.fnIn K f_Key___call__ = true
  f_Key___le__ : Addr
  d_Key___le__ : FuncData
  F_Key___le__ : Fun K "__le__" "Key.__le__" s_Key___le__ f_Key___le__ d_Key___le__
  b_Key___le__ : Binds K d_Key___le__ ["self", "other"] []
  a_Key___le__ : PySem.W.findIn K (.ref C_Key) "__le__" = some (some (.ref f_Key___le__))
  i_Key___le__ : PySem.W.isFn K (.ref f_Key___le__) = true
  n_Key___le__ : PySem.W.fnIn K f_Key___le__ = true
  f_Key_idents : Addr
  d_Key_idents : FuncData
  F_Key_idents : Fun K "idents" "Key.idents" s_Key_idents f_Key_idents d_Key_idents
  b_Key_idents : Binds K d_Key_idents ["self", "row"] []
  a_Key_idents : PySem.W.findIn K (.ref C_Key) "idents" = some (some (.ref f_Key_idents))
  i_Key_idents : PySem.W.isFn K (.ref f_Key_idents) = true
  n_Key_idents : PySem.W.fnIn K f_Key_idents = true
  C_Known : Addr
  g_Known : mg "Known" = some (.ref C_Known)
  cl_Known : Cls K C_Known
  mk_Known : PySem.W.makesIn K C_Known = true
  kc_Known : PySem.W.keepIn K (.ref C_Known) = true
  nf_Known : PySem.W.notFirst K C_Known (.ref C_Known) = true
  in_Known : C8.InsC K C_Known
  ns_Known : PySem.W.noSeq K C_Known = true
  nA_Known__idents : NoAttr K C_Known "_idents"
  nA_Known__key : NoAttr K C_Known "_key"
  nA_Known__numbers : NoAttr K C_Known "_numbers"
  nA_Known_row : NoAttr K C_Known "row"
  f_Known___init__ : Addr
  d_Known___init__ : FuncData
  F_Known___init__ : Fun K "__init__" "Known.__init__" s_Known___init__ f_Known___init__ d_Known___init__
  b_Known___init__ : Binds K d_Known___init__ ["self", "key", "row"] []
  a_Known___init__ : PySem.W.findIn K (.ref C_Known) "__init__" = some (some (.ref f_Known___init__))
  i_Known___init__ : PySem.W.isFn K (.ref f_Known___init__) = true
  n_Known___init__ : PySem.W.fnIn K f_Known___init__ = true
  f_Known___getitem__ : Addr
  d_Known___getitem__ : FuncData
  F_Known___getitem__ : Fun K "__getitem__" "Known.__getitem__" s_Known___getitem__ f_Known___getitem__ d_Known___getitem__
  b_Known___getitem__ : Binds K d_Known___getitem__ ["self", "item"] []
  a_Known___getitem__ : PySem.W.findIn K (.ref C_Known) "__getitem__" = some (some (.ref f_Known___getitem__))
  i_Known___getitem__ : PySem.W.isFn K (.ref f_Known___getitem__) = true
  n_Known___getitem__ : PySem.W.fnIn K f_Known___getitem__ = true
  f_Known___setitem__ : Addr
  d_Known___setitem__ : FuncData
  F_Known___setitem__ : Fun K "__setitem__" "Known.__setitem__" s_Known___setitem__ f_Known___setitem__ d_Known___setitem__
  b_Known___setitem__ : Binds K d_Known___setitem__ ["self", "item", "number"] []
  a_Known___setitem__ : PySem.W.findIn K (.ref C_Known) "__setitem__" = some (some (.ref f_Known___setitem__))
  i_Known___setitem__ : PySem.W.isFn K (.ref f_Known___setitem__) = true
  n_Known___setitem__ : PySem.W.fnIn K f_Known___setitem__ = true
  f_Known___iter__ : Addr
  d_Known___iter__ : FuncData
  F_Known___iter__ : Fun K "__iter__" "Known.__iter__" s_Known___iter__ f_Known___iter__ d_Known___iter__
  b_Known___iter__ : Binds K d_Known___iter__ ["self"] []
  a_Known___iter__ : PySem.W.findIn K (.ref C_Known) "__iter__" = some (some (.ref f_Known___iter__))
  i_Known___iter__ : PySem.W.isFn K (.ref f_Known___iter__) = true
  n_Known___iter__ : PySem.W.fnIn K f_Known___iter__ = true
  f_Known_show : Addr
  d_Known_show : FuncData
  F_Known_show : Fun K "show" "Known.show" s_Known_show f_Known_show d_Known_show
  b_Known_show : Binds K d_Known_show ["self", "row"] []
  a_Known_show : PySem.W.findIn K (.ref C_Known) "show" = some (some (.ref f_Known_show))
  i_Known_show : PySem.W.isFn K (.ref f_Known_show) = true
  n_Known_show : PySem.W.fnIn K f_Known_show = true
  C_Things : Addr
  g_Things : mg "Things" = some (.ref C_Things)
  cl_Things : Cls K C_Things
  mk_Things : PySem.W.makesIn K C_Things = true
  kc_Things : PySem.W.keepIn K (.ref C_Things) = true
  nf_Things : PySem.W.notFirst K C_Things (.ref C_Things) = true
  in_Things : C8.InsC K C_Things
  ns_Things : PySem.W.noSeq K C_Things = true
  nA_Things__numbers : NoAttr K C_Things "_numbers"
  nA_Things_row : NoAttr K C_Things "row"
  f_Things___init__ : Addr
  d_Things___init__ : FuncData
  F_Things___init__ : Fun K "__init__" "Things.__init__" s_Things___init__ f_Things___init__ d_Things___init__
  b_Things___init__ : Binds K d_Things___init__ ["self", "row"] []
  a_Things___init__ : PySem.W.findIn K (.ref C_Things) "__init__" = some (some (.ref f_Things___init__))
  i_Things___init__ : PySem.W.isFn K (.ref f_Things___init__) = true
  n_Things___init__ : PySem.W.fnIn K f_Things___init__ = true
  f_Things___getitem__ : Addr
  d_Things___getitem__ : FuncData
  F_Things___getitem__ : Fun K "__getitem__" "Things.__getitem__" s_Things___getitem__ f_Things___getitem__ d_Things___getitem__
  b_Things___getitem__ : Binds K d_Things___getitem__ ["self", "item"] []
  a_Things___getitem__ : PySem.W.findIn K (.ref C_Things) "__getitem__" = some (some (.ref f_Things___getitem__))
  i_Things___getitem__ : PySem.W.isFn K (.ref f_Things___getitem__) = true
  n_Things___getitem__ : PySem.W.fnIn K f_Things___getitem__ = true
  f_Things___setitem__ : Addr
  d_Things___setitem__ : FuncData
  F_Things___setitem__ : Fun K "__setitem__" "Things.__setitem__" s_Things___setitem__ f_Things___setitem__ d_Things___setitem__
  b_Things___setitem__ : Binds K d_Things___setitem__ ["self", "item", "number"] []
  a_Things___setitem__ : PySem.W.findIn K (.ref C_Things) "__setitem__" = some (some (.ref f_Things___setitem__))
  i_Things___setitem__ : PySem.W.isFn K (.ref f_Things___setitem__) = true
  n_Things___setitem__ : PySem.W.fnIn K f_Things___setitem__ = true
  f_Things___iter__ : Addr
  d_Things___iter__ : FuncData
  F_Things___iter__ : Fun K "__iter__" "Things.__iter__" s_Things___iter__ f_Things___iter__ d_Things___iter__
  b_Things___iter__ : Binds K d_Things___iter__ ["self"] []
  a_Things___iter__ : PySem.W.findIn K (.ref C_Things) "__iter__" = some (some (.ref f_Things___iter__))
  i_Things___iter__ : PySem.W.isFn K (.ref f_Things___iter__) = true
  n_Things___iter__ : PySem.W.fnIn K f_Things___iter__ = true
  f_Things_show : Addr
  d_Things_show : FuncData
  F_Things_show : Fun K "show" "Things.show" s_Things_show f_Things_show d_Things_show
  b_Things_show : Binds K d_Things_show ["self", "row"] []
  a_Things_show : PySem.W.findIn K (.ref C_Things) "show" = some (some (.ref f_Things_show))
  i_Things_show : PySem.W.isFn K (.ref f_Things_show) = true
  n_Things_show : PySem.W.fnIn K f_Things_show = true
  m_ValueError : mg "ValueError" = none
  m_abs : mg "abs" = none
  m_all : mg "all" = none
  m_bool : mg "bool" = none
  m_enumerate : mg "enumerate" = none
  m_int : mg "int" = none
  m_isinstance : mg "isinstance" = none
  m_iter : mg "iter" = none
  m_len : mg "len" = none
  m_range : mg "range" = none
  m_set : mg "set" = none
  m_str : mg "str" = none
  m_tuple : mg "tuple" = none
  m_zip : mg "zip" = none
  t_MOST_LETTERS : Tok
  c_MOST_LETTERS : mg "MOST_LETTERS" = some (.int 8 t_MOST_LETTERS)
  t_MOST_LEVELS : Tok
  c_MOST_LEVELS : mg "MOST_LEVELS" = some (.int 5 t_MOST_LEVELS)
  t_MOST_ITEMS : Tok
  c_MOST_ITEMS : mg "MOST_ITEMS" = some (.int 5 t_MOST_ITEMS)
section
variable {P : Program} {w : World} {K : PySem.W.Frag} {mg : Str → Option Value} {base : Heap}
def sp_mixed : Sp := fun vs H Q _ => ∃ a t : Int, vs = [.int a, .int t] ∧ ∀ w : Int, 0 ≤ w → Q (.int w) H
theorem ok_mixed (T : Txt K mg) : FnOk P w K mg base CX0 1 T.f__law_mixed T.d__law_mixed ["_law_number_here", "_law_turn"] sp_mixed := by
  refine T.F__law_mixed.ok sc__law_mixed (fun vs H Q E h => ?_) (fun cdv A outer s H vs Q E hr h => ?_)
  · obtain ⟨a, t, rfl, _⟩ := h
    rfl
  · obtain ⟨a, t, rfl, q⟩ := h
    refine ⟨_, (pss_cons (ps_set (i := 2) sc__law_mixed.nd rfl (Or.inl rfl) (pe_op op_mod (pe_callTy call_int1 (by rfl) T.m_int (by decide +kernel) (pa_cons (pe_op op_add (pe_op op_mul (pe_op op_add (pv 0) pe_int) pe_int) (pe_op op_mul (pe_op op_add (pv 1) pe_int) pe_int)) pa_nil)) pe_int))
      (pss_cons (ps_set (i := 3) sc__law_mixed.nd rfl (Or.inl rfl) (pe_op op_mod (pe_callTy call_int1 (by rfl) T.m_int (by decide +kernel) (pa_cons (pe_op op_add (pe_op op_add (pe_op op_mul (pv 2) (pv 2)) (pe_op op_mul (pv 2) pe_int)) (pe_op op_mul (pe_op op_add (pv 1) pe_int) pe_int)) pa_nil)) pe_int))
      (pss_one (ps_ret (pe_op op_mod (pe_callTy call_int1 (by rfl) T.m_int (by decide +kernel) (pa_cons (pe_op op_add (pe_op op_add (pe_op op_fdiv (pv 3) pe_int) (pe_op op_mul (pv 3) pe_int)) (pv 1)) pa_nil)) pe_int))))), ?_⟩
    walk_at "g"
    have h0 := Int.emod_nonneg ((a + 1) * 48271 + (t + 1) * 1103515245) (by decide : (2147483647 : Int) ≠ 0)
    have h1 := Int.emod_lt_of_pos ((a + 1) * 48271 + (t + 1) * 1103515245) (by decide : (0 : Int) < 2147483647)
    refine ⟨Or.inr ⟨by omega, by omega⟩, ?_⟩
    walk_at "g"
    refine q _ (Int.emod_nonneg _ (by decide))
/-- the bag is made -/
def sp_bag (K : PySem.W.Frag) : Sp := fun vs H Q _ => ∃ (a : Addr) (ns : List Int), vs = [.ref a] ∧ SqL K H a (ns.map V.int) ∧ ns.length ≤ 63 ∧
  ∀ b H', Same H H' → H b = none → Bag K (one b) H' b → Q (.ref b) H'
theorem ok_bag (T : Txt K mg) : FnOk P w K mg base CX0 1 T.f__law_bag T.d__law_bag ["_law_script"] (sp_bag K) := by
  refine T.F__law_bag.ok sc__law_bag (fun vs H Q E h => ?_) (fun cdv A outer s H vs Q E hr h => ?_)
  · obtain ⟨a, t, rfl, _⟩ := h
    rfl
  · obtain ⟨a, ns, rfl, hS, hlen, q⟩ := h
    refine ⟨_, (pss_cons (ps_setLc (i := 2) (own := [("_law_cell", 1)]) (g := gName 1) (tt := tYes) (by rfl) sc__law_bag.nd rfl rfl (sw_true rfl rfl rfl (by decide +kernel)) (pi_listK (K := K) rfl (pv 0)) (blkOk_by (own := [("_law_cell", 1)]) (N := ["_law_script", "_law_cell", "_law_numbers", "_law_seed", "_law_at"]) (sc := defScope s__law_bag) (by decide +kernel)) (fun _ _ _ _ _ => (pg_name (i := 1) sc__law_bag.nd rfl (Or.inl rfl))) (fun _ _ _ _ _ => pts_nil) (fun _ _ _ _ _ => (pe_callTy call_int1 (by rfl) T.m_int (by decide +kernel) (pa_cons (pv 1) pa_nil))))
      (pss_cons (ps_set (i := 3) sc__law_bag.nd rfl (Or.inl rfl) (pe_callB (call_lenK (K := K) rfl) (by rfl) T.m_len PySem.boot_len (pa_cons (pv 2) pa_nil)))
      (pss_cons (ps_for PassesOwn.never rfl (pi_enumK (K := K) rfl (by rfl) T.m_enumerate (pa_cons (pe_slice (sl_listK (K := K) rfl) (pv 2) po_none (po_some pe_int)) pa_nil)) (pg_tupK (K := K) rfl rfl (pgs_cons (pg_name (i := 4) sc__law_bag.nd rfl (Or.inl rfl)) (pgs_cons (pg_name (i := 1) sc__law_bag.nd rfl (Or.inl rfl)) pgs_nil))) (pss_one (ps_set (i := 3) sc__law_bag.nd rfl (Or.inl rfl) (pe_op op_mod (pe_callTy call_int1 (by rfl) T.m_int (by decide +kernel) (pa_cons (pe_op op_add (pe_op op_add (pe_op op_mul (pv 3) pe_int) (pe_op op_mod (pe_callTy call_int1 (by rfl) T.m_int (by decide +kernel) (pa_cons (pe_callB call_abs (by rfl) T.m_abs (by decide +kernel) (pa_cons (pv 1) pa_nil)) pa_nil)) pe_int)) (pe_op op_mul_ib (pe_op op_add (pv 4) pe_int) (pe_cmpR op_lt (pv 1) pe_int (nomark _)))) pa_nil)) pe_int))))
      (pss_one (ps_ret (pe_lst (pa_cons (pv 2) (pa_cons pe_int (pa_cons pe_int (pa_cons pe_int (pa_cons (pv 3) pa_nil))))))))))), ?_⟩
    refine ⟨.ref a, rfl, a, rfl, ⟨_, hS⟩, fun n hn => ?_⟩
    refine lc_list (K := K) (a := a) (xs := ns.map V.int) (fun i H' => Same H H' ∧ H' n = some (.lst ((ns.take i).map V.int))) ⟨same_new hn, by rw [upd_same]; rfl⟩ (fun i H' _ h => h.1.seq hS) (fun i x H' hx h => ?_) (fun H' h => ?_)
    · rw [List.getElem?_map] at hx
      obtain ⟨z, hz, rfl⟩ := Option.map_eq_some_iff.mp hx
      refine ⟨rfl, ?_⟩
      refine ⟨_, rfl, ?_⟩
      refine Or.inl ⟨_, rfl, ?_⟩
      refine ⟨_, h.2, ?_, fun b o e => ?_, ?_⟩
      · rw [List.length_map, List.length_take]
        exact small1000 (by omega)
      · rw [upd_ne (ne_of_none e hn)]
        exact h.1 b o e
      · rw [upd_same, List.take_add_one, hz, List.map_append]
        rfl
    · have h2 : H' n = some (.lst (ns.map V.int)) := by
        have e := h.2
        rwa [List.length_map, List.take_length] at e
      refine ⟨_, rfl, n, _, rfl, .inl (SqL.of h2), ?_⟩
      refine ⟨_, rfl, 63, rfl, n, _, rfl, SqL.of h2, fun c hc => ?_⟩
      have hcut : cutV (ns.map V.int) none (some 63) = ns.map V.int := by
        unfold cutV
        rw [show HT.sIx (ns.map V.int).length 0 none = 0 from HT.sIx_none .., show HT.sIx (ns.map V.int).length (ns.map V.int).length (some 63) = min 63 (ns.map V.int).length from HT.sIx_nat _ _ 63, List.drop_zero, Nat.sub_zero]
        rw [List.length_map, Nat.min_eq_right hlen]
        exact List.take_of_length_le (by rw [List.length_map]; exact Nat.le_refl _)
      rw [hcut]
      have hn' : n ≠ c := ne_of_none h2 hc
      refine ⟨c, _, rfl, SqL.of upd_same, ?_⟩
      refine for_enum (a := c) (xs := ns.map V.int) (fun i σ H2 => (∃ y1 z y4, σ = [some (.ref a), y1, some (.ref n), some (.int z), y4]) ∧ Same H H2 ∧ H2 n = some (.lst (ns.map V.int)) ∧ H2 c = some (.lst (ns.map V.int))) ⟨⟨_, _, _, rfl⟩, fun b o e => ?_, ?_, ?_⟩ (fun i σ H2 _ p => SqL.of p.2.2.2) (fun i x T σ H2 hx hT p => ?_) (fun σ H2 p => ?_)
      · rw [upd_ne (fun z => ?_)]
        · exact h.1 b o e
        · subst z
          rw [h.1 b o e] at hc
          cases hc
      · rw [upd_ne hn']
        exact h2
      · exact upd_same
      · obtain ⟨⟨y1, z, y4, rfl⟩, hs, e2, e3⟩ := p
        rw [List.getElem?_map] at hx
        obtain ⟨v, hv, rfl⟩ := Option.map_eq_some_iff.mp hx
        refine ⟨T, _, rfl, SqT.of upd_same, rfl, _, _, rfl, _, _, rfl, rfl, ?_⟩
        walk_at "g"
        have nT : n ≠ T := ne_of_none e2 hT
        have cT : c ≠ T := ne_of_none e3 hT
        refine ⟨⟨_, _, _, rfl⟩, fun b o e => same_new hT b o (hs b o e), ?_, ?_⟩
        · rw [upd_ne nT]
          exact e2
        · rw [upd_ne cT]
          exact e3
      · obtain ⟨⟨y1, z, y4, rfl⟩, hs, e2, e3⟩ := p
        refine ⟨_, rfl, _, rfl, (by show 5 ≤ sizeLine; decide), fun b hb => ?_⟩
        refine q b _ (fun x o e => same_new hb x o (hs x o e)) (hs.free hb) ⟨rfl, n, ns, 0, 0, 0, z, upd_same, fun e => ?_, .inl ?_, by decide, by decide⟩
        · exact ne_of_none e2 hb e
        · rw [upd_ne (ne_of_none e2 hb)]
          exact e2
/-- a number is drawn -/
def sp_pick (K : PySem.W.Frag) : Sp := fun vs H Q _ => ∃ (b : Addr) (m : Int) (M : Ms), vs = [.ref b, .int m] ∧ Bag K M H b ∧ 0 < m ∧ m < 1073741824 ∧
  ∀ (w : Int) (H' : Hp), 0 ≤ w → w < m → At b H H' → Bag K M H' b → Q (.int w) H'
theorem At.bag {M : Ms} {H H' : Hp} {b n : Addr} {ns : List Int} {p r t s : Int} (w : M b) (hn : ¬ M n) (rd : Rd H n (.lst (ns.map V.int))) (h : At b H H') (e : H' b = some (.lst [.ref n, .int p, .int r, .int t, .int s])) (hp : 0 ≤ p) (hr : 0 ≤ r) : Bag K M H' b :=
  ⟨w, n, ns, p, r, t, s, e, hn, sx_rd h.sx (fun z => hn (by rw [show n = b from z]; exact w)) rd, hp, hr⟩
theorem At.trans {H H1 H2 : Hp} {b : Addr} (h : At b H H1) (h' : At b H1 H2) : At b H H2 := fun a n => (h' a n).trans (h a n)
theorem ok_pick (T : Txt K mg) : FnOk P w K mg base CX0 2 T.f__law_pick T.d__law_pick ["_law_bag_here", "_law_many"] (sp_pick K) := by
  have G__law_mixed := ok_mixed (P := P) (w := w) (base := base) T
  refine T.F__law_pick.ok sc__law_pick (fun vs H Q E h => ?_) (fun cdv A outer s H vs Q E hr h => ?_)
  · obtain ⟨_, _, _, rfl, _⟩ := h
    rfl
  · obtain ⟨b, m, M, rfl, ⟨wb, n, ns, p, r, t, sd, hb, hn, rd, hp, hr0⟩, hm, hm2, q⟩ := h
    refine ⟨_, (pss_cons (ps_set (i := 2) sc__law_pick.nd rfl (Or.inl rfl) (pe_ix (ix_listK (K := K) rfl) (pv 0) pe_int (fun _ _ => rfl)))
      (pss_cons (ps_asg (pe_op op_add (pv 2) pe_int) (pg_sub (pv 0) pe_int set_list))
      (pss_cons (ps_if (PW.pt (pw_and (pt_cmpR op_eq (pe_ix (ix_listK (K := K) rfl) (pv 0) pe_int (fun _ _ => rfl)) pe_int (nomark _)) (pw_and1 (pt_cmpR op_lt (pe_ix (ix_listK (K := K) rfl) (pv 0) pe_int (fun _ _ => rfl)) (pe_callB (call_lenK (K := K) rfl) (by rfl) T.m_len PySem.boot_len (pa_cons (pe_ix (ix_listK (K := K) rfl) (pv 0) pe_int (fun _ _ => rfl)) pa_nil)) (nomark _))))) (pss_cons (ps_set (i := 3) sc__law_pick.nd rfl (Or.inl rfl) (pe_ix (ix_listK (K := K) rfl) (pe_ix (ix_listK (K := K) rfl) (pv 0) pe_int (fun _ _ => rfl)) (pe_ix (ix_listK (K := K) rfl) (pv 0) pe_int (fun _ _ => rfl)) (fun _ _ => rfl)))
      (pss_cons (ps_asg (pe_op op_add (pe_ix (ix_listK (K := K) rfl) (pv 0) pe_int (fun _ _ => rfl)) pe_int) (pg_sub (pv 0) pe_int set_list))
      (pss_cons (ps_if (pt_cmpR op_lt (pe_callB call_abs (by rfl) T.m_abs (by decide +kernel) (pa_cons (pv 3) pa_nil)) (pe_op op_pow pe_int pe_int) (nomark _)) (pss_one (ps_ret (pe_op op_mod (pe_callTy call_int1 (by rfl) T.m_int (by decide +kernel) (pa_cons (pe_call G__law_mixed (hr.mono (by omega)) (by rfl) T.g__law_mixed T.F__law_mixed.kp T.b__law_mixed .nil pass0 (pa_cons (pe_op op_add_ib (pe_op op_mul pe_int (pe_callB call_abs (by rfl) T.m_abs (by decide +kernel) (pa_cons (pv 3) pa_nil))) (pe_cmpR op_lt (pv 3) pe_int (nomark _))) (pa_cons (pv 2) pa_nil))) pa_nil)) (pv 1)))) pss_nil)
      (pss_one (ps_asg (pe_callB call_abs (by rfl) T.m_abs (by decide +kernel) (pa_cons (pv 3) pa_nil)) (pg_sub (pv 0) pe_int set_list)))))) pss_nil)
      (pss_cons (ps_if (pt_cmpR op_eq (pe_ix (ix_listK (K := K) rfl) (pv 0) pe_int (fun _ _ => rfl)) pe_int (nomark _)) (pss_one (ps_ret (pe_op op_mod (pe_callTy call_int1 (by rfl) T.m_int (by decide +kernel) (pa_cons (pe_call G__law_mixed (hr.mono (by omega)) (by rfl) T.g__law_mixed T.F__law_mixed.kp T.b__law_mixed .nil pass0 (pa_cons (pe_ix (ix_listK (K := K) rfl) (pv 0) pe_int (fun _ _ => rfl)) (pa_cons (pv 2) pa_nil))) pa_nil)) (pv 1)))) pss_nil)
      (pss_cons (ps_set (i := 4) sc__law_pick.nd rfl (Or.inl rfl) (pe_op op_mod (pe_callTy call_int1 (by rfl) T.m_int (by decide +kernel) (pa_cons (pe_ix (ix_listK (K := K) rfl) (pv 0) pe_int (fun _ _ => rfl)) pa_nil)) (pv 1)))
      (pss_cons (ps_asg (pe_op op_fdiv (pe_ix (ix_listK (K := K) rfl) (pv 0) pe_int (fun _ _ => rfl)) (pv 1)) (pg_sub (pv 0) pe_int set_list))
      (pss_one (ps_ret (pv 4))))))))), ?_⟩
    -- turn
    walk_at "g"
    walk_at "set"
    generalize e1 : upd H b _ = H1
    have a1 : At b H H1 := by rw [← e1]; exact At.upd
    have b1 : H1 b = some (.lst [.ref n, .int p, .int r, .int (t + 1), .int sd]) := by rw [← e1, upd_same]; rfl
    have rd1 : Rd H1 n (.lst (ns.map V.int)) := sx_rd a1.sx (fun z => hn (by rw [show n = b from z]; exact wb)) rd
    clear e1
    have fin : ∀ (w : Int) (H' : Hp) (p' r' t' : Int), At b H H' → H' b = some (.lst [.ref n, .int p', .int r', .int t', .int sd]) → 0 ≤ p' → 0 ≤ r' → Q (.int (w % m)) H' := fun w H' p' r' t' ha e h1 h2 =>
      q _ _ (Int.emod_nonneg _ (by omega)) (Int.emod_lt_of_pos _ hm) ha (ha.bag wb hn rd e h1 h2)
    with_reducible refine seq_join (fun σ H' => ∃ y3 p' r', σ = [some (.ref b), some (.int m), some (.int t), y3, none] ∧ At b H H' ∧ H' b = some (.lst [.ref n, .int p', .int r', .int (t + 1), .int sd]) ∧ 0 ≤ p' ∧ 0 ≤ r') (fun hN => ?_) (fun σ H' c => ?_)
    · have hN0 := hN _ _ ⟨none, p, r, rfl, a1, b1, hp, hr0⟩
      walk_at "g"
      walk_at "if"
      · walk_at "g"
        walk_at "if"
        · rename_i ep
          have ep' : p < ((ns.map V.int).length : Int) := of_decide_eq_true ep
          obtain ⟨j, rfl⟩ : ∃ j : Nat, p = (j : Int) := ⟨p.toNat, by omega⟩
          have hj : j < ns.length := by
            rw [List.length_map] at ep'
            omega
          have hcell : (ns.map V.int)[j]? = some (.int ns[j]) := by
            rw [List.getElem?_map, List.getElem?_eq_getElem hj]
            rfl
          walk_at "g"
          refine ⟨n, _, _, _, rfl, rfl, Or.inl rd1, atI_nat hcell, ?_⟩
          walk_at "g"
          walk_at "set"
          generalize e2 : upd H1 b _ = H2
          have a2 : At b H H2 := by rw [← e2]; exact a1.trans At.upd
          have b2 : H2 b = some (.lst [.ref n, .int ((j : Int) + 1), .int r, .int (t + 1), .int sd]) := by rw [← e2, upd_same]; rfl
          clear e2
          generalize ns[j] = c
          walk_at "g"
          walk_at "if"
          · walk_at "g"
            refine ⟨_, _, rfl, fun z hz => ?_⟩
            walk_at "g"
            refine ⟨hm, ?_⟩
            exact fin _ _ _ _ _ a2 b2 (by omega) hr0
          · walk_at "g"
            walk_at "set"
            exact hN _ _ ⟨_, _, _, rfl, a2.trans At.upd, upd_same, by omega, by split <;> omega⟩
        · exact hN0
      · exact hN0
    · obtain ⟨y3, p', r', rfl, a2, b2, hp2, hr2⟩ := c
      walk_at "g"
      walk_at "if"
      · walk_at "g"
        refine ⟨_, _, rfl, fun z hz => ?_⟩
        walk_at "g"
        refine ⟨hm, ?_⟩
        exact fin _ _ _ _ _ a2 b2 hp2 hr2
      · walk_at "g"
        refine ⟨hm, ?_⟩
        walk_at "g"
        refine ⟨⟨hm, hm2⟩, ?_⟩
        walk_at "g"
        walk_at "set"
        walk_at "g"
        exact fin _ _ _ _ _ (a2.trans At.upd) upd_same hp2 (Int.ediv_nonneg hr2 (by omega))
/-- one thing of a list is chosen -/
def sp_choice (K : PySem.W.Frag) : Sp := fun vs H Q _ => ∃ (b a : Addr) (xs : List V) (M : Ms), vs = [.ref b, .ref a] ∧ Bag K M H b ∧ SqL K H a xs ∧ a ≠ b ∧ 0 < xs.length ∧ xs.length < 1000000 ∧
  ∀ (v : V) (H' : Hp), v ∈ xs → At b H H' → Bag K M H' b → Q v H'
theorem at_pos {α : Type} {xs : List α} {w : Int} (h0 : 0 ≤ w) (h1 : w < (xs.length : Int)) : ∃ v, atI xs w = some v ∧ v ∈ xs ∧ xs[w.toNat]? = some v := by
  obtain ⟨j, rfl⟩ : ∃ j : Nat, w = (j : Int) := ⟨w.toNat, by omega⟩
  have hj : j < xs.length := by omega
  exact ⟨xs[j], atI_nat (List.getElem?_eq_getElem hj), List.getElem_mem hj, List.getElem?_eq_getElem hj⟩
theorem ok_choice (T : Txt K mg) : FnOk P w K mg base CX0 3 T.f__law_choice T.d__law_choice ["_law_bag_here", "_law_things"] (sp_choice K) := by
  have G__law_pick := ok_pick (P := P) (w := w) (base := base) T
  refine T.F__law_choice.ok sc__law_choice (fun vs H Q E h => ?_) (fun cdv A outer s H vs Q E hr h => ?_)
  · obtain ⟨_, _, _, _, rfl, _⟩ := h
    rfl
  · obtain ⟨b, a, xs, M, rfl, hB, hS, hab, hl, hl2, q⟩ := h
    refine ⟨_, (pss_one (ps_ret (pe_ix (ix_listK (K := K) rfl) (pv 1) (pe_call G__law_pick (hr.mono (by omega)) (by rfl) T.g__law_pick T.F__law_pick.kp T.b__law_pick .nil pass0 (pa_cons (pv 0) (pa_cons (pe_callB (call_lenK (K := K) rfl) (by rfl) T.m_len PySem.boot_len (pa_cons (pv 1) pa_nil)) pa_nil))) (fun _ _ => rfl)))), ?_⟩
    walk_at "g"
    refine ⟨b, _, M, rfl, hB, by omega, by omega, fun w H' h0 h1 hA hB' => ?_⟩
    have hS' := sx_l hA.sx (fun z : a = b => hab z) hS
    obtain ⟨v, hv, hm, _⟩ := at_pos h0 h1
    exact ⟨_, _, _, _, rfl, rfl, hS', hv, q v H' hm hA hB'⟩
def sp_number : Sp := fun vs H Q _ => ∃ i : Int, vs = [.int i] ∧ Q (.bl true) H
theorem ok_number (T : Txt K mg) : FnOk P w K mg base CX0 1 T.f__law_number T.d__law_number ["_law_thing"] sp_number := by
  refine T.F__law_number.ok sc__law_number (fun vs H Q E h => ?_) (fun cdv A outer s H vs Q E hr h => ?_)
  · obtain ⟨_, rfl, _⟩ := h
    rfl
  · obtain ⟨i, rfl, q⟩ := h
    refine ⟨_, (pss_one (ps_ret (pe_and (pe_callB (call_isi1K (K := K) rfl) (by rfl) T.m_isinstance (by decide +kernel) (pa_cons (pv 0) (pa_cons (pe_bltn (v := .ty "int") (u := .type "int") (by rfl) T.m_int (by decide +kernel) rfl) pa_nil))) (pe_one (pe_not (pe_callB (call_isi1K (K := K) rfl) (by rfl) T.m_isinstance (by decide +kernel) (pa_cons (pv 0) (pa_cons (pe_bltn (v := .ty "bool") (u := .type "bool") (by rfl) T.m_bool (by decide +kernel) rfl) pa_nil)))))))), ?_⟩
    walk_at "g"
    refine ⟨_, _, _, _, true, rfl, .ty _, .base (.int _), kit_ty (by decide +kernel), ?_⟩
    walk_at "g"
    walk_at "g"
    refine ⟨_, _, _, _, false, rfl, .ty _, .base (.int _), kit_ty (by decide +kernel), ?_⟩
    walk_at "g"
    exact q
end
end D


namespace D
open PySem PySem.Spec PyProof.Rows L2
local macro_rules | `(tactic| walk_at "st") => `(tactic| first | exact SqT.of (by assumption) | exact Or.inl (by assumption) | exact SqT.of upd_same | fail "st")
local macro_rules | `(tactic| walk_at "ixt") => `(tactic| refine ⟨_, _, _, _, rfl, rfl, (by walk_at "st" : SqT _ _ _ _), by rfl, ?_⟩)
local macro_rules | `(tactic| walk_at "sq") => `(tactic| first | exact SqL.of (by assumption) | assumption | exact Or.inl (by assumption) | exact SqL.of upd_same | fail "sq")
local macro_rules | `(tactic| walk_at "ix") => `(tactic| refine ⟨_, _, _, _, rfl, rfl, (by walk_at "sq" : SqL _ _ _ _), by rfl, ?_⟩)
local macro_rules | `(tactic| walk_at "set") => `(tactic| refine ⟨_, _, _, _, rfl, rfl, by first | assumption | exact upd_same, by rfl, ?_⟩)
local macro_rules | `(tactic| walk_at "len") => `(tactic| refine ⟨_, _, rfl, Or.inl (by walk_at "sq" : SqL _ _ _ _), ?_⟩)
local macro_rules | `(tactic| walk_at "g") => `(tactic| repeat (first | refine ⟨_, rfl, ?_⟩ | refine ⟨_, _, rfl, rfl, ?_⟩ | refine ⟨Or.inr (by decide), ?_⟩ | refine ⟨Or.inl (by decide), ?_⟩ | refine ⟨(by decide : (0 : Int) < _), ?_⟩ | refine ⟨(⟨by decide, by decide⟩ : CDiv _ _), ?_⟩ | refine ⟨(⟨by decide, by decide, by decide⟩ : CPow _ _), ?_⟩ | refine Or.inl ⟨_, rfl, ?_⟩ | refine ⟨rfl, ?_⟩ | walk_at "ix" | walk_at "ixt" | walk_at "len" | fail "g"))
local macro_rules | `(tactic| walk_at "if") => `(tactic| refine ite2 (fun e => ?_) (fun e => ?_))
section
variable {P : Program} {w : World} {K : PySem.W.Frag} {mg : Str → Option Value} {base : Heap}
def sp_value (d : Nat) : Sp := fun vs H Q _ => ∃ (v : V) (dd : Addr) (f : Fm) (M : Ms) (kvs : List (Key × V)) (ρ : Str → Int) (nm : Str → Prop), vs = [v, .ref dd] ∧ Rp M H v f.enc ∧ f.dep ≤ d ∧ f.ok nm ∧ H dd = some (.dK kvs) ∧
  (∀ x, nm x → valV kvs (.inr x) = some (.int (ρ x))) ∧ Q (.int (f.val ρ)) H
theorem ok_value_of (T : Txt K mg) : ∀ d, FnOk P w K mg base CX0 (d + 1) T.f_value_of T.d_value_of ["form", "values"] (sp_value d) := by
  intro d
  induction d with
  | zero =>
    refine T.F_value_of.ok sc_value_of (fun vs H Q E h => ?_) (fun cdv A outer s H vs Q E hr h => ?_)
    · obtain ⟨_, _, _, _, _, _, _, rfl, _⟩ := h
      rfl
    · obtain ⟨v, dd, f, M, kvs, ρ, nm, rfl, _, hd, _⟩ := h
      exact absurd f.dep_pos (by omega)
  | succ d ih =>
    have G_value_of := ih
    refine T.F_value_of.ok sc_value_of (fun vs H Q E h => ?_) (fun cdv A outer s H vs Q E hr h => ?_)
    · obtain ⟨_, _, _, _, _, _, _, rfl, _⟩ := h
      rfl
    · obtain ⟨v, dd, f, M, kvs, ρ, nm, rfl, hR, hd, ho, hdd, hρ, q⟩ := h
      obtain ⟨a, xs, rfl, na, ha, hx⟩ := hR.form
      refine ⟨_, (pss_cons (ps_set (i := 2) sc_value_of.nd rfl (Or.inl rfl) (pe_ix (ix_tupK (K := K) rfl) (pv 0) pe_int (fun _ _ => rfl)))
      (pss_cons (ps_if (pt_cmpR op_eq (pv 2) pe_str (nomark _)) (pss_one (ps_ret (pe_ix (ix_tupK (K := K) rfl) (pv 0) pe_int (fun _ _ => rfl)))) pss_nil)
      (pss_cons (ps_if (pt_cmpR op_eq (pv 2) pe_str (nomark _)) (pss_cons (ps_if (pt_cmp (pc_dnotin (hu_of hr) (pe_ix (ix_tupK (K := K) rfl) (pv 0) pe_int (fun _ _ => rfl)) (pv 1))) (pss_one ps_never) pss_nil)
      (pss_one (ps_ret (pe_dget (hu_of hr) (pv 1) (pe_ix (ix_tupK (K := K) rfl) (pv 0) pe_int (fun _ _ => rfl)) (fun _ _ => rfl))))) pss_nil)
      (pss_cons (ps_set (i := 3) sc_value_of.nd rfl (Or.inl rfl) (pe_call G_value_of (hr.mono (by omega)) (by rfl) T.g_value_of T.F_value_of.kp T.b_value_of .nil pass0 (pa_cons (pe_ix (ix_tupK (K := K) rfl) (pv 0) pe_int (fun _ _ => rfl)) (pa_cons (pv 1) pa_nil))))
      (pss_cons (ps_if (pt_cmpR op_eq (pv 2) pe_str (nomark _)) (pss_one (ps_ret (pe_call G_value_of (hr.mono (by omega)) (by rfl) T.g_value_of T.F_value_of.kp T.b_value_of .nil pass0 (pa_cons (pe_ifExp (pt_cmpR op_eq (pv 3) pe_int (nomark _)) (pe_ix (ix_tupK (K := K) rfl) (pv 0) pe_int (fun _ _ => rfl)) (pe_ix (ix_tupK (K := K) rfl) (pv 0) pe_int (fun _ _ => rfl))) (pa_cons (pv 1) pa_nil))))) pss_nil)
      (pss_cons (ps_set (i := 4) sc_value_of.nd rfl (Or.inl rfl) (pe_call G_value_of (hr.mono (by omega)) (by rfl) T.g_value_of T.F_value_of.kp T.b_value_of .nil pass0 (pa_cons (pe_ix (ix_tupK (K := K) rfl) (pv 0) pe_int (fun _ _ => rfl)) (pa_cons (pv 1) pa_nil))))
      (pss_cons (ps_if (pt_cmpR op_eq (pv 2) pe_str (nomark _)) (pss_one (ps_ret (pe_op op_mod (pe_op op_add (pv 3) (pv 4)) pe_int))) pss_nil)
      (pss_one (ps_ret (pe_ifExp (pt_cmpR op_eq (pv 3) (pv 4) (nomark _)) pe_int pe_int)))))))))), ?_⟩
      cases hx with
      | is n =>
        walk_at "g"
        exact q
      | get x =>
        have hx := hρ x ho
        walk_at "g"
        refine ⟨dd, _, rfl, DGet.k (k := Sum.inr x) hdd, ?_⟩
        rw [hx]
        walk_at "g"
        refine ⟨dd, _, rfl, DGet.k (k := Sum.inr x) hdd |> fun z => by rw [hx] at z; exact z, ?_⟩
        exact q
      | @sum f g u w r1 r2 =>
        have hd' : f.dep ≤ d ∧ g.dep ≤ d := by
          have : max f.dep g.dep + 1 ≤ d + 1 := hd
          omega
        walk_at "g"
        refine ⟨u, dd, f, M, kvs, ρ, nm, rfl, r1, hd'.1, ho.1, hdd, hρ, ?_⟩
        walk_at "g"
        refine ⟨w, dd, g, M, kvs, ρ, nm, rfl, r2, hd'.2, ho.2, hdd, hρ, ?_⟩
        walk_at "g"
        exact q
      | @same f g u w r1 r2 =>
        have hd' : f.dep ≤ d ∧ g.dep ≤ d := by
          have : max f.dep g.dep + 1 ≤ d + 1 := hd
          omega
        walk_at "g"
        refine ⟨u, dd, f, M, kvs, ρ, nm, rfl, r1, hd'.1, ho.1, hdd, hρ, ?_⟩
        walk_at "g"
        refine ⟨w, dd, g, M, kvs, ρ, nm, rfl, r2, hd'.2, ho.2, hdd, hρ, ?_⟩
        walk_at "g"
        walk_at "if"
        · rename_i e
          have e' : f.val ρ = g.val ρ := V.int.inj (of_decide_eq_true e)
          have ev : (Fm.same f g).val ρ = 1 := if_pos e'
          rw [ev] at q
          exact q
        · rename_i e
          have e' : ¬ f.val ρ = g.val ρ := fun z => e (decide_eq_true (by rw [z]))
          have ev : (Fm.same f g).val ρ = 0 := if_neg e'
          rw [ev] at q
          exact q
      | @pick f g k u w z r1 r2 r3 =>
        have hd' : f.dep ≤ d ∧ g.dep ≤ d ∧ k.dep ≤ d := by
          have : max f.dep (max g.dep k.dep) + 1 ≤ d + 1 := hd
          omega
        walk_at "g"
        refine ⟨u, dd, f, M, kvs, ρ, nm, rfl, r1, hd'.1, ho.1, hdd, hρ, ?_⟩
        walk_at "g"
        walk_at "if"
        · rename_i e
          have e' : f.val ρ = 0 := V.int.inj (of_decide_eq_true e)
          have ev : (Fm.pick f g k).val ρ = k.val ρ := if_pos e'
          rw [ev] at q
          walk_at "g"
          exact ⟨z, dd, k, M, kvs, ρ, nm, rfl, r3, hd'.2.2, ho.2.2, hdd, hρ, q⟩
        · rename_i e
          have e' : ¬ f.val ρ = 0 := fun z => e (decide_eq_true (by rw [z]))
          have ev : (Fm.pick f g k).val ρ = g.val ρ := if_neg e'
          rw [ev] at q
          walk_at "g"
          exact ⟨w, dd, g, M, kvs, ρ, nm, rfl, r2, hd'.2.1, ho.2.1, hdd, hρ, q⟩
/-- the law's own walk -/
theorem ok_law_value (T : Txt K mg) : ∀ d, FnOk P w K mg base CX0 (d + 1) T.f__law_value T.d__law_value ["_law_form_here", "_law_worths"] (sp_value d) := by
  intro d
  induction d with
  | zero =>
    refine T.F__law_value.ok sc__law_value (fun vs H Q E h => ?_) (fun cdv A outer s H vs Q E hr h => ?_)
    · obtain ⟨_, _, _, _, _, _, _, rfl, _⟩ := h
      rfl
    · obtain ⟨v, dd, f, M, kvs, ρ, nm, rfl, _, hd, _⟩ := h
      exact absurd f.dep_pos (by omega)
  | succ d ih =>
    have G__law_value := ih
    refine T.F__law_value.ok sc__law_value (fun vs H Q E h => ?_) (fun cdv A outer s H vs Q E hr h => ?_)
    · obtain ⟨_, _, _, _, _, _, _, rfl, _⟩ := h
      rfl
    · obtain ⟨v, dd, f, M, kvs, ρ, nm, rfl, hR, hd, ho, hdd, hρ, q⟩ := h
      obtain ⟨a, xs, rfl, na, ha, hx⟩ := hR.form
      refine ⟨_, (pss_cons (ps_set (i := 2) sc__law_value.nd rfl (Or.inl rfl) (pe_ix (ix_tupK (K := K) rfl) (pv 0) pe_int (fun _ _ => rfl)))
      (pss_cons (ps_if (PW.pt (pw_or (pt_cmpR op_eq (pv 2) pe_str (nomark _)) (pw_or1 (pt_cmpR op_eq (pv 2) pe_str (nomark _))))) (pss_one (ps_ret (pe_ifExp (pt_cmpR op_eq (pv 2) pe_str (nomark _)) (pe_ix (ix_tupK (K := K) rfl) (pv 0) pe_int (fun _ _ => rfl)) (pe_dget (hu_of hr) (pv 1) (pe_ix (ix_tupK (K := K) rfl) (pv 0) pe_int (fun _ _ => rfl)) (fun _ _ => rfl))))) pss_nil)
      (pss_cons (ps_set (i := 3) sc__law_value.nd rfl (Or.inl rfl) (pe_call G__law_value (hr.mono (by omega)) (by rfl) T.g__law_value T.F__law_value.kp T.b__law_value .nil pass0 (pa_cons (pe_ix (ix_tupK (K := K) rfl) (pv 0) pe_int (fun _ _ => rfl)) (pa_cons (pv 1) pa_nil))))
      (pss_cons (ps_if (pt_cmpR op_eq (pv 2) pe_str (nomark _)) (pss_one (ps_ret (pe_call G__law_value (hr.mono (by omega)) (by rfl) T.g__law_value T.F__law_value.kp T.b__law_value .nil pass0 (pa_cons (pe_ifExp (pt_cmpR op_ne (pv 3) pe_int (nomark _)) (pe_ix (ix_tupK (K := K) rfl) (pv 0) pe_int (fun _ _ => rfl)) (pe_ix (ix_tupK (K := K) rfl) (pv 0) pe_int (fun _ _ => rfl))) (pa_cons (pv 1) pa_nil))))) pss_nil)
      (pss_cons (ps_set (i := 4) sc__law_value.nd rfl (Or.inl rfl) (pe_call G__law_value (hr.mono (by omega)) (by rfl) T.g__law_value T.F__law_value.kp T.b__law_value .nil pass0 (pa_cons (pe_ix (ix_tupK (K := K) rfl) (pv 0) pe_int (fun _ _ => rfl)) (pa_cons (pv 1) pa_nil))))
      (pss_one (ps_ret (pe_ifExp (pt_cmpR op_eq (pv 2) pe_str (nomark _)) (pe_op op_mod (pe_callTy call_int1 (by rfl) T.m_int (by decide +kernel) (pa_cons (pe_op op_add (pv 3) (pv 4)) pa_nil)) pe_int) (pe_callTy call_int1 (by rfl) T.m_int (by decide +kernel) (pa_cons (pe_cmpR op_eq (pv 3) (pv 4) (nomark _)) pa_nil)))))))))), ?_⟩
      cases hx with
      | is n =>
        walk_at "g"
        exact q
      | get x =>
        have hx := hρ x ho
        walk_at "g"
        exact ⟨dd, _, rfl, DGet.k (k := Sum.inr x) hdd |> fun z => by rw [hx] at z; exact z, q⟩
      | @sum f g u w r1 r2 =>
        have hd' : f.dep ≤ d ∧ g.dep ≤ d := by
          have : max f.dep g.dep + 1 ≤ d + 1 := hd
          omega
        walk_at "g"
        refine ⟨u, dd, f, M, kvs, ρ, nm, rfl, r1, hd'.1, ho.1, hdd, hρ, ?_⟩
        walk_at "g"
        refine ⟨w, dd, g, M, kvs, ρ, nm, rfl, r2, hd'.2, ho.2, hdd, hρ, ?_⟩
        walk_at "g"
        exact q
      | @same f g u w r1 r2 =>
        have hd' : f.dep ≤ d ∧ g.dep ≤ d := by
          have : max f.dep g.dep + 1 ≤ d + 1 := hd
          omega
        walk_at "g"
        refine ⟨u, dd, f, M, kvs, ρ, nm, rfl, r1, hd'.1, ho.1, hdd, hρ, ?_⟩
        walk_at "g"
        refine ⟨w, dd, g, M, kvs, ρ, nm, rfl, r2, hd'.2, ho.2, hdd, hρ, ?_⟩
        walk_at "g"
        refine .inr ⟨_, rfl, ?_⟩
        have ev : (Fm.same f g).val ρ = if decide (V.int (f.val ρ) = V.int (g.val ρ)) = true then 1 else 0 := by
          by_cases c : f.val ρ = g.val ρ
          · rw [if_pos (decide_eq_true (by rw [c]))]
            exact if_pos c
          · rw [if_neg (fun z => c (V.int.inj (of_decide_eq_true z)))]
            exact if_neg c
        rw [ev] at q
        exact q
      | @pick f g k u w z r1 r2 r3 =>
        have hd' : f.dep ≤ d ∧ g.dep ≤ d ∧ k.dep ≤ d := by
          have : max f.dep (max g.dep k.dep) + 1 ≤ d + 1 := hd
          omega
        walk_at "g"
        refine ⟨u, dd, f, M, kvs, ρ, nm, rfl, r1, hd'.1, ho.1, hdd, hρ, ?_⟩
        walk_at "g"
        by_cases e' : f.val ρ = 0
        · have ev : (Fm.pick f g k).val ρ = k.val ρ := if_pos e'
          rw [ev] at q
          rw [decide_eq_true (show V.int (f.val ρ) = V.int 0 by rw [e'])]
          walk_at "g"
          exact ⟨z, dd, k, M, kvs, ρ, nm, rfl, r3, hd'.2.2, ho.2.2, hdd, hρ, q⟩
        · have ev : (Fm.pick f g k).val ρ = g.val ρ := if_neg e'
          rw [ev] at q
          rw [decide_eq_false (show ¬ V.int (f.val ρ) = V.int 0 from fun z => e' (V.int.inj z))]
          walk_at "g"
          exact ⟨w, dd, g, M, kvs, ρ, nm, rfl, r2, hd'.2.1, ho.2.1, hdd, hρ, q⟩
end
end D

namespace D
open PySem PySem.Spec PyProof.Rows L2
local macro_rules | `(tactic| walk_at "st") => `(tactic| first | exact SqT.of (by assumption) | exact Or.inl (by assumption) | exact SqT.of upd_same | fail "st")
local macro_rules | `(tactic| walk_at "ixt") => `(tactic| refine ⟨_, _, _, _, rfl, rfl, (by walk_at "st" : SqT _ _ _ _), by rfl, ?_⟩)
local macro_rules | `(tactic| walk_at "sq") => `(tactic| first | exact SqL.of (by assumption) | assumption | exact Or.inl (by assumption) | exact SqL.of upd_same | fail "sq")
local macro_rules | `(tactic| walk_at "ix") => `(tactic| refine ⟨_, _, _, _, rfl, rfl, (by walk_at "sq" : SqL _ _ _ _), by rfl, ?_⟩)
local macro_rules | `(tactic| walk_at "set") => `(tactic| refine ⟨_, _, _, _, rfl, rfl, by first | assumption | exact upd_same, by rfl, ?_⟩)
local macro_rules | `(tactic| walk_at "len") => `(tactic| refine ⟨_, _, rfl, Or.inl (by walk_at "sq" : SqL _ _ _ _), ?_⟩)
local macro_rules | `(tactic| walk_at "g") => `(tactic| repeat (first | refine ⟨_, rfl, ?_⟩ | refine ⟨_, _, rfl, rfl, ?_⟩ | refine ⟨Or.inr (by decide), ?_⟩ | refine ⟨Or.inl (by decide), ?_⟩ | refine ⟨(by decide : (0 : Int) < _), ?_⟩ | refine ⟨(⟨by decide, by decide⟩ : CDiv _ _), ?_⟩ | refine ⟨(⟨by decide, by decide, by decide⟩ : CPow _ _), ?_⟩ | refine Or.inl ⟨_, rfl, ?_⟩ | refine ⟨rfl, ?_⟩ | walk_at "ix" | walk_at "ixt" | walk_at "len" | fail "g"))
local macro_rules | `(tactic| walk_at "if") => `(tactic| refine ite2 (fun e => ?_) (fun e => ?_))
section
variable {P : Program} {w : World} {K : PySem.W.Frag} {mg : Str → Option Value} {base : Heap}
/-- the table of the words with parts -/
structure TMany (K : PySem.W.Frag) (mg : Str → Option Value) (w : World) where
  p : Addr
  es : Array DictEntry
  n : Nat
  kd : KDict K w p es n
  g : mg "MANY_PARTS" = some (.ref p)
  is : PySem.W.nsIn K p sIs = some none
  get : PySem.W.nsIn K p sGet = some none
  sum : ∃ t, PySem.W.nsIn K p sSum = some (some (.int 2 t))
  same : ∃ t, PySem.W.nsIn K p sSame = some (some (.int 2 t))
  pick : ∃ t, PySem.W.nsIn K p sPick = some (some (.int 3 t))
def sp_whole : Sp := fun vs H Q _ => ∃ i : Int, vs = [.int i] ∧ Q (.bl true) H
theorem ok_is_whole (T : Txt K mg) : FnOk P w K mg base CX0 1 T.f_is_whole T.d_is_whole ["thing"] sp_whole := by
  refine T.F_is_whole.ok sc_is_whole (fun vs H Q E h => ?_) (fun cdv A outer s H vs Q E hr h => ?_)
  · obtain ⟨_, rfl, _⟩ := h
    rfl
  · obtain ⟨i, rfl, q⟩ := h
    refine ⟨_, (pss_one (ps_ret (pe_and (pe_callB (call_isi1K (K := K) rfl) (by rfl) T.m_isinstance (by decide +kernel) (pa_cons (pv 0) (pa_cons (pe_bltn (v := .ty "int") (u := .type "int") (by rfl) T.m_int (by decide +kernel) rfl) pa_nil))) (pe_one (pe_not (pe_callB (call_isi1K (K := K) rfl) (by rfl) T.m_isinstance (by decide +kernel) (pa_cons (pv 0) (pa_cons (pe_bltn (v := .ty "bool") (u := .type "bool") (by rfl) T.m_bool (by decide +kernel) rfl) pa_nil)))))))), ?_⟩
    walk_at "g"
    refine ⟨_, _, _, _, true, rfl, .ty _, .base (.int _), kit_ty (by decide +kernel), ?_⟩
    walk_at "g"
    refine ⟨_, _, _, _, false, rfl, .ty _, .base (.int _), kit_ty (by decide +kernel), ?_⟩
    walk_at "g"
    exact q
def sp_is_value : Sp := fun vs H Q _ => ∃ i : Int, vs = [.int i] ∧ 0 ≤ i ∧ i ≤ 9 ∧ Q (.bl true) H
theorem ok_is_value (T : Txt K mg) : FnOk P w K mg base CX0 2 T.f_is_value T.d_is_value ["thing"] sp_is_value := by
  have G_is_whole := ok_is_whole (P := P) (w := w) (base := base) T
  refine T.F_is_value.ok sc_is_value (fun vs H Q E h => ?_) (fun cdv A outer s H vs Q E hr h => ?_)
  · obtain ⟨_, rfl, _⟩ := h
    rfl
  · obtain ⟨i, rfl, h0, h9, q⟩ := h
    refine ⟨_, (pss_one (ps_ret (pe_and (pe_call G_is_whole (hr.mono (by omega)) (by rfl) T.g_is_whole T.F_is_whole.kp T.b_is_whole .nil pass0 (pa_cons (pv 0) pa_nil)) (pe_one (pe_chain op_le op_le pe_int (pv 0) pe_int))))), ?_⟩
    walk_at "g"
    rw [decide_eq_true h0]
    walk_at "g"
    show Q (V.bl (decide (i ≤ 9))) H
    rw [decide_eq_true h9]
    exact q
def sp_is_name : Sp := fun vs H Q _ => ∃ x : Str, vs = [.str x] ∧ isNm x ∧ ∀ H', Same H H' → Q (.bl true) H'
theorem ok_is_name (T : Txt K mg) : FnOk P w K mg base CX0 1 T.f_is_name T.d_is_name ["thing"] sp_is_name := by
  refine T.F_is_name.ok sc_is_name (fun vs H Q E h => ?_) (fun cdv A outer s H vs Q E hr h => ?_)
  · obtain ⟨_, rfl, _⟩ := h
    rfl
  · obtain ⟨x, rfl, hx, q⟩ := h
    refine ⟨_, (pss_cons (ps_if (PW.pt (pw_or (pt_not (pt_val (pe_callB (call_isi1K (K := K) rfl) (by rfl) T.m_isinstance (by decide +kernel) (pa_cons (pv 0) (pa_cons (pe_bltn (v := .ty "str") (u := .type "str") (by rfl) T.m_str (by decide +kernel) rfl) pa_nil))))) (pw_or1 (pt_not (pt_chain op_le op_le pe_int (pe_callB call_len_str (by rfl) T.m_len PySem.boot_len (pa_cons (pv 0) pa_nil)) (pe_glob (v := .int 8) rfl T.c_MOST_LETTERS ⟨_, rfl⟩)))))) (pss_one (ps_ret pe_bl)) pss_nil)
      (pss_one (ps_ret (pe_callB (cr_allK (K := K) rfl rfl) (by rfl) T.m_all (by decide +kernel) (pa_cons (pe_lc (own := [("sign", 1)]) (g := gName 1) (tt := tYes) (by rfl) sc_is_name.nd (pi_str (pv 0)) (blkOk_by (own := [("sign", 1)]) (N := ["thing", "sign"]) (sc := defScope s_is_name) (by decide +kernel)) (fun _ _ _ _ _ => (pg_name (i := 1) sc_is_name.nd rfl (Or.inl rfl))) (fun _ _ _ _ _ => pts_nil) (fun _ _ _ _ _ => (pe_chain op_le_str op_le_str pe_str (pv 1) pe_str))) pa_nil))))), ?_⟩
    walk_at "g"
    refine ⟨_, _, _, _, true, rfl, .ty _, .base (.str _), kit_ty (by decide +kernel), ?_⟩
    walk_at "g"
    have h8 := hx.2.1
    refine ⟨Nat.le_of_lt (small1000 (by omega)), ?_⟩
    walk_at "g"
    rw [decide_eq_true (show (1 : Int) ≤ (x.length : Int) by have := hx.1; omega)]
    walk_at "g"
    rw [decide_eq_true (show (x.length : Int) ≤ 8 by omega)]
    walk_at "g"
    intro D hD
    have hsz : x.cps.size = x.length := rfl
    refine lc_valsS (z := x) (ys := List.replicate x.length (V.bl true)) hD (by rw [List.length_replicate, hsz]) (by omega) (fun i c y H' C N hc hy hs hC => ?_) (fun H' hs hD' => ?_)
    · have ey : y = V.bl true := (List.mem_replicate.mp (List.mem_of_getElem? hy)).2
      subst ey
      have hm : c ∈ x.cps.toList := by
        rw [← Array.getElem?_toList] at hc
        exact List.mem_of_getElem? hc
      have hr := hx.2.2 c hm
      walk_at "g"
      rw [sign_lo hr.1]
      refine ⟨_, _, rfl, rfl, ?_⟩
      rw [sign_hi hr.2]
      exact hC
    · refine ⟨D, List.replicate x.length true, rfl, ?_, ?_⟩
      · rw [List.map_replicate]
        exact SqL.of hD'
      · rw [show (List.replicate x.length true).all id = true by rw [List.all_replicate]; simp]
        exact q _ hs
def sp_inner (U : TMany K mg w) : Sp := fun vs H Q _ => ∃ (v : V) (f : Fm) (M : Ms), vs = [v] ∧ Rp M H v f.enc ∧ Mk M H ∧ Pu M H (fun d => d = .tuple (f.subs.map Fm.enc)) Q
theorem ok_inner_forms (T : Txt K mg) (U : TMany K mg w) : FnOk P w K mg base CX0 1 T.f_inner_forms T.d_inner_forms ["form"] (sp_inner U) := by
  refine T.F_inner_forms.ok sc_inner_forms (fun vs H Q E h => ?_) (fun cdv A outer s H vs Q E hr h => ?_)
  · obtain ⟨_, _, _, rfl, _⟩ := h
    rfl
  · obtain ⟨v, f, M, rfl, hR, hM, q⟩ := h
    obtain ⟨a, xs, rfl, na, ha, hx⟩ := hR.form
    refine ⟨_, (pss_cons (ps_if (pt_cmpR (op_in_kd U.kd) (pe_ix (ix_tupK (K := K) rfl) (pv 0) pe_int (fun _ _ => rfl)) (pe_glob (v := .ref U.p) rfl U.g rfl) (by rfl)) (pss_one (ps_ret (pe_slice (sl_tupK (K := K) rfl) (pv 0) (po_some pe_int) po_none))) pss_nil)
      (pss_one (ps_ret (pe_tup pa_nil)))), ?_⟩
    have cut : ∀ (y : V) (r : List V) (es : List PyData), xs = y :: r → r ≠ [] → RpAll M H r es → es = f.subs.map Fm.enc → rSlA K (V.ref a) (some 1) none H Q := by
      rintro y r es rfl hr hR rfl
      refine ⟨a, _, rfl, .inl ha, fun z => ?_, fun _ p hp => ?_⟩
      · exfalso
        have z1 := z.1
        rw [show HT.sIx (y :: r).length 0 (some 1) = min 1 (y :: r).length from HT.sIx_nat _ _ 1] at z1
        rw [List.length_cons] at z1
        omega
      · rw [cut1]
        exact q _ _ _ (same_new hp) (.tup (hM.out hp) (.inl upd_same) (hR.sx (Sx.new hp))) rfl
    cases hx with
    | is n =>
      walk_at "g"
      refine ⟨sIs, none, rfl, rfl, U.is, ?_⟩
      walk_at "g"
      refine ⟨Nat.zero_le _, fun p hp => ?_⟩
      exact q _ _ _ (same_new hp) (.tup (hM.out hp) (.inl upd_same) .nil) rfl
    | get x =>
      walk_at "g"
      refine ⟨sGet, none, rfl, rfl, U.get, ?_⟩
      walk_at "g"
      refine ⟨Nat.zero_le _, fun p hp => ?_⟩
      exact q _ _ _ (same_new hp) (.tup (hM.out hp) (.inl upd_same) .nil) rfl
    | @sum f g u w r1 r2 =>
      obtain ⟨t, ht⟩ := U.sum
      walk_at "g"
      refine ⟨sSum, some (.int 2 t), rfl, rfl, ht, ?_⟩
      walk_at "g"
      exact cut _ _ _ rfl (by simp) (.cons r1 (.one r2)) rfl
    | @same f g u w r1 r2 =>
      obtain ⟨t, ht⟩ := U.same
      walk_at "g"
      refine ⟨sSame, some (.int 2 t), rfl, rfl, ht, ?_⟩
      walk_at "g"
      exact cut _ _ _ rfl (by simp) (.cons r1 (.one r2)) rfl
    | @pick f g k u w z r1 r2 r3 =>
      obtain ⟨t, ht⟩ := U.pick
      walk_at "g"
      refine ⟨sPick, some (.int 3 t), rfl, rfl, ht, ?_⟩
      walk_at "g"
      exact cut _ _ _ rfl (by simp) (.cons r1 (.cons r2 (.one r3))) rfl
def sp_well (U : TMany K mg w) : Sp := fun vs H Q _ => ∃ (v : V) (f : Fm) (M : Ms), vs = [v] ∧ Rp M H v f.enc ∧ f.ok isNm ∧ ∀ H', Same H H' → Q (.bl true) H'
theorem ok_well_made (T : Txt K mg) (U : TMany K mg w) : FnOk P w K mg base CX0 3 T.f__well_made T.d__well_made ["part"] (sp_well U) := by
  have G_is_value := ok_is_value (P := P) (w := w) (base := base) T
  have G_is_name := ok_is_name (P := P) (w := w) (base := base) T
  refine T.F__well_made.ok sc__well_made (fun vs H Q E h => ?_) (fun cdv A outer s H vs Q E hr h => ?_)
  · obtain ⟨_, _, _, rfl, _⟩ := h
    rfl
  · obtain ⟨v, f, M, rfl, hR, ho, q⟩ := h
    obtain ⟨a, xs, rfl, na, ha, hx⟩ := hR.form
    refine ⟨_, (pss_cons (ps_if (PW.pt (pw_or (pt_not (pt_val (pe_callB (call_isi1K (K := K) rfl) (by rfl) T.m_isinstance (by decide +kernel) (pa_cons (pv 0) (pa_cons (pe_bltn (v := .ty "tuple") (u := .type "tuple") (by rfl) T.m_tuple (by decide +kernel) rfl) pa_nil))))) (pw_or (pt_not (pt_truthK (K := K) rfl (pv 0) (by intro _; rfl))) (pw_or1 (pt_not (pt_val (pe_callB (call_isi1K (K := K) rfl) (by rfl) T.m_isinstance (by decide +kernel) (pa_cons (pe_ix (ix_tupK (K := K) rfl) (pv 0) pe_int (fun _ _ => rfl)) (pa_cons (pe_bltn (v := .ty "str") (u := .type "str") (by rfl) T.m_str (by decide +kernel) rfl) pa_nil))))))))) (pss_one (ps_ret pe_bl)) pss_nil)
      (pss_cons (ps_if (pt_cmpR op_eq (pe_ix (ix_tupK (K := K) rfl) (pv 0) pe_int (fun _ _ => rfl)) pe_str (nomark _)) (pss_one (ps_ret (pe_and (pe_cmpR op_eq (pe_callB (call_lenK (K := K) rfl) (by rfl) T.m_len PySem.boot_len (pa_cons (pv 0) pa_nil)) pe_int (nomark _)) (pe_one (pe_call G_is_value (hr.mono (by omega)) (by rfl) T.g_is_value T.F_is_value.kp T.b_is_value .nil pass0 (pa_cons (pe_ix (ix_tupK (K := K) rfl) (pv 0) pe_int (fun _ _ => rfl)) pa_nil)))))) pss_nil)
      (pss_cons (ps_if (pt_cmpR op_eq (pe_ix (ix_tupK (K := K) rfl) (pv 0) pe_int (fun _ _ => rfl)) pe_str (nomark _)) (pss_one (ps_ret (pe_and (pe_cmpR op_eq (pe_callB (call_lenK (K := K) rfl) (by rfl) T.m_len PySem.boot_len (pa_cons (pv 0) pa_nil)) pe_int (nomark _)) (pe_one (pe_call G_is_name (hr.mono (by omega)) (by rfl) T.g_is_name T.F_is_name.kp T.b_is_name .nil pass0 (pa_cons (pe_ix (ix_tupK (K := K) rfl) (pv 0) pe_int (fun _ _ => rfl)) pa_nil)))))) pss_nil)
      (pss_one (ps_ret (pe_and (pe_cmpR (op_in_kd U.kd) (pe_ix (ix_tupK (K := K) rfl) (pv 0) pe_int (fun _ _ => rfl)) (pe_glob (v := .ref U.p) rfl U.g rfl) (by rfl)) (pe_one (pe_cmpR op_eq (pe_callB (call_lenK (K := K) rfl) (by rfl) T.m_len PySem.boot_len (pa_cons (pv 0) pa_nil)) (pe_op op_add (pe_ix ix_kdict (pe_glob (v := .ref U.p) rfl U.g rfl) (pe_ix (ix_tupK (K := K) rfl) (pv 0) pe_int (fun _ _ => rfl)) (fun _ _ => rfl)) pe_int) (nomark _))))))))), ?_⟩
    walk_at "g"
    refine ⟨_, _, _, _, true, rfl, .ty _, rd_ty ha, kit_ty (by decide +kernel), ?_⟩
    cases hx with
    | is n =>
      walk_at "g"
      refine ⟨true, .inr (.inl ⟨_, .inl ha, rfl⟩), ?_⟩
      walk_at "g"
      refine ⟨_, _, _, _, true, rfl, .ty _, .base (.str _), kit_ty (by decide +kernel), ?_⟩
      walk_at "g"
      refine ⟨_, _, rfl, .inr (.inl ha), ?_⟩
      walk_at "g"
      exact ⟨ho.1, ho.2, q _ (Same.refl H)⟩
    | get x =>
      walk_at "g"
      refine ⟨true, .inr (.inl ⟨_, .inl ha, rfl⟩), ?_⟩
      walk_at "g"
      refine ⟨_, _, _, _, true, rfl, .ty _, .base (.str _), kit_ty (by decide +kernel), ?_⟩
      walk_at "g"
      refine ⟨_, _, rfl, .inr (.inl ha), ?_⟩
      walk_at "g"
      exact ⟨ho, q⟩
    | sum r1 r2 =>
      obtain ⟨t, ht⟩ := U.sum
      walk_at "g"
      refine ⟨true, .inr (.inl ⟨_, .inl ha, rfl⟩), ?_⟩
      walk_at "g"
      refine ⟨_, _, _, _, true, rfl, .ty _, .base (.str _), kit_ty (by decide +kernel), ?_⟩
      walk_at "g"
      refine ⟨_, _, rfl, rfl, ht, ?_⟩
      walk_at "g"
      refine ⟨_, _, rfl, .inr (.inl ha), ?_⟩
      walk_at "g"
      refine ⟨_, _, .int 2, rfl, rfl, ⟨_, _, _, U.kd.at_, U.kd.lit, ht, ⟨_, rfl⟩⟩, ?_⟩
      walk_at "g"
      exact q _ (Same.refl H)
    | same r1 r2 =>
      obtain ⟨t, ht⟩ := U.same
      walk_at "g"
      refine ⟨true, .inr (.inl ⟨_, .inl ha, rfl⟩), ?_⟩
      walk_at "g"
      refine ⟨_, _, _, _, true, rfl, .ty _, .base (.str _), kit_ty (by decide +kernel), ?_⟩
      walk_at "g"
      refine ⟨_, _, rfl, rfl, ht, ?_⟩
      walk_at "g"
      refine ⟨_, _, rfl, .inr (.inl ha), ?_⟩
      walk_at "g"
      refine ⟨_, _, .int 2, rfl, rfl, ⟨_, _, _, U.kd.at_, U.kd.lit, ht, ⟨_, rfl⟩⟩, ?_⟩
      walk_at "g"
      exact q _ (Same.refl H)
    | pick r1 r2 r3 =>
      obtain ⟨t, ht⟩ := U.pick
      walk_at "g"
      refine ⟨true, .inr (.inl ⟨_, .inl ha, rfl⟩), ?_⟩
      walk_at "g"
      refine ⟨_, _, _, _, true, rfl, .ty _, .base (.str _), kit_ty (by decide +kernel), ?_⟩
      walk_at "g"
      refine ⟨_, _, rfl, rfl, ht, ?_⟩
      walk_at "g"
      refine ⟨_, _, rfl, .inr (.inl ha), ?_⟩
      walk_at "g"
      refine ⟨_, _, .int 3, rfl, rfl, ⟨_, _, _, U.kd.at_, U.kd.lit, ht, ⟨_, rfl⟩⟩, ?_⟩
      walk_at "g"
      exact q _ (Same.refl H)
/-- sizes on the stack -/
def sp_check (U : TMany K mg w) : Sp := fun vs H Q _ => ∃ (v : V) (f : Fm) (M : Ms), vs = [v] ∧ Rp M H v f.enc ∧ Mk M H ∧ f.ok isNm ∧ f.dep ≤ 5 ∧ ∀ H', Same H H' → Q .non H'
theorem ok_check_form (T : Txt K mg) (U : TMany K mg w) : FnOk P w K mg base CX0 4 T.f_check_form T.d_check_form ["parts"] (sp_check U) := by
  have G__well_made := ok_well_made (P := P) (base := base) T U
  have G_inner_forms := ok_inner_forms (P := P) (base := base) T U
  refine T.F_check_form.ok sc_check_form (fun vs H Q E h => ?_) (fun cdv A outer s H vs Q E hr h => ?_)
  · obtain ⟨_, _, _, rfl, _⟩ := h
    rfl
  · obtain ⟨v, f, M, rfl, hR, hM, ho, hd, q⟩ := h
    refine ⟨_, (pss_cons (ps_set (i := 1) sc_check_form.nd rfl (Or.inl rfl) pe_int)
      (pss_cons (ps_set (i := 2) sc_check_form.nd rfl (Or.inl rfl) (pe_lst (pa_cons (pe_tup (pa_cons (pv 0) (pa_cons pe_int pa_nil))) pa_nil)))
      (pss_cons (ps_while PassesOwn.never (pt_truthK (K := K) rfl (pv 2) (by intro _; rfl)) (pss_cons (ps_asg (pe_bm0K2 (K := K) rfl PySem.F.plainAttrs_list PySem.F.slot_list_pop PySem.F.type_list_pop mt_pop (pv 2)) (pg_tupK (K := K) rfl rfl (pgs_cons (pg_name (i := 3) sc_check_form.nd rfl (Or.inl rfl)) (pgs_cons (pg_name (i := 4) sc_check_form.nd rfl (Or.inr rfl)) pgs_nil))))
      (pss_cons (ps_if (pt_not (pt_val (pe_call G__well_made (hr.mono (by omega)) (by rfl) T.g__well_made T.F__well_made.kp T.b__well_made .nil pass0 (pa_cons (pv 3) pa_nil)))) (pss_one ps_never) pss_nil)
      (pss_cons (ps_if (pt_cmpR op_gt (pv 4) (pv 1) (nomark _)) (pss_one (ps_set (i := 1) sc_check_form.nd rfl (Or.inl rfl) (pv 4))) pss_nil)
      (pss_cons (ps_setLc (i := 5) (own := [("form", 6)]) (g := gName 6) (tt := tYes) (by rfl) sc_check_form.nd rfl rfl (sw_true rfl rfl rfl (by decide +kernel)) (pi_tupK (K := K) rfl (pe_call G_inner_forms (hr.mono (by omega)) (by rfl) T.g_inner_forms T.F_inner_forms.kp T.b_inner_forms .nil pass0 (pa_cons (pv 3) pa_nil))) (blkOk_by (own := [("form", 6)]) (N := ["parts", "deepest", "waiting", "part", "level", "inner", "form"]) (sc := defScope s_check_form) (by decide +kernel)) (fun _ _ _ _ _ => (pg_name (i := 6) sc_check_form.nd rfl (Or.inl rfl))) (fun _ _ _ _ _ => pts_nil) (fun _ _ _ _ _ => (pe_tup (pa_cons (pv 6) (pa_cons (pe_op op_add (pv 4) pe_int) pa_nil)))))
      (pss_one (ps_expr (pe_bmK2 (K := K) rfl PySem.F.plainAttrs_list PySem.F.slot_list_extend PySem.F.type_list_extend mt_extend (pv 2) (pa_cons (pe_revL (pv 5)) pa_nil)))))))))
      (pss_one (ps_if (pt_cmpR op_gt (pv 1) (pe_glob (v := .int 5) rfl T.c_MOST_LEVELS ⟨_, rfl⟩) (nomark _)) (pss_one ps_never) pss_nil))))), ?_⟩
    walk_at "g"
    refine ⟨sz2, fun t ht => ?_⟩
    refine ⟨szK rfl, fun s ns => ?_⟩
    have ts : t ≠ s := ne_of_none upd_same ns
    have ns0 : H s = none := by
      rw [upd_ne ts.symm] at ns
      exact ns
    let N : Ms := also M s
    have hs0 : Same H (upd (upd H t (.tup [v, .int 1])) s (.lst [.ref t])) := fun c o e => same_new ns c o (same_new ht c o e)
    have hMN : Mk N (upd (upd H t (.tup [v, .int 1])) s (.lst [.ref t])) := (hM.gr (Gr.same hs0)).also upd_there
    refine ⟨fun m σ H' => ∃ y3 y4 y5 y6 dp ps xs, σ = [some v, some (.int dp), some (.ref s), y3, y4, y5, y6] ∧ dp ≤ 5 ∧ Same H H' ∧ Mk N H' ∧ H' s = some (.lst xs) ∧ RpAll N H' xs (ps.map lvD) ∧ (∀ p ∈ ps, p.1.ok isNm ∧ p.1.dep + p.2 ≤ 6 ∧ 1 ≤ p.2) ∧ szs ps ≤ 10000 ∧ m = szs ps, ⟨_, none, none, none, none, 0, [(f, 1)], _, rfl, by decide, hs0, hMN, upd_same, ?_, ?_, ?_, rfl⟩, fun m σ H' hW => ?_⟩
    · refine .one (.tup (fun z => z.elim (hM.out ht) ts) (.inl (by rw [upd_ne ts, upd_same]; rfl)) (.cons ?_ (.one (.int _))))
      exact (hR.fresh ns0).sx (Sx.same hs0)
    · intro p hp
      rw [List.mem_singleton.mp hp]
      exact ⟨ho, by show f.dep + 1 ≤ 6; omega, Nat.le_refl _⟩
    · have := Fm.size_le 5 f hd
      show ([(f, 1)].map fun p => p.1.size).sum ≤ 10000
      simp
      omega
    · obtain ⟨y3, y4, y5, y6, dp, ps, xs, rfl, hdp, hs, hMk, es, rs, hp, hsz, rfl⟩ := hW
      have lx := rs.length
      rw [List.length_map] at lx
      walk_at "g"
      refine ⟨!xs.isEmpty, .inl ⟨xs, SqL.of es, rfl⟩, ?_⟩
      walk_at "if"
      · rename_i e
        have hne : ps ≠ [] := fun z => by
          have : xs = [] := List.length_eq_zero_iff.mp (by rw [lx, z]; rfl)
          rw [this] at e
          cases e
        obtain ⟨qs, p, rfl⟩ : ∃ qs p, ps = qs ++ [p] := ⟨ps.dropLast, ps.getLast hne, (List.dropLast_concat_getLast hne).symm⟩
        rw [List.map_append] at rs
        obtain ⟨us, u, rfl, ru, rp⟩ := rs.last
        obtain ⟨pu, xu, rfl, nu, hu, rxu⟩ := Rp.tupN rp
        obtain ⟨w1, w2, rfl, r1, r2⟩ := rxu.inv2
        cases r2
        obtain ⟨fo, fd, fl⟩ := hp p (by simp)
        have hsz2 : szs qs + p.1.size ≤ 10000 := by
          rw [szs_app] at hsz
          exact hsz
        have hM1 : szs (qs ++ [p]) = szs qs + p.1.size := szs_app _ _
        generalize hm : szs (qs ++ [p]) = m at *
        refine ⟨fun σ2 H2 => ∃ y3 y4 y5 y6 dp ps xs, σ2 = [some v, some (.int dp), some (.ref s), y3, y4, y5, y6] ∧ dp ≤ 5 ∧ Same H H2 ∧ Mk N H2 ∧ H2 s = some (.lst xs) ∧ RpAll N H2 xs (ps.map lvD) ∧ (∀ p ∈ ps, p.1.ok isNm ∧ p.1.dep + p.2 ≤ 6 ∧ 1 ≤ p.2) ∧ szs ps < m, fun σ2 H2 h2 => ?_, ?_⟩
        · obtain ⟨y3, y4, y5, y6, dp, ps, xs, a1, a2, a3, a4, a5, a6, a7, a8⟩ := h2
          exact ⟨_, a8, y3, y4, y5, y6, dp, ps, xs, a1, a2, a3, a4, a5, a6, a7, by omega, rfl⟩
        walk_at "g"
        refine ⟨.inl ⟨rfl, _, SqL.of es⟩, s, _, .ref pu, rfl, rfl, es, ?_, ?_⟩
        · rw [List.length_append, List.length_singleton, Nat.add_sub_cancel, List.getElem?_append_right (Nat.le_refl _), Nat.sub_self]
          rfl
        rw [List.dropLast_concat]
        generalize q1 : upd H' s (.lst us) = H1
        have s1 : Sx N H' H1 := q1 ▸ Sx.put (.inr rfl)
        have e1 : H1 s = some (.lst us) := q1 ▸ upd_same
        have hs1 : Same H H1 := q1 ▸ same_put hs ns0
        have g1 : Gr H' H1 := q1 ▸ Gr.upd
        clear q1
        have hu1 := sx_rd s1 nu hu
        have r11 := r1.sx s1
        have hMk1 := hMk.gr g1
        refine ⟨pu, _, rfl, .inl hu1, rfl, _, _, rfl, _, _, rfl, rfl, ?_⟩
        with_reducible refine seq_join (fun σ3 H3 => σ3 = [some v, some (.int dp), some (.ref s), some w1, some (.int (p.2 : Int)), y5, y6] ∧ Same H1 H3) (fun hN => ?_) (fun σ3 H2 c => ?_)
        · walk_at "g"
          exact ⟨_, p.1, N, rfl, r11, fo, fun H2 s2 => ⟨_, rfl, hN _ _ ⟨rfl, s2⟩⟩⟩
        obtain ⟨rfl, s2⟩ := c
        have lev5 : (p.2 : Int) ≤ 5 := by have := p.1.dep_pos; omega
        with_reducible refine seq_join (fun σ3 H3 => ∃ dp', σ3 = [some v, some (.int dp'), some (.ref s), some w1, some (.int (p.2 : Int)), y5, y6] ∧ dp' ≤ 5 ∧ H3 = H2) (fun hN => ?_) (fun σ3 H3 c => ?_)
        · walk_at "g"
          walk_at "if"
          · exact ⟨_, rfl, hN _ _ ⟨_, rfl, lev5, rfl⟩⟩
          · exact hN _ _ ⟨_, rfl, hdp, rfl⟩
        · obtain ⟨dp', rfl, hdp', rfl⟩ := c
          walk_at "g"
          have r12 := r11.sx (Sx.same s2)
          have hMk2 := hMk1.gr (Gr.same s2)
          refine ⟨_, p.1, N, rfl, r12, hMk2, fun v3 H3 d3 s3 r3 e3 => ?_⟩
          subst e3
          obtain ⟨p3, x3, rfl, n3, h3, rx3⟩ := Rp.tupN r3
          have l3 := rx3.length
          rw [List.length_map] at l3
          have hMk3 := hMk2.gr (Gr.same s3)
          refine ⟨p3, rfl, ⟨_, .inl h3⟩, fun D hD => ?_⟩
          refine lc_dataT (xs := x3) (ys := (p.1.subs.map fun g => (g, p.2 + 1)).map lvD) N hMk3 hD (.inl h3) (by rw [List.length_map, List.length_map, l3]) (by have := subs_len p.1; omega) (fun i x y Ha C Nx hx hy hsa hm hC => ?_) (fun H4 s4 L4 => ?_)
          · obtain ⟨d, hd1, rd⟩ := rx3.get hx
            rw [List.getElem?_map] at hd1 hy
            rw [List.getElem?_map] at hy
            obtain ⟨g, hg, rfl⟩ := Option.map_eq_some_iff.mp hd1
            rw [hg] at hy
            cases hy
            refine ⟨rfl, ?_⟩
            walk_at "g"
            refine ⟨sz2, fun u hu => ?_⟩
            refine hC _ _ (same_new hu) (.tup (hm.out hu) (.inl upd_same) (.cons ?_ (.one ?_)))
            · exact (((rd.fresh hD).sx (Sx.same hsa)).sx (Sx.new hu))
            · exact .int _
          · obtain ⟨nD, ys, eD, rD⟩ := L4
            have lD := rD.length
            rw [List.length_map, List.length_map] at lD
            have s24 := s2.trans (s3.trans s4)
            have e4 := s24 _ _ e1
            refine ⟨.ref s, rfl, .inl ⟨rfl, _, SqL.of e4⟩, .ref D, rfl, D, ys, rfl, SqL.of eD, fun z hz => ?_⟩
            have sz : s ≠ z := ne_of_none e4 hz
            have lu := ru.length
            refine ⟨s, z, us, ys.reverse, rfl, rfl, by rw [upd_ne sz]; exact e4, upd_same, ?_, ?_⟩
            · have := szs_len qs
              rw [List.length_map] at lu
              have := subs_len p.1
              rw [List.length_reverse]
              exact Nat.le_of_lt (small1000000 (by omega))
            · have s5 : Sx N H4 (upd (upd H4 z (.lst ys.reverse)) s (.lst (us ++ ys.reverse))) := (Sx.new hz).trans (Sx.put (.inr rfl))
              have hs5 : Same H (upd (upd H4 z (.lst ys.reverse)) s (.lst (us ++ ys.reverse))) := same_put ((hs1.trans s24).trans (same_new hz)) ns0
              refine ⟨_, _, _, _, dp', qs ++ (p.1.subs.map fun g => (g, p.2 + 1)).reverse, us ++ ys.reverse, rfl, hdp', hs5, (hMk3.gr (Gr.same s4)).gr (Gr.upd.trans Gr.upd), upd_same, ?_, ?_, ?_⟩
              · rw [List.map_append, List.map_reverse]
                exact (((ru.sx s1).sx (Sx.same s24)).append rD.reverse).sx s5
              · intro r hr
                rcases List.mem_append.mp hr with hr | hr
                · exact hp r (List.mem_append_left _ hr)
                · rw [List.mem_reverse] at hr
                  obtain ⟨g, hg, rfl⟩ := List.mem_map.mp hr
                  have := subs_dep hg
                  exact ⟨subs_ok fo hg, by show g.dep + (p.2 + 1) ≤ 6; omega, by show 1 ≤ p.2 + 1; omega⟩
              · rw [szs_app, szs_rev]
                have := subs_size p.1 (p.2 + 1)
                omega
      · rename_i e
        walk_at "g"
        rw [decide_eq_false (show ¬ (5 : Int) < dp by omega)]
        exact q _ hs
end
end D

namespace D
open PySem PySem.Spec PyProof.Rows L2
local macro_rules | `(tactic| walk_at "st") => `(tactic| first | exact SqT.of (by assumption) | exact Or.inl (by assumption) | exact SqT.of upd_same | fail "st")
local macro_rules | `(tactic| walk_at "ixt") => `(tactic| refine ⟨_, _, _, _, rfl, rfl, (by walk_at "st" : SqT _ _ _ _), by rfl, ?_⟩)
local macro_rules | `(tactic| walk_at "sq") => `(tactic| first | exact SqL.of (by assumption) | assumption | exact Or.inl (by assumption) | exact SqL.of upd_same | fail "sq")
local macro_rules | `(tactic| walk_at "ix") => `(tactic| refine ⟨_, _, _, _, rfl, rfl, (by walk_at "sq" : SqL _ _ _ _), by rfl, ?_⟩)
local macro_rules | `(tactic| walk_at "set") => `(tactic| refine ⟨_, _, _, _, rfl, rfl, by first | assumption | exact upd_same, by rfl, ?_⟩)
local macro_rules | `(tactic| walk_at "len") => `(tactic| refine ⟨_, _, rfl, Or.inl (by walk_at "sq" : SqL _ _ _ _), ?_⟩)
local macro_rules | `(tactic| walk_at "g") => `(tactic| repeat (first | refine ⟨_, rfl, ?_⟩ | refine ⟨_, _, rfl, rfl, ?_⟩ | refine ⟨Or.inr (by decide), ?_⟩ | refine ⟨Or.inl (by decide), ?_⟩ | refine ⟨(by decide : (0 : Int) < _), ?_⟩ | refine ⟨(⟨by decide, by decide⟩ : CDiv _ _), ?_⟩ | refine ⟨(⟨by decide, by decide, by decide⟩ : CPow _ _), ?_⟩ | refine Or.inl ⟨_, rfl, ?_⟩ | refine ⟨rfl, ?_⟩ | walk_at "ix" | walk_at "ixt" | walk_at "len" | fail "g"))
local macro_rules | `(tactic| walk_at "if") => `(tactic| refine ite2 (fun e => ?_) (fun e => ?_))
section
variable {P : Program} {w : World} {K : PySem.W.Frag} {mg : Str → Option Value} {base : Heap}
def sp_names (d : Nat) : Sp := fun vs H Q _ => ∃ (v : V) (f : Fm) (M : Ms), vs = [v] ∧ Rp M H v f.enc ∧ Mk M H ∧ f.dep ≤ d ∧ d ≤ 5 ∧ Pu M H (fun x => x = .tuple (f.names.map PyData.str)) Q
theorem ok_names_in (T : Txt K mg) (U : TMany K mg w) : ∀ d, FnOk P w K mg base CX0 (d + 2) T.f_names_in T.d_names_in ["form"] (sp_names d) := by
  have G_inner_forms := ok_inner_forms (P := P) (base := base) T U
  intro d
  induction d with
  | zero =>
    refine T.F_names_in.ok sc_names_in (fun vs H Q E h => ?_) (fun cdv A outer s H vs Q E hr h => ?_)
    · obtain ⟨_, _, _, rfl, _⟩ := h
      rfl
    · obtain ⟨v, f, M, rfl, _, _, hd, _⟩ := h
      exact absurd f.dep_pos (by omega)
  | succ d ih =>
    have G_names_in := ih
    refine T.F_names_in.ok sc_names_in (fun vs H Q E h => ?_) (fun cdv A outer s H vs Q E hr h => ?_)
    · obtain ⟨_, _, _, rfl, _⟩ := h
      rfl
    · obtain ⟨v, f, M, rfl, hR, hM, hd, hd5, q⟩ := h
      refine ⟨_, (pss_cons (ps_if (pt_cmpR op_eq (pe_ix (ix_tupK (K := K) rfl) (pv 0) pe_int (fun _ _ => rfl)) pe_str (nomark _)) (pss_one (ps_ret (pe_tup (pa_cons (pe_ix (ix_tupK (K := K) rfl) (pv 0) pe_int (fun _ _ => rfl)) pa_nil)))) pss_nil)
      (pss_cons (ps_set (i := 1) sc_names_in.nd rfl (Or.inl rfl) (pe_lst pa_nil))
      (pss_cons (ps_for PassesOwn.never rfl (pi_tupK (K := K) rfl (pe_call G_inner_forms (hr.mono (by omega)) (by rfl) T.g_inner_forms T.F_inner_forms.kp T.b_inner_forms .nil pass0 (pa_cons (pv 0) pa_nil))) (pg_name (i := 2) sc_names_in.nd rfl (Or.inl rfl)) (pss_one (ps_for PassesOwn.never rfl (pi_tupK (K := K) rfl (pe_call G_names_in (hr.mono (by omega)) (by rfl) T.g_names_in T.F_names_in.kp T.b_names_in .nil pass0 (pa_cons (pv 2) pa_nil))) (pg_name (i := 3) sc_names_in.nd rfl (Or.inl rfl)) (pss_one (ps_if (pt_cmpR (op_notIn_seqK (K := K) rfl) (pv 3) (pv 1) (by rfl)) (pss_one (ps_expr (pe_bmK2 (K := K) rfl PySem.F.plainAttrs_list PySem.F.slot_list_append PySem.F.type_list_append mt_append (pv 1) (pa_cons (pv 3) pa_nil)))) pss_nil)))))
      (pss_one (ps_ret (pe_callTy (call_tupleK (K := K) rfl) (by rfl) T.m_tuple (by decide +kernel) (pa_cons (pv 1) pa_nil))))))), ?_⟩
      have rest : (∀ x, f ≠ .get x) → ∀ (C : TS) (D : Ends), True := fun _ _ _ => trivial
      obtain ⟨a, xs, rfl, na, ha, hx⟩ := id hR.form
      by_cases hg : ∃ x, f = .get x
      · obtain ⟨x, rfl⟩ := hg
        cases hx with
        | get =>
        walk_at "g"
        refine ⟨szK rfl, fun p hp => ?_⟩
        exact q _ _ _ (same_new hp) (.tup (hM.out hp) (.inl upd_same) (.one (.str x))) rfl
      · have hng : ∀ x, f ≠ .get x := fun x e => hg ⟨x, e⟩
        obtain ⟨wd, ys, rfl, hw⟩ : ∃ wd ys, xs = .str wd :: ys ∧ wd ≠ sGet := by
          cases hx with
          | is n => exact ⟨_, _, rfl, by decide⟩
          | get x => exact absurd rfl (hng x)
          | sum a b => exact ⟨_, _, rfl, by decide⟩
          | same a b => exact ⟨_, _, rfl, by decide⟩
          | pick a b c => exact ⟨_, _, rfl, by decide⟩
        walk_at "g"
        refine ⟨_, _, _, _, rfl, rfl, .inl ha, atI_nat (j := 0) rfl, ?_⟩
        walk_at "g"
        rw [decide_eq_false (show ¬ V.str wd = V.str (Str.ofString "get") from fun z => hw (V.str.inj z))]
        walk_at "g"
        refine ⟨Nat.zero_le _, fun l nl => ?_⟩
        walk_at "g"
        let N : Ms := also M l
        generalize q1 : upd H l (.lst []) = H1
        have s1 : Same H H1 := q1 ▸ same_new nl
        have e1 : H1 l = some (.lst []) := q1 ▸ upd_same
        clear q1
        have hMN : Mk N H1 := (hM.gr (Gr.same s1)).also (ne_none e1)
        refine ⟨_, f, N, rfl, (hR.fresh nl).sx (Sx.same s1), hMN, fun v3 H3 d3 s3 r3 e3 => ?_⟩
        subst e3
        obtain ⟨p3, x3, rfl, n3, h3, rx3⟩ := Rp.tupN r3
        have l3 := rx3.length
        rw [List.length_map] at l3
        have e3 := s3 _ _ e1
        refine ⟨p3, rfl, ⟨_, .inl h3⟩, ?_⟩
        refine for_tup (K := K) (a := p3) (xs := x3) (fun i σ H' => ∃ y2 y3, σ = [some (.ref a), some (.ref l), y2, y3] ∧ Same H H' ∧ Sx N H3 H' ∧ Gr H3 H' ∧ H' l = some (.lst (((f.subs.take i).foldl stepN []).map V.str)) ∧ ((f.subs.take i).foldl stepN []).length ≤ i * 1024) ⟨none, none, rfl, s1.trans s3, Sx.refl, Gr.refl, e3, Nat.le_refl _⟩ (fun i σ H' _ p => ?_) (fun i x σ H' hx p => ?_) (fun σ H' p => ?_)
        · obtain ⟨y2, y3, rfl, sh, sx, g, e, le⟩ := p
          exact sx_t sx n3 (.inl h3)
        · obtain ⟨y2, y3, rfl, sh, sx, g, e, le⟩ := p
          obtain ⟨dd, hd1, rd⟩ := (rx3.sx sx).get hx
          rw [List.getElem?_map] at hd1
          obtain ⟨s, hs, rfl⟩ := Option.map_eq_some_iff.mp hd1
          have hsd := subs_dep (List.mem_of_getElem? hs)
          have hi3 : i < 3 := by
            have := (List.getElem?_eq_some_iff.mp hs).1
            have := subs_len f
            omega
          walk_at "g"
          have hMk3 : Mk N H' := (hMN.gr (Gr.same s3)).gr g
          refine ⟨x, s, N, rfl, rd, hMk3, by omega, by omega, fun v4 H4 d4 s4 r4 e4 => ?_⟩
          subst e4
          obtain ⟨p4, x4, rfl, n4, h4, rx4⟩ := Rp.tupN r4
          have ex4 := rx4.ofStrs
          subst ex4
          have nl4 : s.names.length ≤ 1024 := Nat.le_trans s.names_len (Nat.le_trans (Fm.size_le 5 s (by omega)) (by decide))
          have e4 := s4 _ _ e
          generalize hacc : (f.subs.take i).foldl stepN [] = acc at e e4 le
          refine ⟨p4, rfl, ⟨_, .inl h4⟩, ?_⟩
          refine for_tup (K := K) (a := p4) (xs := s.names.map V.str) (fun j σ H5 => ∃ y2 y3, σ = [some (.ref a), some (.ref l), y2, y3] ∧ Same H H5 ∧ Sx N H4 H5 ∧ Gr H4 H5 ∧ H5 l = some (.lst (((s.names.take j).foldl addN acc).map V.str)) ∧ ((s.names.take j).foldl addN acc).length ≤ acc.length + j) ⟨_, _, rfl, sh.trans s4, Sx.refl, Gr.refl, e4, Nat.le_refl _⟩ (fun j σ H5 _ p => ?_) (fun j x σ H5 hx p => ?_) (fun σ H5 p => ?_)
          · obtain ⟨y2, y3, rfl, sh5, sx5, g5, e5, le5⟩ := p
            exact sx_t sx5 n4 (.inl h4)
          · obtain ⟨y2, y3, rfl, sh5, sx5, g5, e5, le5⟩ := p
            rw [List.getElem?_map] at hx
            obtain ⟨n, hn, rfl⟩ := Option.map_eq_some_iff.mp hx
            have hj : j < s.names.length := (List.getElem?_eq_some_iff.mp hn).1
            have hst := fold_take addN acc s.names j n hn
            walk_at "g"
            refine ⟨flat_strs _, ?_⟩
            rw [in_strs]
            walk_at "g"
            walk_at "if"
            · rename_i c
              have c' : n ∉ (s.names.take j).foldl addN acc := of_decide_eq_false (by simpa using c)
              have ha : addN ((s.names.take j).foldl addN acc) n = (s.names.take j).foldl addN acc ++ [n] := if_neg c'
              refine ⟨.ref l, rfl, .inl ⟨rfl, _, SqL.of e5⟩, .str n, rfl, l, _, _, rfl, rfl, e5, ?_, ?_⟩
              · rw [List.length_map]
                exact small1000000 (by omega)
              · refine ⟨_, _, rfl, same_put sh5 nl, sx5.trans (Sx.put (.inr rfl)), g5.trans Gr.upd, ?_, ?_⟩
                · rw [upd_same, hst, ha, List.map_append]
                  rfl
                · rw [hst]
                  have := addN_len ((s.names.take j).foldl addN acc) n
                  omega
            · rename_i c
              have c' : n ∈ (s.names.take j).foldl addN acc := by
                by_cases z : n ∈ (s.names.take j).foldl addN acc
                · exact z
                · exact absurd (by simp [z]) c
              have ha : addN ((s.names.take j).foldl addN acc) n = (s.names.take j).foldl addN acc := if_pos c'
              refine ⟨_, _, rfl, sh5, sx5, g5, ?_, ?_⟩
              · rw [hst, ha]
                exact e5
              · rw [hst, ha]
                omega
          · obtain ⟨y2, y3, rfl, sh5, sx5, g5, e5, le5⟩ := p
            rw [List.length_map, List.take_length] at e5 le5
            have hst := fold_take stepN [] f.subs i s hs
            rw [hacc] at hst
            refine ⟨_, _, rfl, sh5, sx.trans ((Sx.same s4).trans sx5), g.trans ((Gr.same s4).trans g5), ?_, ?_⟩
            · rw [hst]
              exact e5
            · rw [hst]
              show (s.names.foldl addN acc).length ≤ (i + 1) * 1024
              omega
        · obtain ⟨y2, y3, rfl, sh, sx, g, e, le⟩ := p
          rw [show x3.length = f.subs.length from l3, List.take_length, ← names_fold f hng] at e
          walk_at "g"
          refine ⟨l, _, rfl, .inl ⟨SqL.of e, fun p hp => ?_⟩⟩
          have hMH : Mk M H' := hM.gr (Gr.same sh)
          exact q _ _ _ (sh.trans (same_new hp)) (.tup (hMH.out hp) (.inl upd_same) (RpAll.strs _)) rfl
end
end D


namespace D
open PySem PySem.Spec PyProof.Rows L2
local macro_rules | `(tactic| walk_at "st") => `(tactic| first | exact SqT.of (by assumption) | exact Or.inl (by assumption) | exact SqT.of upd_same | fail "st")
local macro_rules | `(tactic| walk_at "ixt") => `(tactic| refine ⟨_, _, _, _, rfl, rfl, (by walk_at "st" : SqT _ _ _ _), by rfl, ?_⟩)
local macro_rules | `(tactic| walk_at "sq") => `(tactic| first | exact SqL.of (by assumption) | assumption | exact Or.inl (by assumption) | exact SqL.of upd_same | fail "sq")
local macro_rules | `(tactic| walk_at "ix") => `(tactic| refine ⟨_, _, _, _, rfl, rfl, (by walk_at "sq" : SqL _ _ _ _), by rfl, ?_⟩)
local macro_rules | `(tactic| walk_at "set") => `(tactic| refine ⟨_, _, _, _, rfl, rfl, by first | assumption | exact upd_same, by rfl, ?_⟩)
local macro_rules | `(tactic| walk_at "len") => `(tactic| refine ⟨_, _, rfl, Or.inl (by walk_at "sq" : SqL _ _ _ _), ?_⟩)
local macro_rules | `(tactic| walk_at "g") => `(tactic| repeat (first | refine ⟨_, rfl, ?_⟩ | refine ⟨_, _, rfl, rfl, ?_⟩ | refine ⟨Or.inr (by decide), ?_⟩ | refine ⟨Or.inl (by decide), ?_⟩ | refine ⟨(by decide : (0 : Int) < _), ?_⟩ | refine ⟨(⟨by decide, by decide⟩ : CDiv _ _), ?_⟩ | refine ⟨(⟨by decide, by decide, by decide⟩ : CPow _ _), ?_⟩ | refine Or.inl ⟨_, rfl, ?_⟩ | refine ⟨rfl, ?_⟩ | walk_at "ix" | walk_at "ixt" | walk_at "len" | fail "g"))
local macro_rules | `(tactic| walk_at "if") => `(tactic| refine ite2 (fun e => ?_) (fun e => ?_))
section
variable {P : Program} {w : World} {K : PySem.W.Frag} {mg : Str → Option Value} {base : Heap}
/-- rows of items -/
def rowD (ns : List Int) : PyData := .tuple (ns.map PyData.int)
theorem Rp.rowAt {M : Ms} {H : Hp} {v : V} {ns : List Int} (h : Rp M H v (rowD ns)) : RowAt M H v ns := by
  obtain ⟨a, xs, rfl, na, ha, rx⟩ := Rp.tupN h
  have ex := rx.ofInts
  subst ex
  exact ⟨a, rfl, na, ha⟩
def goodRow (ns : List Int) : Prop := ns.length ≤ 5 ∧ ns.Nodup ∧ ∀ n ∈ ns, 0 ≤ n ∧ n ≤ 9
def spis_row : Sp := fun vs H Q _ => ∃ (v : V) (ns : List Int) (M : Ms), vs = [v] ∧ RowAt M H v ns ∧ goodRow ns ∧ ∀ H', Same H H' → Q (.bl true) H'
theorem okis_row (T : Txt K mg) : FnOk P w K mg base CX0 3 T.f_is_row T.d_is_row ["thing"] spis_row := by
  have G_is_value := ok_is_value (P := P) (w := w) (base := base) T
  refine T.F_is_row.ok sc_is_row (fun vs H Q E h => ?_) (fun cdv A outer s H vs Q E hr h => ?_)
  · obtain ⟨_, _, _, rfl, _⟩ := h
    rfl
  · obtain ⟨v, ns, M, rfl, hR, ⟨h5, hnd, h9⟩, q⟩ := h
    obtain ⟨a, rfl, na, ha⟩ := hR
    refine ⟨_, (pss_cons (ps_if (PW.pt (pw_or (pt_not (pt_val (pe_callB (call_isi1K (K := K) rfl) (by rfl) T.m_isinstance (by decide +kernel) (pa_cons (pv 0) (pa_cons (pe_bltn (v := .ty "tuple") (u := .type "tuple") (by rfl) T.m_tuple (by decide +kernel) rfl) pa_nil))))) (pw_or1 (pt_cmpR op_gt (pe_callB (call_lenK (K := K) rfl) (by rfl) T.m_len PySem.boot_len (pa_cons (pv 0) pa_nil)) (pe_glob (v := .int 5) rfl T.c_MOST_ITEMS ⟨_, rfl⟩) (nomark _))))) (pss_one (ps_ret pe_bl)) pss_nil)
      (pss_one (ps_ret (pe_and (pe_callB (cr_allK (K := K) rfl rfl) (by rfl) T.m_all (by decide +kernel) (pa_cons (pe_lc (own := [("item", 1)]) (g := gName 1) (tt := tYes) (by rfl) sc_is_row.nd (pi_tupK (K := K) rfl (pv 0)) (blkOk_by (own := [("item", 1)]) (N := ["thing", "item"]) (sc := defScope s_is_row) (by decide +kernel)) (fun _ _ _ _ _ => (pg_name (i := 1) sc_is_row.nd rfl (Or.inl rfl))) (fun _ _ _ _ _ => pts_nil) (fun _ _ _ _ _ => (pe_call G_is_value (hr.mono (by omega)) (by rfl) T.g_is_value T.F_is_value.kp T.b_is_value .nil pass0 (pa_cons (pv 1) pa_nil)))) pa_nil)) (pe_one (pe_cmpR op_eq (pe_lenSetT (K := K) rfl rfl (by rfl) T.m_len (by rfl) T.m_set (pv 0)) (pe_callB (call_lenK (K := K) rfl) (by rfl) T.m_len PySem.boot_len (pa_cons (pv 0) pa_nil)) (nomark _))))))), ?_⟩
    walk_at "g"
    refine ⟨_, _, _, _, true, rfl, .ty _, rd_ty ha, kit_ty (by decide +kernel), ?_⟩
    walk_at "g"
    refine ⟨_, _, rfl, .inr (.inl ha), ?_⟩
    walk_at "g"
    rw [decide_eq_false (show ¬ (5 : Int) < ((ns.map V.int).length : Int) by rw [List.length_map]; omega)]
    walk_at "g"
    refine ⟨⟨_, .inl ha⟩, fun D hD => ?_⟩
    refine lc_valsT (ys := (List.replicate ns.length true).map V.bl) hD (.inl ha) (by rw [List.length_map, List.length_replicate, List.length_map]) (by rw [List.length_map]; omega) (fun i x y H' C N hx hy hs hC => ?_) (fun H' hs hD' => ?_)
    · rw [List.getElem?_map] at hx hy
      obtain ⟨n, hn, rfl⟩ := Option.map_eq_some_iff.mp hx
      obtain ⟨b, hb, rfl⟩ := Option.map_eq_some_iff.mp hy
      have eb : b = true := (List.mem_replicate.mp (List.mem_of_getElem? hb)).2
      subst eb
      have h09 := h9 n (List.mem_of_getElem? hn)
      refine ⟨rfl, ?_⟩
      walk_at "g"
      exact ⟨h09.1, h09.2, hC⟩
    · refine ⟨D, List.replicate ns.length true, rfl, SqL.of hD', ?_⟩
      rw [show (List.replicate ns.length true).all id = true by rw [List.all_replicate]; simp]
      walk_at "g"
      have ha' := same_rd hs ha
      refine ⟨a, ns, rfl, .inl ha', by omega, fun c hc => ?_⟩
      have ec := hc.mpr hnd
      subst ec
      walk_at "g"
      refine ⟨_, _, rfl, .inr (.inl ha'), ?_⟩
      refine ⟨rfl, ?_⟩
      rw [List.length_map, decide_eq_true rfl]
      exact q _ hs
/-- item and at -/
def sItem : Str := "item"
def sAt : Str := "at"
def isKN (x : Str) : Prop := x = sItem ∨ x = sAt
def rho (i a : Int) (x : Str) : Int := if x = sItem then i else a
theorem isKN_nm (x : Str) (h : isKN x) : isNm x := by
  rcases h with rfl | rfl <;> exact ⟨by decide +kernel, by decide +kernel, by decide +kernel⟩
theorem Fm.ok_imp {n m : Str → Prop} (h : ∀ x, n x → m x) : ∀ f : Fm, f.ok n → f.ok m
  | .is _, o => o
  | .get x, o => h x o
  | .sum f g, o => ⟨f.ok_imp h o.1, g.ok_imp h o.2⟩
  | .same f g, o => ⟨f.ok_imp h o.1, g.ok_imp h o.2⟩
  | .pick f g k, o => ⟨f.ok_imp h o.1, g.ok_imp h o.2.1, k.ok_imp h o.2.2⟩
/-- keys -/
def goodKey (f : Fm) : Prop := f.dep ≤ 5 ∧ f.ok isKN
def kval (f : Fm) (i a : Int) : Int := f.val (rho i a)
theorem env_kvs (i a : Int) : ∀ x, isKN x → valV (mergeK [] [((Sum.inr sItem : Key), V.int i), (Sum.inr sAt, V.int a)]) (.inr x) = some (.int (rho i a x)) := by
  intro x h
  rcases h with rfl | rfl <;> rfl
def sp_key_value : Sp := fun vs H Q _ => ∃ (v : V) (f : Fm) (M : Ms) (i a : Int), vs = [v, .int i, .int a] ∧ Rp M H v f.enc ∧ goodKey f ∧ ∀ H', Same H H' → Q (.int (kval f i a)) H'
theorem ok_key_value (T : Txt K mg) : FnOk P w K mg base CX0 7 T.f__key_value T.d__key_value ["parts", "item", "at"] sp_key_value := by
  have G_value_of := ok_value_of (P := P) (w := w) (base := base) T 5
  refine T.F__key_value.ok sc__key_value (fun vs H Q E h => ?_) (fun cdv A outer s H vs Q E hr h => ?_)
  · obtain ⟨_, _, _, _, _, rfl, _⟩ := h
    rfl
  · obtain ⟨v, f, M, i, a, rfl, hR, hg, q⟩ := h
    refine ⟨_, (pss_one (ps_ret (pe_call G_value_of (hr.mono (by omega)) (by rfl) T.g_value_of T.F_value_of.kp T.b_value_of .nil pass0 (pa_cons (pv 0) (pa_cons (pe_disp (pps_cons pe_str (pv 1) (pps_cons pe_str (pv 2) pps_nil)) (by rfl) (by rfl) (fun z => by cases z) (by decide)) pa_nil))))), ?_⟩
    walk_at "g"
    intro p hp
    walk_at "g"
    refine ⟨upd_same, [(Sum.inr sItem, .int i), (Sum.inr sAt, .int a)], rfl, (by show 2 ≤ 15; decide), ?_⟩
    rw [upd_upd]
    have s1 := same_new (o := .dK (mergeK [] [((Sum.inr sItem : Key), V.int i), (Sum.inr sAt, V.int a)])) hp
    exact ⟨v, p, f, M, _, rho i a, isKN, rfl, hR.sx (Sx.same s1), hg.1, hg.2, upd_same, env_kvs i a, q _ s1⟩
end
end D


namespace D
open PySem PySem.Spec PyProof.Rows L2
local macro_rules | `(tactic| walk_at "st") => `(tactic| first | exact SqT.of (by assumption) | exact Or.inl (by assumption) | exact SqT.of upd_same | fail "st")
local macro_rules | `(tactic| walk_at "ixt") => `(tactic| refine ⟨_, _, _, _, rfl, rfl, (by walk_at "st" : SqT _ _ _ _), by rfl, ?_⟩)
local macro_rules | `(tactic| walk_at "sq") => `(tactic| first | exact SqL.of (by assumption) | assumption | exact Or.inl (by assumption) | exact SqL.of upd_same | fail "sq")
local macro_rules | `(tactic| walk_at "ix") => `(tactic| refine ⟨_, _, _, _, rfl, rfl, (by walk_at "sq" : SqL _ _ _ _), by rfl, ?_⟩)
local macro_rules | `(tactic| walk_at "set") => `(tactic| refine ⟨_, _, _, _, rfl, rfl, by first | assumption | exact upd_same, by rfl, ?_⟩)
local macro_rules | `(tactic| walk_at "len") => `(tactic| refine ⟨_, _, rfl, Or.inl (by walk_at "sq" : SqL _ _ _ _), ?_⟩)
local macro_rules | `(tactic| walk_at "g") => `(tactic| repeat (first | refine ⟨_, rfl, ?_⟩ | refine ⟨_, _, rfl, rfl, ?_⟩ | refine ⟨Or.inr (by decide), ?_⟩ | refine ⟨Or.inl (by decide), ?_⟩ | refine ⟨(by decide : (0 : Int) < _), ?_⟩ | refine ⟨(⟨by decide, by decide⟩ : CDiv _ _), ?_⟩ | refine ⟨(⟨by decide, by decide, by decide⟩ : CPow _ _), ?_⟩ | refine Or.inl ⟨_, rfl, ?_⟩ | refine ⟨rfl, ?_⟩ | walk_at "ix" | walk_at "ixt" | walk_at "len" | fail "g"))
local macro_rules | `(tactic| walk_at "if") => `(tactic| refine ite2 (fun e => ?_) (fun e => ?_))
section
variable {P : Program} {w : World} {K : PySem.W.Frag} {mg : Str → Option Value} {base : Heap}
def sp_check_rows : Sp := fun vs H Q _ => ∃ (a : Addr) (xs : List V) (M : Ms), vs = [.ref a] ∧ SqT K H a xs ∧ (∀ x ∈ xs, ∃ ns, RowAt M H x ns ∧ goodRow ns) ∧ ∀ H', Same H H' → Q .non H'
theorem ok_check_rows (T : Txt K mg) : FnOk P w K mg base CX0 4 T.f_check_rows T.d_check_rows ["rows"] (sp_check_rows (K := K)) := by
  have G_is_row := okis_row (P := P) (w := w) (base := base) T
  refine T.F_check_rows.ok sc_check_rows (fun vs H Q E h => ?_) (fun cdv A outer s H vs Q E hr h => ?_)
  · obtain ⟨_, _, _, rfl, _⟩ := h
    rfl
  · obtain ⟨a, xs, M, rfl, hS, hR, q⟩ := h
    refine ⟨_, (pss_one (ps_for PassesOwn.never rfl (pi_tupK (K := K) rfl (pv 0)) (pg_name (i := 1) sc_check_rows.nd rfl (Or.inl rfl)) (pss_one (ps_if (pt_not (pt_val (pe_call G_is_row (hr.mono (by omega)) (by rfl) T.g_is_row T.F_is_row.kp T.b_is_row .nil pass0 (pa_cons (pv 1) pa_nil)))) (pss_one ps_never) pss_nil)))), ?_⟩
    walk_at "g"
    refine ⟨⟨_, hS⟩, ?_⟩
    refine for_tup (K := K) (a := a) (xs := xs) (fun i σ H' => ∃ y, σ = [some (.ref a), y] ∧ Same H H') ⟨none, rfl, Same.refl H⟩ (fun i σ H' _ p => ?_) (fun i x σ H' hx p => ?_) (fun σ H' p => ?_)
    · obtain ⟨y, rfl, hs⟩ := p
      exact same_sqt hs hS
    · obtain ⟨y, rfl, hs⟩ := p
      obtain ⟨ns, rd, hg⟩ := hR x (List.mem_of_getElem? hx)
      walk_at "g"
      exact ⟨x, ns, M, rfl, rd.sx (Sx.same hs), hg, fun H2 s2 => ⟨_, rfl, _, rfl, hs.trans s2⟩⟩
    · obtain ⟨y, rfl, hs⟩ := p
      exact q _ hs
end
end D


namespace D
open PySem PySem.Spec PyProof.Rows L2
local macro_rules | `(tactic| walk_at "st") => `(tactic| first | exact SqT.of (by assumption) | exact Or.inl (by assumption) | exact SqT.of upd_same | fail "st")
local macro_rules | `(tactic| walk_at "ixt") => `(tactic| refine ⟨_, _, _, _, rfl, rfl, (by walk_at "st" : SqT _ _ _ _), by rfl, ?_⟩)
local macro_rules | `(tactic| walk_at "sq") => `(tactic| first | exact SqL.of (by assumption) | assumption | exact Or.inl (by assumption) | exact SqL.of upd_same | fail "sq")
local macro_rules | `(tactic| walk_at "ix") => `(tactic| refine ⟨_, _, _, _, rfl, rfl, (by walk_at "sq" : SqL _ _ _ _), by rfl, ?_⟩)
local macro_rules | `(tactic| walk_at "set") => `(tactic| refine ⟨_, _, _, _, rfl, rfl, by first | assumption | exact upd_same, by rfl, ?_⟩)
local macro_rules | `(tactic| walk_at "len") => `(tactic| refine ⟨_, _, rfl, Or.inl (by walk_at "sq" : SqL _ _ _ _), ?_⟩)
local macro_rules | `(tactic| walk_at "g") => `(tactic| repeat (first | refine ⟨_, rfl, ?_⟩ | refine ⟨_, _, rfl, rfl, ?_⟩ | refine ⟨Or.inr (by decide), ?_⟩ | refine ⟨Or.inl (by decide), ?_⟩ | refine ⟨(by decide : (0 : Int) < _), ?_⟩ | refine ⟨(⟨by decide, by decide⟩ : CDiv _ _), ?_⟩ | refine ⟨(⟨by decide, by decide, by decide⟩ : CPow _ _), ?_⟩ | refine Or.inl ⟨_, rfl, ?_⟩ | refine ⟨rfl, ?_⟩ | walk_at "ix" | walk_at "ixt" | walk_at "len" | fail "g"))
local macro_rules | `(tactic| walk_at "if") => `(tactic| refine ite2 (fun e => ?_) (fun e => ?_))
section
variable {P : Program} {w : World} {K : PySem.W.Frag} {mg : Str → Option Value} {base : Heap}
/-- a key that stands -/
def sParts : Str := "_parts"
def KeyAt (C : Addr) (M : Ms) (H : Hp) (k : V) (f : Fm) : Prop := ∃ a dx u, k = .ref a ∧ ¬ M a ∧ H a = some (.ins C dx [(sParts, u)]) ∧ Rp M H u f.enc ∧ goodKey f
theorem KeyAt.sx {C : Addr} {M : Ms} {H H' : Hp} {k : V} {f : Fm} (h : KeyAt C M H k f) (s : Sx M H H') : KeyAt C M H' k f := by
  obtain ⟨a, dx, u, e, n, ha, r, g⟩ := h
  exact ⟨a, dx, u, e, n, s _ _ n ha, r.sx s, g⟩
def sp_init (U : TMany K mg w) (C : Addr) : Sp := fun vs H Q _ => ∃ (a dx : Addr) (v : V) (f : Fm) (M : Ms), vs = [.ref a, v] ∧ H a = some (.ins C dx []) ∧ Rp M H v f.enc ∧ Mk M H ∧ goodKey f ∧ ∀ H', Same H H' → Q .non (upd H' a (.ins C dx [(sParts, v)]))
theorem ok_init (T : Txt K mg) (U : TMany K mg w) : FnOk P w K mg base CX0 8 T.f_Key___init__ T.d_Key___init__ ["self", "form"] (sp_init U T.C_Key) := by
  have G_check_form := ok_check_form (P := P) (w := w) (base := base) T U
  have G_names_in := ok_names_in (P := P) (w := w) (base := base) T U 5
  refine T.F_Key___init__.ok sc_Key___init__ (fun vs H Q E h => ?_) (fun cdv A outer s H vs Q E hr h => ?_)
  · obtain ⟨_, _, _, _, _, rfl, _⟩ := h
    rfl
  · obtain ⟨a, dx, v, f, M, rfl, ha, hR, hM, hg, q⟩ := h
    refine ⟨_, (pss_cons (ps_expr (pe_call G_check_form (hr.mono (by omega)) (by rfl) T.g_check_form T.F_check_form.kp T.b_check_form .nil pass0 (pa_cons (pv 1) pa_nil)))
      (pss_cons (ps_for PassesOwn.never rfl (pi_tupK (K := K) rfl (pe_call G_names_in (hr.mono (by omega)) (by rfl) T.g_names_in T.F_names_in.kp T.b_names_in .nil pass0 (pa_cons (pv 1) pa_nil))) (pg_name (i := 2) sc_Key___init__.nd rfl (Or.inl rfl)) (pss_one (ps_if (pt_cmpR (op_notIn_seqK (K := K) rfl) (pv 2) (pe_tup (pa_cons pe_str (pa_cons pe_str pa_nil))) (by rfl)) (pss_one ps_never) pss_nil)))
      (pss_one (ps_fld (pv 0) (pv 1) rfl)))), ?_⟩
    walk_at "g"
    refine ⟨v, f, M, rfl, hR, hM, f.ok_imp isKN_nm hg.2, hg.1, fun H1 s1 => ?_⟩
    walk_at "g"
    refine ⟨v, f, M, rfl, hR.sx (Sx.same s1), hM.gr (Gr.same s1), hg.1, by decide, fun w' H2 d s2 hR2 hd => ?_⟩
    subst hd
    obtain ⟨b, xs, rfl, nb, hb, rx⟩ := Rp.tupN hR2
    have ex := rx.ofStrs
    subst ex
    walk_at "g"
    refine ⟨⟨_, .inl hb⟩, ?_⟩
    refine for_tup (K := K) (a := b) (xs := f.names.map V.str) (fun i σ H' => ∃ y, σ = [some (.ref a), some v, y] ∧ Same H2 H') ⟨none, rfl, Same.refl _⟩ (fun i σ H' _ p => ?_) (fun i x σ H' hx p => ?_) (fun σ H' p => ?_)
    · obtain ⟨y, rfl, hs⟩ := p
      exact same_sqt hs (.inl hb)
    · obtain ⟨y, rfl, hs⟩ := p
      rw [List.getElem?_map] at hx
      obtain ⟨nm, hn, rfl⟩ := Option.map_eq_some_iff.mp hx
      have hk : isKN nm := f.names_ok hg.2 nm (List.mem_of_getElem? hn)
      walk_at "g"
      refine ⟨by decide, fun p hp => ?_⟩
      refine ⟨p, _, rfl, .inr (SqT.of upd_same), rfl, rfl, ?_⟩
      have e1 : inV (.str nm) [.str sItem, .str sAt] = true := by rcases hk with rfl | rfl <;> decide +kernel
      refine ⟨_, rfl, ?_⟩
      show if (!inV (.str nm) [.str sItem, .str sAt]) = true then _ else _
      rw [e1]
      exact ⟨_, rfl, hs.trans (same_new hp)⟩
    · obtain ⟨y, rfl, hs⟩ := p
      walk_at "g"
      have s3 := s1.trans (s2.trans hs)
      exact ⟨a, _, dx, [], rfl, s3 _ _ ha, T.cl_Key, T.nA_Key__parts, by decide, q _ s3⟩
def sp_parts (T : Txt K mg) : Sp := fun vs H Q _ => ∃ (k : V) (f : Fm) (M : Ms), vs = [k] ∧ KeyAt T.C_Key M H k f ∧ ∀ v, Rp M H v f.enc → Q v H
theorem ok_parts (T : Txt K mg) : FnOk P w K mg base CX0 1 T.f_Key_parts T.d_Key_parts ["self"] (sp_parts T) := by
  refine T.F_Key_parts.ok sc_Key_parts (fun vs H Q E h => ?_) (fun cdv A outer s H vs Q E hr h => ?_)
  · obtain ⟨_, _, _, rfl, _⟩ := h
    rfl
  · obtain ⟨k, f, M, rfl, ⟨a, dx, u, rfl, na, ha, hR, hg⟩, q⟩ := h
    refine ⟨_, (pss_one (ps_ret (pe_fldK (K := K) rfl (pv 0) rfl))), ?_⟩
    walk_at "g"
    exact ⟨a, _, dx, _, u, rfl, ha, T.cl_Key, T.nA_Key__parts, rfl, q u hR⟩
def sp_kcall (T : Txt K mg) : Sp := fun vs H Q _ => ∃ (k : V) (f : Fm) (M : Ms) (i a : Int), vs = [k, .int i, .int a] ∧ KeyAt T.C_Key M H k f ∧ ∀ H', Same H H' → Q (.int (kval f i a)) H'
theorem ok_kcall (T : Txt K mg) : FnOk P w K mg base CX0 8 T.f_Key___call__ T.d_Key___call__ ["self", "item", "at"] (sp_kcall T) := by
  have G__key_value := ok_key_value (P := P) (w := w) (base := base) T
  refine T.F_Key___call__.ok sc_Key___call__ (fun vs H Q E h => ?_) (fun cdv A outer s H vs Q E hr h => ?_)
  · obtain ⟨_, _, _, _, _, rfl, _⟩ := h
    rfl
  · obtain ⟨k, f, M, i, b, rfl, ⟨a, dx, u, rfl, na, ha, hR, hg⟩, q⟩ := h
    refine ⟨_, (pss_one (ps_ret (pe_call G__key_value (hr.mono (by omega)) (by rfl) T.g__key_value T.F__key_value.kp T.b__key_value .nil pass0 (pa_cons (pe_fldK (K := K) rfl (pv 0) rfl) (pa_cons (pv 1) (pa_cons (pv 2) pa_nil)))))), ?_⟩
    walk_at "g"
    refine ⟨a, _, dx, _, u, rfl, ha, T.cl_Key, T.nA_Key__parts, rfl, ?_⟩
    walk_at "g"
    exact ⟨u, f, M, i, b, rfl, hR, hg, q⟩
/-- idents -/
def wsOf (f : Fm) (ns : List Int) : List Int := ns.mapIdx fun i n => kval f n (i : Nat)
def idsOf (ws : List Int) : List PyData := ws.mapIdx fun i w => .tuple [.int w, .int ((ws.take i).count w : Nat)]
def identD (f : Fm) (ns : List Int) : PyData := .tuple (idsOf (wsOf f ns))
def sp_ids (T : Txt K mg) : Sp := fun vs H Q _ => ∃ (k v : V) (f : Fm) (ns : List Int) (M : Ms), vs = [k, v] ∧ KeyAt T.C_Key M H k f ∧ RowAt M H v ns ∧ ns.length ≤ 5 ∧ Mk M H ∧ Pu M H (fun d => d = identD f ns) Q
theorem ok_ids (T : Txt K mg) : FnOk P w K mg base CX0 9 T.f__idents T.d__idents ["key", "row"] (sp_ids T) := by
  have G_Key___call__ := ok_kcall (P := P) (w := w) (base := base) T
  refine T.F__idents.ok sc__idents (fun vs H Q E h => ?_) (fun cdv A outer s H vs Q E hr h => ?_)
  · obtain ⟨_, _, _, _, _, rfl, _⟩ := h
    rfl
  · obtain ⟨k, v, f, ns, M, rfl, hK, hR, h5, hM, q⟩ := h
    obtain ⟨b, rfl, nb, hb⟩ := hR
    refine ⟨_, (pss_cons (ps_set (i := 2) sc__idents.nd rfl (Or.inr rfl) (pe_lc (own := [("at", 3), ("item", 4)]) (g := gTup K 2 (gCons (gName 3) (gCons (gName 4) gNil))) (tt := tYes) (by rfl) sc__idents.nd (pi_enumTK (K := K) rfl (by rfl) T.m_enumerate (pa_cons (pv 1) pa_nil)) (blkOk_by (own := [("at", 3), ("item", 4)]) (N := ["key", "row", "values", "at", "item", "value"]) (sc := defScope s__idents) (by decide +kernel)) (fun _ _ _ _ _ => (pg_tupK (K := K) rfl rfl (pgs_cons (pg_name (i := 3) sc__idents.nd rfl (Or.inl rfl)) (pgs_cons (pg_name (i := 4) sc__idents.nd rfl (Or.inl rfl)) pgs_nil)))) (fun _ _ _ _ _ => pts_nil) (fun _ _ _ _ _ => (pe_callOI ⟨T.a_Key___call__, T.i_Key___call__, T.n_Key___call__⟩ G_Key___call__ T.b_Key___call__ (hr.mono (by omega)) pass0 (pv 0) (pa_cons (pv 4) (pa_cons (pv 3) pa_nil))))))
      (pss_one (ps_ret (pe_callTy (call_tupleK (K := K) rfl) (by rfl) T.m_tuple (by decide +kernel) (pa_cons (pe_lc (own := [("at", 3), ("value", 5)]) (g := gTup K 2 (gCons (gName 3) (gCons (gName 5) gNil))) (tt := tYes) (by rfl) sc__idents.nd (pi_enumK (K := K) rfl (by rfl) T.m_enumerate (pa_cons (pv 2) pa_nil)) (blkOk_by (own := [("at", 3), ("value", 5)]) (N := ["key", "row", "values", "at", "item", "value"]) (sc := defScope s__idents) (by decide +kernel)) (fun _ _ _ _ _ => (pg_tupK (K := K) rfl rfl (pgs_cons (pg_name (i := 3) sc__idents.nd rfl (Or.inl rfl)) (pgs_cons (pg_name (i := 5) sc__idents.nd rfl (Or.inl rfl)) pgs_nil)))) (fun _ _ _ _ _ => pts_nil) (fun _ _ _ _ _ => (pe_tup (pa_cons (pv 5) (pa_cons (pe_bmK2 (K := K) rfl PySem.F.plainAttrs_list PySem.F.slot_list_count PySem.F.type_list_count (mt_lcountK (K := K) rfl) (pe_slice (sl_listK (K := K) rfl) (pv 2) po_none (po_some (pv 3))) (pa_cons (pv 5) pa_nil)) pa_nil))))) pa_nil))))), ?_⟩
    walk_at "g"
    refine ⟨b, _, rfl, .inl hb, fun D hD => ?_⟩
    have lw : ((wsOf f ns).map V.int).length = (ns.map V.int).length := by
      rw [List.length_map, List.length_map]
      exact List.length_mapIdx
    refine lc_enumTV (ys := (wsOf f ns).map V.int) hD (.inl hb) lw (by rw [List.length_map]; omega) (fun i x y T' H' C N hx hy hT hs hDn hC => ?_) (fun H' hs hD' => ?_)
    · rw [List.getElem?_map] at hx hy
      obtain ⟨n, hn, rfl⟩ := Option.map_eq_some_iff.mp hx
      obtain ⟨w', hw, rfl⟩ := Option.map_eq_some_iff.mp hy
      have ew : w' = kval f n (i : Nat) := by
        unfold wsOf at hw
        rw [List.getElem?_mapIdx, hn] at hw
        exact (Option.some.inj hw).symm
      subst ew
      refine ⟨T', _, rfl, SqT.of upd_same, rfl, _, _, rfl, _, _, rfl, rfl, ?_⟩
      refine ⟨rfl, ?_⟩
      walk_at "g"
      have hK' := hK.sx (Sx.same (hs.trans (same_new (o := .tup [.int (i : Nat), .int n]) hT)))
      obtain ⟨a0, dx, u, rfl, na, ha, hu, hg⟩ := hK'
      refine ⟨a0, dx, [(sParts, u)], rfl, ?_⟩
      walk_at "g"
      refine ⟨ha, ?_⟩
      exact ⟨_, f, M, n, (i : Nat), rfl, ⟨a0, dx, u, rfl, na, ha, hu, hg⟩, fun H2 s2 => hC H2 s2⟩
    · walk_at "g"
      refine ⟨D, _, rfl, SqL.of hD', fun D2 hD2 => ?_⟩
      have l2 : (idsOf (wsOf f ns)).length = ((wsOf f ns).map V.int).length := by
        rw [List.length_map]
        exact List.length_mapIdx
      have lw5 : ((wsOf f ns).map V.int).length ≤ 5 := by rw [lw, List.length_map]; exact h5
      have hM' := hM.gr (Gr.same hs)
      refine lc_enumD (ys := idsOf (wsOf f ns)) M hM' hD2 (SqL.of hD') l2 (by omega) (fun i x y T' H2 C N hx hy hT s1 hMk hC => ?_) (fun H2 s2 hL => ?_)
      · rw [List.getElem?_map] at hx
        obtain ⟨w', hw, rfl⟩ := Option.map_eq_some_iff.mp hx
        have ey : y = .tuple [.int w', .int (((wsOf f ns).take i).count w' : Nat)] := by
          unfold idsOf at hy
          rw [List.getElem?_mapIdx, hw] at hy
          exact (Option.some.inj hy).symm
        subst ey
        have eD : upd H2 T' (.tup [.int (i : Nat), .int w']) D = some (.lst ((wsOf f ns).map V.int)) := same_new hT _ _ (s1 _ _ hD')
        refine ⟨T', _, rfl, SqT.of upd_same, rfl, _, _, rfl, _, _, rfl, rfl, ?_⟩
        refine ⟨rfl, ?_⟩
        walk_at "g"
        refine ⟨D, _, rfl, SqL.of eD, fun p hp => ⟨.inl ⟨rfl, _, SqL.of upd_same⟩, ?_⟩⟩
        refine ⟨_, rfl, p, (wsOf f ns).take i, w', rfl, rfl, SqL.of (by rw [upd_same, cut_hi, List.map_take]), ?_⟩
        refine ⟨szK rfl, fun p2 hp2 => ?_⟩
        have n1 : Same (upd H2 T' (.tup [.int (i : Nat), .int w'])) (upd (upd H2 T' (.tup [.int (i : Nat), .int w'])) p (.lst (cutV ((wsOf f ns).map V.int) none (some (i : Nat))))) := same_new hp
        refine hC _ _ (n1.trans (same_new hp2)) (.tup ((hMk.gr (Gr.same n1)).out hp2) (.inl upd_same) (.cons (.int _) (.one (.int _))))
      · walk_at "g"
        obtain ⟨nD, xs, eD2, rD⟩ := hL
        refine ⟨D2, xs, rfl, .inl ⟨SqL.of eD2, fun p hp => ?_⟩⟩
        have n1 : Same H2 (upd H2 p (.tup xs)) := same_new hp
        exact q _ _ _ (hs.trans (s2.trans n1)) (.tup ((hM'.gr (Gr.same s2)).out hp) (.inl upd_same) (rD.sx (Sx.same n1))) rfl
end
end D

namespace D
open PySem PySem.Spec PyProof.Rows L2
local macro_rules | `(tactic| walk_at "st") => `(tactic| first | exact SqT.of (by assumption) | exact Or.inl (by assumption) | exact SqT.of upd_same | fail "st")
local macro_rules | `(tactic| walk_at "ixt") => `(tactic| refine ⟨_, _, _, _, rfl, rfl, (by walk_at "st" : SqT _ _ _ _), by rfl, ?_⟩)
local macro_rules | `(tactic| walk_at "sq") => `(tactic| first | exact SqL.of (by assumption) | assumption | exact Or.inl (by assumption) | exact SqL.of upd_same | fail "sq")
local macro_rules | `(tactic| walk_at "ix") => `(tactic| refine ⟨_, _, _, _, rfl, rfl, (by walk_at "sq" : SqL _ _ _ _), by rfl, ?_⟩)
local macro_rules | `(tactic| walk_at "set") => `(tactic| refine ⟨_, _, _, _, rfl, rfl, by first | assumption | exact upd_same, by rfl, ?_⟩)
local macro_rules | `(tactic| walk_at "len") => `(tactic| refine ⟨_, _, rfl, Or.inl (by walk_at "sq" : SqL _ _ _ _), ?_⟩)
local macro_rules | `(tactic| walk_at "g") => `(tactic| repeat (first | refine ⟨_, rfl, ?_⟩ | refine ⟨_, _, rfl, rfl, ?_⟩ | refine ⟨Or.inr (by decide), ?_⟩ | refine ⟨Or.inl (by decide), ?_⟩ | refine ⟨(by decide : (0 : Int) < _), ?_⟩ | refine ⟨(⟨by decide, by decide⟩ : CDiv _ _), ?_⟩ | refine ⟨(⟨by decide, by decide, by decide⟩ : CPow _ _), ?_⟩ | refine Or.inl ⟨_, rfl, ?_⟩ | refine ⟨rfl, ?_⟩ | walk_at "ix" | walk_at "ixt" | walk_at "len" | fail "g"))
local macro_rules | `(tactic| walk_at "if") => `(tactic| refine ite2 (fun e => ?_) (fun e => ?_))
section
variable {P : Program} {w : World} {K : PySem.W.Frag} {mg : Str → Option Value} {base : Heap}

theorem putK_le' {κ : Type} [DecidableEq κ] (kvs : List (κ × V)) (k : κ) (v : V) : (putK kvs k v).length ≤ kvs.length + 1 := length_putK kvs k v
theorem Rp.newT' {M : Ms} {H : Hp} {p : Addr} {us : List V} {ds : List PyData} (hp : ¬ M p) (r : RpAll M (upd H p (.tup us)) us ds) : Rp M (upd H p (.tup us)) (.ref p) (.tuple ds) := .tup hp (.inl upd_same) r
theorem idsOf_eq (ws : List Int) : idsOf ws = (idp ws).map pD := by
  unfold idsOf idp
  apply List.ext_getElem?
  intro i
  rw [List.getElem?_map, List.getElem?_mapIdx, List.getElem?_mapIdx]
  cases ws[i]? <;> rfl
def sp_matches : Sp := fun vs H Q _ => ∃ (v1 v2 : V) (B N : List IP) (M : Ms), vs = [v1, v2] ∧ Rp M H v1 (.tuple (B.map pD)) ∧ Rp M H v2 (.tuple (N.map pD)) ∧ B.Nodup ∧ B.length ≤ 1000 ∧ N.length ≤ 1000 ∧ Mk M H ∧ Pu M H (fun d => d = .list ((mt B N).map pD)) Q
theorem ok_matches (T : Txt K mg) : FnOk P w K mg base CX0 3 T.f__matches T.d__matches ["before", "behind"] sp_matches := by
  refine T.F__matches.ok sc__matches (fun vs H Q E h => ?_) (fun cdv A outer s H vs Q E hr h => ?_)
  · obtain ⟨_, _, _, _, _, rfl, _⟩ := h
    rfl
  · obtain ⟨v1, v2, B, N, M, rfl, h1, h2, hnd, lB, lN, hM, q⟩ := h
    obtain ⟨a, xs, rfl, na, ha, rx⟩ := Rp.tupX h1
    obtain ⟨b, ys, rfl, nb, hb, ry⟩ := Rp.tupX h2
    have lx := rx.length
    rw [List.length_map] at lx
    have ly := ry.length
    rw [List.length_map] at ly
    refine ⟨_, (pss_cons (ps_set (i := 2) sc__matches.nd rfl (Or.inr rfl) (pe_dcT (own := [("place", 3), ("ident", 4)]) (g := gTup K 2 (gCons (gName 3) (gCons (gName 4) gNil))) (tt := tYes) (hu_of hr) (by rfl) sc__matches.nd (pi_enumTK (K := K) rfl (by rfl) T.m_enumerate (pa_cons (pv 0) pa_nil)) (blkOk_by (own := [("place", 3), ("ident", 4)]) (N := ["before", "behind", "places", "place", "ident"]) (sc := defScope s__matches) (by decide +kernel)) (fun _ _ _ _ _ => (pg_tupK (K := K) rfl rfl (pgs_cons (pg_name (i := 3) sc__matches.nd rfl (Or.inl rfl)) (pgs_cons (pg_name (i := 4) sc__matches.nd rfl (Or.inl rfl)) pgs_nil)))) (fun _ _ _ _ _ => pts_nil) (fun _ _ _ _ _ => (pv 4)) (fun _ _ _ _ _ => (pv 3))))
      (pss_one (ps_ret (pe_lc (own := [("place", 3), ("ident", 4)]) (g := gTup K 2 (gCons (gName 3) (gCons (gName 4) gNil)))  (by rfl) sc__matches.nd (pi_enumTK (K := K) rfl (by rfl) T.m_enumerate (pa_cons (pv 1) pa_nil)) (blkOk_by (own := [("place", 3), ("ident", 4)]) (N := ["before", "behind", "places", "place", "ident"]) (sc := defScope s__matches) (by decide +kernel)) (fun _ _ _ _ _ => (pg_tupK (K := K) rfl rfl (pgs_cons (pg_name (i := 3) sc__matches.nd rfl (Or.inl rfl)) (pgs_cons (pg_name (i := 4) sc__matches.nd rfl (Or.inl rfl)) pgs_nil)))) (fun _ _ _ _ _ => (pts_one (pt_cmp (pc_din (hu_of hr) (pv 4) (pv 2))))) (fun _ _ _ _ _ => (pe_tup (pa_cons (pe_dget (hu_of hr) (pv 2) (pv 4) (fun _ _ => rfl)) (pa_cons (pv 3) pa_nil)))))))), ?_⟩
    walk_at "g"
    refine ⟨a, _, rfl, .inl (.inl ha), fun D hD => ?_⟩
    refine enumT_loop (xs := xs) (fun i H' => Same H H' ∧ ∃ kvs, H' D = some (.dT kvs) ∧ kvs.length ≤ i ∧ Tells kvs (B.take i)) ⟨same_new hD, [], upd_same, Nat.le_refl _, tells_nil⟩ (fun i H' _ p => .inl (.inl (p.1 _ _ ha))) (fun i x T' H' hx hT p => ?_) (fun H1 p => ?_)
    · obtain ⟨s1, kvs, eD, lk, tl⟩ := p
      obtain ⟨d, hd, rd⟩ := rx.get hx
      rw [List.getElem?_map] at hd
      obtain ⟨id, hid, rfl⟩ := Option.map_eq_some_iff.mp hd
      obtain ⟨t, xt, rfl, nt, ht, rt⟩ := Rp.tupX rd
      obtain ⟨u1, u2, rfl, r1, r2⟩ := rt.inv2
      cases r1
      cases r2
      have hi : i < B.length := (List.getElem?_eq_some_iff.mp hid).1
      have s2 : Same H' (upd H' T' (.tup [.int (i : Nat), .ref t])) := same_new hT
      refine ⟨T', _, rfl, SqT.of upd_same, rfl, _, _, rfl, _, _, rfl, rfl, ?_⟩
      refine ⟨rfl, ?_⟩
      walk_at "g"
      refine ⟨kvs, kk id, t, rfl, s2 _ _ (s1 _ _ ht), s2 _ _ eD, small1000000 (by omega), same_put (s1.trans s2) hD, _, upd_same, ?_, tells_put hnd hid tl⟩
      have := putK_le' kvs (kk id) (.int (i : Nat))
      omega
    · obtain ⟨s1, kvs, eD, lk, tl⟩ := p
      rw [lx, List.take_length] at tl
      walk_at "g"
      refine ⟨b, _, rfl, .inl (.inl (s1 _ _ hb)), fun D2 hD2 => ?_⟩
      refine enumT_loop (xs := ys) (fun i H' => Acc M H1 D2 H' ((mt B (N.take i)).map pD)) (by
        have := Acc.new (M := M) hD2
        exact this) (fun i H' _ p => .inl (.inl (p.same _ _ (s1 _ _ hb)))) (fun i x T' H' hx hT p => ?_) (fun H2 p => ?_)
      · obtain ⟨d, hd, rd⟩ := ry.get hx
        rw [List.getElem?_map] at hd
        obtain ⟨id, hid, rfl⟩ := Option.map_eq_some_iff.mp hd
        obtain ⟨t, xt, rfl, nt, ht, rt⟩ := Rp.tupX rd
        obtain ⟨u1, u2, rfl, r1, r2⟩ := rt.inv2
        cases r1
        cases r2
        have hi : i < N.length := (List.getElem?_eq_some_iff.mp hid).1
        have s2 : Same H' (upd H' T' (.tup [.int (i : Nat), .ref t])) := same_new hT
        have p2 := p.keep s2
        have s3 := p2.same
        refine ⟨T', _, rfl, SqT.of upd_same, rfl, _, _, rfl, _, _, rfl, rfl, ?_⟩
        refine ⟨rfl, ?_⟩
        walk_at "g"
        have g := DGet.t (k := kk id) (s3 _ _ eD) (s3 _ _ (s1 _ _ ht))
        refine ⟨D, _, rfl, g, ?_⟩
        rw [tl id] at g ⊢
        rw [mt_step B hid]
        unfold mst
        cases hp : pos B id with
        | none =>
          walk_at "g"
          simpa using p2
        | some j =>
          rw [hp] at g
          walk_at "g"
          refine ⟨D, _, rfl, g, ?_⟩
          walk_at "g"
          refine ⟨szK rfl, fun p3 hp3 => ?_⟩
          have p4 := p2.keep (same_new (o := .tup [.int (j : Nat), .int (i : Nat)]) hp3)
          have lmt := mt_len B (N.take i)
          rw [List.length_take] at lmt
          have fin := p4.put (v := .ref p3) (y := pD ((j : Int), (i : Int))) (Rp.newT' ((p2.mk (hM.gr (Gr.same s1))).out hp3) (.cons (.int _) (.one (.int _)))) (by rw [List.length_map]; omega)
          rw [List.map_append]
          exact fin
      · rw [ly, List.take_length] at p
        walk_at "g"
        exact q _ _ _ (s1.trans p.same) (p.rp (hM.gr (Gr.same s1))) rfl

/-- idents of a row -/
def ids (f : Fm) (ns : List Int) : List IP := idp (wsOf f ns)
theorem ids_len (f : Fm) (ns : List Int) : (ids f ns).length = ns.length := by
  unfold ids
  rw [idp_len]
  exact List.length_mapIdx
def mts (f : Fm) (o n : List Int) : List IP := mt (ids f o) (ids f n)
theorem RpAll.pairX {M : Ms} {H : Hp} {vs : List V} {ps : List IP} {i : Nat} {v : V} (h : RpAll M H vs (ps.map pD)) (hv : vs[i]? = some v) : ∃ p t, ps[i]? = some p ∧ v = .ref t ∧ H t = some (.tup [.int p.1, .int p.2]) := by
  obtain ⟨d, hd, rd⟩ := h.get hv
  rw [List.getElem?_map] at hd
  obtain ⟨id, hid, rfl⟩ := Option.map_eq_some_iff.mp hd
  obtain ⟨t, xt, rfl, nt, ht, rt⟩ := Rp.tupX rd
  obtain ⟨u1, u2, rfl, r1, r2⟩ := rt.inv2
  cases r1
  cases r2
  exact ⟨id, t, hid, rfl, ht⟩
/-- pairs of places -/
def inB (o n : List Int) (ms : List IP) : Prop := ∀ p ∈ ms, ∃ i j : Nat, i < o.length ∧ j < n.length ∧ p = ((i : Int), (j : Int))
theorem mts_in (f : Fm) (o n : List Int) : inB o n (mts f o n) := fun p hp => by
  obtain ⟨i, j, hi, hj, e⟩ := mt_mem hp
  rw [ids_len] at hi hj
  exact ⟨i, j, hi, hj, e⟩
def sp_slipped : Sp := fun vs H Q _ => ∃ (v1 v2 v3 : V) (ms : List IP) (o n : List Int) (M : Ms), vs = [v1, v2, v3] ∧ Rp M H v1 (.list (ms.map pD)) ∧ RowAt M H v2 o ∧ RowAt M H v3 n ∧ inB o n ms ∧ ms.length ≤ 1000 ∧ Mk M H ∧ Pu M H (fun d => d = .list ((slp o n ms).map pD)) Q
theorem ok_slipped (T : Txt K mg) : FnOk P w K mg base CX0 3 T.f__slipped T.d__slipped ["matches", "old", "new"] sp_slipped := by
  refine T.F__slipped.ok sc__slipped (fun vs H Q E h => ?_) (fun cdv A outer s H vs Q E hr h => ?_)
  · obtain ⟨_, _, _, _, _, _, _, rfl, _⟩ := h
    rfl
  · obtain ⟨v1, v2, v3, ms, o, n, M, rfl, h1, h2, h3, hin, lm, hM, q⟩ := h
    obtain ⟨a, xs, rfl, na, ha, rx⟩ := Rp.lstN h1
    obtain ⟨b, rfl, nb, hb⟩ := h2
    obtain ⟨c, rfl, nc, hc⟩ := h3
    have lx := rx.length
    rw [List.length_map] at lx
    refine ⟨_, (pss_one (ps_ret (pe_lc (own := [("place", 3), ("at", 4)]) (g := gTup K 2 (gCons (gName 3) (gCons (gName 4) gNil)))  (by rfl) sc__slipped.nd (pi_listK (K := K) rfl (pv 0)) (blkOk_by (own := [("place", 3), ("at", 4)]) (N := ["matches", "old", "new", "place", "at"]) (sc := defScope s__slipped) (by decide +kernel)) (fun _ _ _ _ _ => (pg_tupK (K := K) rfl rfl (pgs_cons (pg_name (i := 3) sc__slipped.nd rfl (Or.inl rfl)) (pgs_cons (pg_name (i := 4) sc__slipped.nd rfl (Or.inl rfl)) pgs_nil)))) (fun _ _ _ _ _ => (pts_one (pt_cmpR op_ne (pe_ix (ix_tupK (K := K) rfl) (pv 1) (pv 3) (fun _ _ => rfl)) (pe_ix (ix_tupK (K := K) rfl) (pv 2) (pv 4) (fun _ _ => rfl)) (nomark _)))) (fun _ _ _ _ _ => (pe_tup (pa_cons (pe_ix (ix_tupK (K := K) rfl) (pv 1) (pv 3) (fun _ _ => rfl)) (pa_cons (pe_ix (ix_tupK (K := K) rfl) (pv 2) (pv 4) (fun _ _ => rfl)) pa_nil))))))), ?_⟩
    walk_at "g"
    refine ⟨⟨_, .inl ha⟩, fun D hD => ?_⟩
    refine list_loop (xs := xs) (fun i H' => Acc M H D H' ((slp o n (ms.take i)).map pD)) (by
        have := Acc.new (M := M) hD
        exact this) (fun i H' _ p => .inl (sx_rd (Sx.same p.same) na ha)) (fun i x H' hx p => ?_) (fun H2 p => ?_)
    · obtain ⟨id, t, hid, rfl, ht⟩ := rx.pairX hx
      obtain ⟨i1, j1, hi1, hj1, rfl⟩ := hin id (List.mem_of_getElem? hid)
      have hi : i < ms.length := (List.getElem?_eq_some_iff.mp hid).1
      have s1 := p.same
      refine ⟨t, _, rfl, .inl (.inl (s1 _ _ ht)), rfl, _, _, rfl, _, _, rfl, rfl, ?_⟩
      refine ⟨rfl, ?_⟩
      walk_at "g"
      have e1 : o[i1]? = some o[i1] := List.getElem?_eq_getElem hi1
      have e2 : n[j1]? = some n[j1] := List.getElem?_eq_getElem hj1
      have a1 : atI (o.map V.int) (i1 : Int) = some (.int o[i1]) := atI_nat (by rw [List.getElem?_map, e1]; rfl)
      have a2 : atI (n.map V.int) (j1 : Int) = some (.int n[j1]) := atI_nat (by rw [List.getElem?_map, e2]; rfl)
      have t1 : SqT K H' b (o.map V.int) := .inl (sx_rd (Sx.same s1) nb hb)
      have t2 : SqT K H' c (n.map V.int) := .inl (sx_rd (Sx.same s1) nc hc)
      have hst : sst o n ((i1 : Int), (j1 : Int)) = if o[i1] = n[j1] then [] else [(o[i1], n[j1])] := by
        unfold sst
        rw [atI0_nat e1, atI0_nat e2]
      refine ⟨_, _, _, _, rfl, rfl, t1, a1, ?_⟩
      walk_at "g"
      refine ⟨_, _, _, _, rfl, rfl, t2, a2, ?_⟩
      walk_at "g"
      rw [slp_step o n hid, hst]
      by_cases ce : o[i1] = n[j1]
      · rw [decide_eq_true (show V.int o[i1] = V.int n[j1] by rw [ce]), if_pos ce, List.append_nil]
        walk_at "g"
        exact p
      · rw [decide_eq_false (show ¬ V.int o[i1] = V.int n[j1] from fun z => ce (V.int.inj z)), if_neg ce, List.map_append]
        walk_at "g"
        refine ⟨_, _, _, _, rfl, rfl, t1, a1, ?_⟩
        walk_at "g"
        refine ⟨_, _, _, _, rfl, rfl, t2, a2, ?_⟩
        refine ⟨szK rfl, fun p3 hp3 => ?_⟩
        have p4 := p.keep (same_new (o := .tup [.int o[i1], .int n[j1]]) hp3)
        have ls := slp_len o n (ms.take i)
        rw [List.length_take] at ls
        exact p4.put (v := .ref p3) (y := pD (o[i1], n[j1])) (Rp.newT' ((p.mk hM).out hp3) (.cons (.int _) (.one (.int _)))) (by rw [List.length_map]; omega)
    · rw [lx, List.take_length] at p
      walk_at "g"
      exact q _ _ _ p.same (p.rp hM) rfl
theorem in_ints (n : Int) (acc : List Int) : inV (.int n) (acc.map V.int) = decide (n ∈ acc) := by
  unfold inV
  rw [List.any_map, Bool.eq_iff_iff, List.any_eq_true, decide_eq_true_iff]
  constructor
  · rintro ⟨x, hx, e⟩
    have e' : decide (x = n) = true := e
    rw [decide_eq_true_iff] at e'
    rw [← e']
    exact hx
  · intro h
    exact ⟨n, h, by show decide (n = n) = true; exact decide_eq_true rfl⟩
def sp_lost : Sp := fun vs H Q _ => ∃ (v1 v2 v3 : V) (ms : List IP) (o n : List Int) (M : Ms), vs = [v1, v2, v3] ∧ Rp M H v1 (.list (ms.map pD)) ∧ RowF M H v2 o ∧ RowAt M H v3 n ∧ n.length ≤ 1000 ∧ Mk M H ∧ Pu M H (fun d => d = .list ((lsts o n ms).map PyData.int)) Q
theorem ok_lost (T : Txt K mg) : FnOk P w K mg base CX0 3 T.f__lost T.d__lost ["matches", "old", "new"] sp_lost := by
  refine T.F__lost.ok sc__lost (fun vs H Q E h => ?_) (fun cdv A outer s H vs Q E hr h => ?_)
  · obtain ⟨_, _, _, _, _, _, _, rfl, _⟩ := h
    rfl
  · obtain ⟨v1, v2, v3, ms, o, n, M, rfl, h1, h2, h3, ln, hM, q⟩ := h
    obtain ⟨b, ob, rfl, nb, hb, ob1, ob2⟩ := h2
    obtain ⟨c, rfl, nc, hc⟩ := h3
    refine ⟨_, (pss_one (ps_ret (pe_lc (own := [("at", 3), ("item", 4)]) (g := gTup K 2 (gCons (gName 3) (gCons (gName 4) gNil)))  (by rfl) sc__lost.nd (pi_enumTK (K := K) rfl (by rfl) T.m_enumerate (pa_cons (pv 2) pa_nil)) (blkOk_by (own := [("at", 3), ("item", 4)]) (N := ["matches", "old", "new", "at", "item"]) (sc := defScope s__lost) (by decide +kernel)) (fun _ _ _ _ _ => (pg_tupK (K := K) rfl rfl (pgs_cons (pg_name (i := 3) sc__lost.nd rfl (Or.inl rfl)) (pgs_cons (pg_name (i := 4) sc__lost.nd rfl (Or.inl rfl)) pgs_nil)))) (fun _ _ _ _ _ => (pts_one (PW.pt (pw_and (pt_cmpR (op_in_seqK (K := K) rfl) (pv 4) (pv 1) (by rfl)) (pw_and1 (pt_cmpR (op_notInDK (K := K) rfl (hu65 hr)) (pe_tup (pa_cons (pe_mG ty_tup PySem.F.plainAttrs_tuple PySem.F.slot_tuple_index PySem.F.type_tuple_index (mt_tup_indexI (K := K) rfl) (pv 1) (pa_cons (pv 4) pa_nil)) (pa_cons (pv 3) pa_nil))) (pv 0) (by rfl))))))) (fun _ _ _ _ _ => (pv 4))))), ?_⟩
    walk_at "g"
    refine ⟨c, _, rfl, .inl hc, fun D hD => ?_⟩
    refine enumT_loop (xs := n.map V.int) (fun i H' => Acc M H D H' ((lsts o (n.take i) ms).map PyData.int)) (by
        have := Acc.new (M := M) hD
        exact this) (fun i H' _ p => .inl (sx_rd (Sx.same p.same) nc hc)) (fun i x T' H' hx hT p => ?_) (fun H2 p => ?_)
    · rw [List.getElem?_map] at hx
      obtain ⟨x, hxn, rfl⟩ := Option.map_eq_some_iff.mp hx
      have hi : i < n.length := (List.getElem?_eq_some_iff.mp hxn).1
      have s2 : Same H' (upd H' T' (.tup [.int (i : Nat), .int x])) := same_new hT
      have p2 := p.keep s2
      have s3 := p2.same
      have tb := s3 _ _ hb
      have rm := h1.sx (Sx.same s3)
      have ll := lsts_len o (n.take i) ms
      rw [List.length_take] at ll
      refine ⟨T', _, rfl, SqT.of upd_same, rfl, _, _, rfl, _, _, rfl, rfl, ?_⟩
      generalize upd H' T' (.tup [.int (i : Nat), .int x]) = H1 at p2 s3 tb rm
      refine ⟨rfl, ?_⟩
      walk_at "g"
      refine ⟨b, _, rfl, .inr (.inl (.inr ⟨ob, tb⟩)), rfl, flat_ints o, ?_⟩
      rw [in_ints, lsts_step o ms hxn]
      refine ⟨_, rfl, ?_⟩
      by_cases hm : x ∈ o
      · rw [decide_eq_true hm]
        walk_at "g"
        have hix := List.idxOf_lt_length_of_mem hm
        refine ⟨⟨b, ob, _, rfl, tb, ob1, ob2⟩, ?_⟩
        refine ⟨_, rfl, b, o, x, o.idxOf x, rfl, rfl, .inl (.inr ⟨ob, tb⟩), by rw [List.getElem?_eq_getElem hix, List.getElem_idxOf hix], fun m hm1 hm2 => ?_, ?_⟩
        · have h1 := (List.getElem?_eq_some_iff.mp hm2)
          have h2 := List.not_of_lt_findIdx hm1
          rw [h1.2] at h2
          simp at h2
        walk_at "g"
        refine ⟨szK rfl, fun p3 hp3 => ?_⟩
        have p4 := p2.keep (same_new (o := .tup [.int (o.idxOf x : Nat), .int (i : Nat)]) hp3)
        have n3 : Same H1 (upd H1 p3 (.tup [.int (o.idxOf x : Nat), .int (i : Nat)])) := same_new hp3
        have r3 : Rp M (upd H1 p3 (.tup [.int (o.idxOf x : Nat), .int (i : Nat)])) (.ref p3) (pD (((o.idxOf x : Nat) : Int), (i : Int))) := Rp.newT' ((hM.gr (Gr.same s3)).out hp3) (.cons (.int _) (.one (.int _)))
        refine ⟨v1, rfl, _, _, Rp.dp _ _ r3, Rp.dp _ _ (rm.sx (Sx.same n3)), pD_shaped _, pDs_shapedL _, ?_⟩
        rw [pD_any]
        refine ⟨_, rfl, ?_⟩
        by_cases hn : (((o.idxOf x : Nat) : Int), (i : Int)) ∈ ms
        · rw [decide_eq_true hn]
          have e0 : lst1 o ms x i = [] := if_neg fun z => z.2 hn
          rw [e0, List.append_nil]
          exact p4
        · rw [decide_eq_false hn]
          have e0 : lst1 o ms x i = [x] := if_pos ⟨hm, hn⟩
          rw [e0, List.map_append]
          walk_at "g"
          exact p4.put (v := .int x) (y := .int x) (.int x) (by rw [List.length_map]; omega)
      · rw [decide_eq_false hm]
        have e0 : lst1 o ms x i = [] := if_neg fun z => hm z.1
        rw [e0, List.append_nil]
        exact p2
    · rw [List.length_map, List.take_length] at p
      walk_at "g"
      exact q _ _ _ p.same (p.rp hM) rfl
end
end D

namespace D
open PySem PySem.Spec PyProof.Rows L2
local macro_rules | `(tactic| walk_at "st") => `(tactic| first | exact SqT.of (by assumption) | exact Or.inl (by assumption) | exact SqT.of upd_same | fail "st")
local macro_rules | `(tactic| walk_at "ixt") => `(tactic| refine ⟨_, _, _, _, rfl, rfl, (by walk_at "st" : SqT _ _ _ _), by rfl, ?_⟩)
local macro_rules | `(tactic| walk_at "sq") => `(tactic| first | exact SqL.of (by assumption) | assumption | exact Or.inl (by assumption) | exact SqL.of upd_same | fail "sq")
local macro_rules | `(tactic| walk_at "ix") => `(tactic| refine ⟨_, _, _, _, rfl, rfl, (by walk_at "sq" : SqL _ _ _ _), by rfl, ?_⟩)
local macro_rules | `(tactic| walk_at "set") => `(tactic| refine ⟨_, _, _, _, rfl, rfl, by first | assumption | exact upd_same, by rfl, ?_⟩)
local macro_rules | `(tactic| walk_at "len") => `(tactic| refine ⟨_, _, rfl, Or.inl (by walk_at "sq" : SqL _ _ _ _), ?_⟩)
local macro_rules | `(tactic| walk_at "g") => `(tactic| repeat (first | refine ⟨_, rfl, ?_⟩ | refine ⟨_, _, rfl, rfl, ?_⟩ | refine ⟨Or.inr (by decide), ?_⟩ | refine ⟨Or.inl (by decide), ?_⟩ | refine ⟨(by decide : (0 : Int) < _), ?_⟩ | refine ⟨(⟨by decide, by decide⟩ : CDiv _ _), ?_⟩ | refine ⟨(⟨by decide, by decide, by decide⟩ : CPow _ _), ?_⟩ | refine Or.inl ⟨_, rfl, ?_⟩ | refine ⟨rfl, ?_⟩ | walk_at "ix" | walk_at "ixt" | walk_at "len" | fail "g"))
local macro_rules | `(tactic| walk_at "if") => `(tactic| refine ite2 (fun e => ?_) (fun e => ?_))
section
variable {P : Program} {w : World} {K : PySem.W.Frag} {mg : Str → Option Value} {base : Heap}
def rk (ns : List Int) : List Key := ns.map Sum.inl
theorem rk_kV (ns : List Int) : (rk ns).map kV = ns.map V.int := by
  unfold rk
  rw [List.map_map]
  rfl
abbrev RR := List Int × List Int
def badF (f : Fm) (p : RR) : Bool := badB p.1 p.2 (ids f p.1) (ids f p.2)
def FpRes (M : Ms) (H : Hp) (v : V) : Option RR → Prop
  | none => v = .non
  | some p => ∃ t w1 w2, v = .ref t ∧ H t = some (.tup [w1, w2]) ∧ RowF M H w1 p.1 ∧ RowF M H w2 p.2
/-- pairs of rows in a list -/
def PrsAt (M : Ms) (H : Hp) (xs : List V) (ps : List RR) : Prop := xs.length = ps.length ∧ ∀ (i : Nat) (p : RR), ps[i]? = some p → ∃ t w1 w2, xs[i]? = some (.ref t) ∧ H t = some (.tup [w1, w2]) ∧ RowF M H w1 p.1 ∧ RowF M H w2 p.2 ∧ goodRow p.1 ∧ goodRow p.2
/-- the dict of the idents -/
def IdD (P : Program) (w : World) (M : Ms) (H : Hp) (D : Addr) (f : Fm) (ns : List Int) : Prop := ∃ kvs ks v, H D = some (dXo P w D kvs ks) ∧ KsAt H ks ∧ valV kvs (rk ns) = some v ∧ Rp M H v (.tuple ((ids f ns).map pD))
theorem KsAt.same {H H' : Hp} {ks : List (List Key × Addr)} (h : KsAt H ks) (s : Same H H') : KsAt H' ks := fun p hp => same_rd s (h p hp)
theorem IdD.same {P : Program} {w : World} {M : Ms} {H H' : Hp} {D : Addr} {f : Fm} {ns : List Int} (h : IdD P w M H D f ns) (s : Same H H') : IdD P w M H' D f ns := by
  obtain ⟨kvs, ks, v, e, k, l, r⟩ := h
  exact ⟨kvs, ks, v, s _ _ e, k.same s, l, r.sx (Sx.same s)⟩
def sp_fp (K : PySem.W.Frag) (P : Program) (w : World) : Sp := fun vs H Q _ => ∃ (p D : Addr) (xs : List V) (f : Fm) (ps : List RR) (M : Ms), vs = [.ref p, .ref D] ∧ SqL K H p xs ∧ PrsAt M H xs ps ∧ (∀ q ∈ ps, IdD P w M H D f q.1 ∧ IdD P w M H D f q.2) ∧ Mk M H ∧
  ∀ v H', Same H H' → FpRes M H' v (ps.find? (badF f)) → Q v H'
theorem ok_fp (T : Txt K mg) : FnOk P w K mg base CX0 5 T.f__first_parted T.d__first_parted ["pairs", "idents"] (sp_fp K P w) := by
  have G__matches := ok_matches (P := P) (w := w) (base := base) T
  have G__slipped := ok_slipped (P := P) (w := w) (base := base) T
  have G__lost := ok_lost (P := P) (w := w) (base := base) T
  refine T.F__first_parted.ok sc__first_parted (fun vs H Q E h => ?_) (fun cdv A outer s H vs Q E hr h => ?_)
  · obtain ⟨_, _, _, _, _, _, rfl, _⟩ := h
    rfl
  · obtain ⟨p, D, xs, f, ps, M, rfl, hS, ⟨hlen, hprs⟩, hid, hM, q⟩ := h
    refine ⟨_, (pss_cons (ps_for PassesOwn.never rfl (pi_listK (K := K) rfl (pv 0)) (pg_tupK (K := K) rfl rfl (pgs_cons (pg_name (i := 2) sc__first_parted.nd rfl (Or.inl rfl)) (pgs_cons (pg_name (i := 3) sc__first_parted.nd rfl (Or.inl rfl)) pgs_nil))) (pss_cons (ps_set (i := 4) sc__first_parted.nd rfl (Or.inl rfl) (pe_call G__matches (hr.mono (by omega)) (by rfl) T.g__matches T.F__matches.kp T.b__matches .nil pass0 (pa_cons (pe_xget (P := P) (w := w) rfl rfl (hu_of hr) (pv 1) (pv 2) (fun _ _ => rfl)) (pa_cons (pe_xget (P := P) (w := w) rfl rfl (hu_of hr) (pv 1) (pv 3) (fun _ _ => rfl)) pa_nil))))
      (pss_one (ps_if (PW.pt (pw_or (pt_truthK (K := K) rfl (pe_call G__slipped (hr.mono (by omega)) (by rfl) T.g__slipped T.F__slipped.kp T.b__slipped .nil pass0 (pa_cons (pv 4) (pa_cons (pv 2) (pa_cons (pv 3) pa_nil)))) (by intro _; rfl)) (pw_or1 (pt_truthK (K := K) rfl (pe_call G__lost (hr.mono (by omega)) (by rfl) T.g__lost T.F__lost.kp T.b__lost .nil pass0 (pa_cons (pv 4) (pa_cons (pv 2) (pa_cons (pv 3) pa_nil)))) (by intro _; rfl))))) (pss_one (ps_ret (pe_tup (pa_cons (pv 2) (pa_cons (pv 3) pa_nil))))) pss_nil))))
      (pss_one (ps_ret pe_non))), ?_⟩
    walk_at "g"
    refine ⟨⟨_, hS⟩, ?_⟩
    refine for_list (K := K) (a := p) (xs := xs) (fun i σ H' => (∃ y2 y3 y4, σ = [some (.ref p), some (.ref D), y2, y3, y4]) ∧ Same H H' ∧ (ps.take i).find? (badF f) = none) ⟨⟨_, _, _, rfl⟩, Same.refl _, rfl⟩ (fun i σ H' _ pp => pp.2.1.seq hS) (fun i x σ H' hx pp => ?_) (fun σ H' pp => ?_)
    · obtain ⟨⟨y2, y3, y4, rfl⟩, s1, hno⟩ := pp
      have hi : i < ps.length := by rw [← hlen]; exact (List.getElem?_eq_some_iff.mp hx).1
      have epr : ps[i]? = some ps[i] := List.getElem?_eq_getElem hi
      obtain ⟨t, w1, w2, hx2, ht, q1, q2, g1, g2⟩ := hprs i _ epr
      rw [hx] at hx2
      cases hx2
      obtain ⟨d1, d2⟩ := hid _ (List.mem_of_getElem? epr)
      generalize hpr : ps[i] = pr at *
      obtain ⟨o, n⟩ := pr
      have g11 := g1.1
      have g21 := g2.1
      have hB : (ids f o).length ≤ 1000 := by rw [ids_len]; exact Nat.le_trans g11 (by decide)
      have hN : (ids f n).length ≤ 1000 := by rw [ids_len]; exact Nat.le_trans g21 (by decide)
      refine ⟨t, _, rfl, .inl (.inl (s1 _ _ ht)), rfl, _, _, rfl, _, _, rfl, rfl, ?_⟩
      obtain ⟨b1, ob1, rfl, nb1, hb1, ob11, ob12⟩ := id q1
      obtain ⟨b2, ob2, rfl, nb2, hb2, ob21, ob22⟩ := id q2
      obtain ⟨kvs, ks, u1, eD, kat, l1, r1⟩ := d1.same s1
      obtain ⟨kvs', ks', u2, eD', kat', l2, r2⟩ := d2.same s1
      walk_at "g"
      refine ⟨D, kvs, ks, rk o, b1, u1, rfl, rfl, eD, kat, .inr ⟨ob1, by rw [rk_kV]; exact s1 _ _ hb1⟩, l1, ?_⟩
      walk_at "g"
      refine ⟨D, kvs', ks', rk n, b2, u2, rfl, rfl, eD', kat', .inr ⟨ob2, by rw [rk_kV]; exact s1 _ _ hb2⟩, l2, ?_⟩
      have hM1 := hM.gr (Gr.same s1)
      refine ⟨u1, u2, ids f o, ids f n, M, rfl, r1, r2, idp_nodup _, hB, hN, hM1, fun v3 H3 d3 s3 r3 e3 => ?_⟩
      subst e3
      have s13 := s1.trans s3
      have lm : (mt (ids f o) (ids f n)).length ≤ 1000 := by
        have := mt_len (ids f o) (ids f n)
        omega
      have hin : inB o n (mt (ids f o) (ids f n)) := fun p hp => by
        obtain ⟨i, j, hi, hj, e⟩ := mt_mem hp
        rw [ids_len] at hi hj
        exact ⟨i, j, hi, hj, e⟩
      walk_at "g"
      refine ⟨v3, _, _, mt (ids f o) (ids f n), o, n, M, rfl, r3, q1.row.sx (Sx.same s13), q2.row.sx (Sx.same s13), hin, lm, hM.gr (Gr.same s13), fun v4 H4 d4 s4 r4 e4 => ?_⟩
      subst e4
      obtain ⟨c4, z4, rfl, nc4, hc4, rz4⟩ := Rp.lstN r4
      have lz4 := rz4.length
      rw [List.length_map] at lz4
      have s14 := s13.trans s4
      have done : badF f (o, n) = true → ∀ H5, Same H4 H5 → [V.ref b1, V.ref b2].length ≤ sizeLine ∧ ∀ t, H5 t = none → Q (.ref t) (upd H5 t (.tup [.ref b1, .ref b2])) := fun hb H5 s5 => by
        refine ⟨szK rfl, fun t5 ht5 => ?_⟩
        have s6 := (s14.trans s5).trans (same_new (o := .tup [V.ref b1, V.ref b2]) ht5)
        refine q _ _ s6 ?_
        have hf : ps.find? (badF f) = some (o, n) := by
          rw [List.find?_eq_some_iff_getElem]
          refine ⟨hb, i, hi, hpr, fun j hj => ?_⟩
          have hj' : j < ps.length := Nat.lt_trans hj hi
          have hm : ps[j] ∈ ps.take i := by
            rw [List.mem_iff_getElem?]
            exact ⟨j, by rw [List.getElem?_take_of_lt hj]; exact List.getElem?_eq_getElem hj'⟩
          have := List.find?_eq_none.mp hno _ hm
          simpa using this
        rw [hf]
        exact ⟨t5, _, _, rfl, upd_same, q1.sx (Sx.same s6), q2.sx (Sx.same s6)⟩
      have next : badF f (o, n) = false → (ps.take (i + 1)).find? (badF f) = none := fun hb => by
        rw [List.take_add_one, epr, List.find?_append, hno]
        show List.find? (badF f) [(o, n)] = none
        rw [List.find?_cons, hb]
        rfl
      refine ⟨!z4.isEmpty, .inl ⟨_, .inl hc4, rfl⟩, ?_⟩
      by_cases cs : slp o n (mt (ids f o) (ids f n)) = []
      · have z40 : z4 = [] := List.length_eq_zero_iff.mp (by rw [lz4, cs]; rfl)
        rw [show (!z4.isEmpty) = false by rw [z40]; rfl]
        walk_at "g"
        refine ⟨v3, _, _, mt (ids f o) (ids f n), o, n, M, rfl, r3.sx (Sx.same s4), q1.sx (Sx.same s14), q2.row.sx (Sx.same s14), Nat.le_trans g21 (by decide), hM.gr (Gr.same s14), fun v5 H5 d5 s5 r5 e5 => ?_⟩
        subst e5
        obtain ⟨c5, z5, rfl, nc5, hc5, rz5⟩ := Rp.lstN r5
        have lz5 := rz5.length
        rw [List.length_map] at lz5
        refine ⟨!z5.isEmpty, .inl ⟨_, .inl hc5, rfl⟩, ?_⟩
        by_cases cl : lsts o n (mt (ids f o) (ids f n)) = []
        · have z50 : z5 = [] := List.length_eq_zero_iff.mp (by rw [lz5, cl]; rfl)
          rw [show (!z5.isEmpty) = false by rw [z50]; rfl]
          walk_at "g"
          refine ⟨⟨_, _, _, rfl⟩, s14.trans s5, next ?_⟩
          show badB o n (ids f o) (ids f n) = false
          unfold badB
          rw [cs, cl]
          rfl
        · have hb : badF f (o, n) = true := by
            show badB o n (ids f o) (ids f n) = true
            unfold badB
            cases e : lsts o n (mt (ids f o) (ids f n)) with
            | nil => exact absurd e cl
            | cons a r => exact Bool.or_true _
          rw [show (!z5.isEmpty) = true by cases z5 with | nil => exact absurd (List.length_eq_zero_iff.mp lz5.symm) cl | cons _ _ => rfl]
          walk_at "g"
          exact done hb H5 s5
      · have hb : badF f (o, n) = true := by
          show badB o n (ids f o) (ids f n) = true
          unfold badB
          cases e : slp o n (mt (ids f o) (ids f n)) with
          | nil => exact absurd e cs
          | cons a r => rfl
        rw [show (!z4.isEmpty) = true by cases z4 with | nil => exact absurd (List.length_eq_zero_iff.mp lz4.symm) cs | cons _ _ => rfl]
        walk_at "g"
        exact done hb H4 (Same.refl _)
    · obtain ⟨⟨y2, y3, y4, rfl⟩, s1, hno⟩ := pp
      walk_at "g"
      rw [hlen, List.take_length] at hno
      refine q _ _ s1 ?_
      rw [hno]
      rfl
end
end D

namespace D
open PySem PySem.Spec PyProof.Rows L2
local macro_rules | `(tactic| walk_at "st") => `(tactic| first | exact SqT.of (by assumption) | exact Or.inl (by assumption) | exact SqT.of upd_same | fail "st")
local macro_rules | `(tactic| walk_at "ixt") => `(tactic| refine ⟨_, _, _, _, rfl, rfl, (by walk_at "st" : SqT _ _ _ _), by rfl, ?_⟩)
local macro_rules | `(tactic| walk_at "sq") => `(tactic| first | exact SqL.of (by assumption) | assumption | exact Or.inl (by assumption) | exact SqL.of upd_same | fail "sq")
local macro_rules | `(tactic| walk_at "ix") => `(tactic| refine ⟨_, _, _, _, rfl, rfl, (by walk_at "sq" : SqL _ _ _ _), by rfl, ?_⟩)
local macro_rules | `(tactic| walk_at "set") => `(tactic| refine ⟨_, _, _, _, rfl, rfl, by first | assumption | exact upd_same, by rfl, ?_⟩)
local macro_rules | `(tactic| walk_at "len") => `(tactic| refine ⟨_, _, rfl, Or.inl (by walk_at "sq" : SqL _ _ _ _), ?_⟩)
local macro_rules | `(tactic| walk_at "g") => `(tactic| repeat (first | refine ⟨_, rfl, ?_⟩ | refine ⟨_, _, rfl, rfl, ?_⟩ | refine ⟨Or.inr (by decide), ?_⟩ | refine ⟨Or.inl (by decide), ?_⟩ | refine ⟨(by decide : (0 : Int) < _), ?_⟩ | refine ⟨(⟨by decide, by decide⟩ : CDiv _ _), ?_⟩ | refine ⟨(⟨by decide, by decide, by decide⟩ : CPow _ _), ?_⟩ | refine Or.inl ⟨_, rfl, ?_⟩ | refine ⟨rfl, ?_⟩ | walk_at "ix" | walk_at "ixt" | walk_at "len" | fail "g"))
local macro_rules | `(tactic| walk_at "if") => `(tactic| refine ite2 (fun e => ?_) (fun e => ?_))
section
variable {P : Program} {w : World} {K : PySem.W.Frag} {mg : Str → Option Value} {base : Heap}
/-- tuples stay -/
def KeepT (H H' : Hp) : Prop := (∀ a xs, H a = some (.tup xs) → H' a = some (.tup xs)) ∧ ∀ a o u, H a = some (.frz o u) → H' a = some (.frz o u)
theorem KeepT.same {H H' : Hp} (s : Same H H') : KeepT H H' := ⟨fun a xs e => s a _ e, fun a o u e => s a _ e⟩
theorem KeepT.put {H : Hp} {D : Addr} {u v : HO} (e : H D = some u) (h1 : ∀ xs, u ≠ .tup xs) (h2 : ∀ o z, u ≠ .frz o z) : KeepT H (upd H D v) :=
  ⟨fun a xs q => by rw [upd_ne (fun z => by rw [z, e] at q; exact h1 _ (Option.some.inj q))]; exact q, fun a o z q => by rw [upd_ne (fun y => by rw [y, e] at q; exact h2 _ _ (Option.some.inj q))]; exact q⟩
theorem RowF.keepT {M : Ms} {H H' : Hp} {v : V} {ns : List Int} (h : RowF M H v ns) (s : KeepT H H') : RowF M H' v ns := by
  obtain ⟨a, o, e, n, ha, r⟩ := h
  exact ⟨a, o, e, n, s.2 _ _ _ ha, r⟩
theorem PrsAt.keepT {M : Ms} {H H' : Hp} {xs : List V} {ps : List RR} (h : PrsAt M H xs ps) (s : KeepT H H') : PrsAt M H' xs ps := ⟨h.1, fun i p hp => by
  obtain ⟨t, w1, w2, e, ht, q1, q2, g⟩ := h.2 i p hp
  exact ⟨t, w1, w2, e, s.1 _ _ ht, q1.keepT s, q2.keepT s, g⟩⟩
theorem PrsAt.snoc {M : Ms} {H : Hp} {xs : List V} {ps : List RR} {t : Addr} {w1 w2 : V} {p : RR} (h : PrsAt M H xs ps) (ht : H t = some (.tup [w1, w2])) (q1 : RowF M H w1 p.1) (q2 : RowF M H w2 p.2) (g1 : goodRow p.1) (g2 : goodRow p.2) : PrsAt M H (xs ++ [.ref t]) (ps ++ [p]) := by
  refine ⟨by rw [List.length_append, List.length_append, h.1]; rfl, fun i r hr => ?_⟩
  by_cases c : i < ps.length
  · rw [List.getElem?_append_left c] at hr
    obtain ⟨t', u1, u2, e, z⟩ := h.2 i r hr
    exact ⟨t', u1, u2, by rw [List.getElem?_append_left (by rw [h.1]; exact c)]; exact e, z⟩
  · rw [List.getElem?_append_right (by omega)] at hr
    have hi : i - ps.length = 0 := by
      have := (List.getElem?_eq_some_iff.mp hr).1
      rw [List.length_singleton] at this
      omega
    rw [hi] at hr
    cases hr
    refine ⟨t, w1, w2, ?_, ht, q1, q2, g1, g2⟩
    rw [List.getElem?_append_right (by rw [h.1]; omega), h.1, hi]
    rfl
/-- a menu of rows -/
def MenuAt (M : Ms) (H : Hp) (v : V) (nss : List (List Int)) : Prop := ∃ m xs, v = .ref m ∧ ¬ M m ∧ Rd H m (.tup xs) ∧ xs.length = nss.length ∧ nss.length ≤ 8 ∧ ∀ (i : Nat) (ns : List Int), nss[i]? = some ns → ∃ w, xs[i]? = some w ∧ RowF M H w ns ∧ goodRow ns
theorem MenuAt.sx {M : Ms} {H H' : Hp} {v : V} {nss : List (List Int)} (h : MenuAt M H v nss) (s : Sx M H H') : MenuAt M H' v nss := by
  obtain ⟨m, xs, e, n, r, l, l8, z⟩ := h
  refine ⟨m, xs, e, n, sx_rd s n r, l, l8, fun i ns hi => ?_⟩
  obtain ⟨w, hw, q, g⟩ := z i ns hi
  exact ⟨w, hw, q.sx s, g⟩
def cross (nss : List (List Int)) : List RR := nss.flatMap fun o => nss.map fun n => (o, n)
def crossUp (nss : List (List Int)) (i : Nat) : List RR := (nss.take i).flatMap fun o => nss.map fun n => (o, n)
theorem crossUp_step {nss : List (List Int)} {i : Nat} {o : List Int} (h : nss[i]? = some o) : crossUp nss (i + 1) = crossUp nss i ++ nss.map fun n => (o, n) := by
  unfold crossUp
  rw [List.take_add_one, h, List.flatMap_append]
  simp
theorem crossUp_len (nss : List (List Int)) (h : nss.length ≤ 8) : ∀ i, i ≤ nss.length → (crossUp nss i).length ≤ i * 8
  | 0, _ => by simp [crossUp]
  | i + 1, hi => by
    rw [crossUp_step (List.getElem?_eq_getElem (by omega : i < nss.length)), List.length_append, List.length_map]
    have := crossUp_len nss h i (by omega)
    omega
theorem rk_inj {a b : List Int} (h : rk a = rk b) : a = b := by
  have h2 := congrArg (List.map kV) h
  rw [rk_kV, rk_kV] at h2
  have : ∀ l1 l2 : List Int, l1.map V.int = l2.map V.int → l1 = l2 := by
    intro l1
    induction l1 with
    | nil => intro l2 e; cases l2 with | nil => rfl | cons _ _ => cases e
    | cons x r ih =>
      intro l2 e
      cases l2 with
      | nil => cases e
      | cons y s =>
        rw [List.map_cons, List.map_cons] at e
        injection e with e1 e2
        rw [V.int.inj e1, ih s e2]
  exact this a b h2
theorem dXo_tup {P : Program} {w : World} {a : Addr} {kvs : List (List Key × V)} {ks : List (List Key × Addr)} (xs : List V) : dXo P w a kvs ks ≠ .tup xs := fun z => by unfold dXo at z; cases z
theorem dXo_frz {P : Program} {w : World} {a : Addr} {kvs : List (List Key × V)} {ks : List (List Key × Addr)} (o : Obj) (u : HO) : dXo P w a kvs ks ≠ .frz o u := fun z => by unfold dXo at z; cases z
theorem KsAt.keepT {H H' : Hp} {ks : List (List Key × Addr)} (h : KsAt H ks) (s : KeepT H H') : KsAt H' ks := fun p hp => by
  rcases h p hp with e | ⟨o, e⟩
  · exact .inl (s.1 _ _ e)
  · exact .inr ⟨o, s.2 _ _ _ e⟩
theorem rd_keepT {H H' : Hp} {a : Addr} {xs : List V} (h : Rd H a (.tup xs)) (s : KeepT H H') : Rd H' a (.tup xs) := by
  rcases h with e | ⟨o, e⟩
  · exact .inl (s.1 _ _ e)
  · exact .inr ⟨o, s.2 _ _ _ e⟩
theorem ksat_nil {H : Hp} : KsAt H [] := fun p hp => nomatch hp
theorem KeyAt.fresh {C : Addr} {M : Ms} {H : Hp} {k : V} {f : Fm} {p : Addr} (hp : H p = none) (h : KeyAt C M H k f) : KeyAt C (also M p) H k f := by
  obtain ⟨a, dx, u, e, n, ha, r, g⟩ := h
  refine ⟨a, dx, u, e, fun z => ?_, ha, r.fresh hp, g⟩
  rcases z with z | z
  · exact n z
  · rw [show a = p from z, hp] at ha
    cases ha
theorem ksat_put {H : Hp} {kvs : List (List Key × V)} {ks : List (List Key × Addr)} {k : List Key} {b : Addr} (h : KsAt H ks) (e : Rd H b (.tup (k.map kV))) : KsAt H (ksPut kvs ks k b) := fun p hp => by
  unfold ksPut at hp
  split at hp
  · exact h p hp
  · rcases List.mem_append.mp hp with hp | hp
    · exact h p hp
    · rw [List.mem_singleton.mp hp]
      exact e
/-- the first pair that a key mixes up -/
def firstBad (f : Fm) (nss : List (List Int)) : Option RR := (cross nss).find? (badF f)
def sp_faithful (T : Txt K mg) : Sp := fun vs H Q _ => ∃ (k v : V) (f : Fm) (nss : List (List Int)) (M : Ms), vs = [k, v] ∧ KeyAt T.C_Key M H k f ∧ MenuAt M H v nss ∧ Mk M H ∧
  ∀ v H', Same H H' → FpRes M H' v (firstBad f nss) → Q v H'
theorem ok_faithful (T : Txt K mg) : FnOk P w K mg base CX0 10 T.f_faithful T.d_faithful ["key", "menu"] (sp_faithful T) := by
  have G_check_rows := ok_check_rows (P := P) (w := w) (base := base) T
  have G__idents := ok_ids (P := P) (w := w) (base := base) T
  have G__first_parted := ok_fp (P := P) (w := w) (base := base) T
  refine T.F_faithful.ok sc_faithful (fun vs H Q E h => ?_) (fun cdv A outer s H vs Q E hr h => ?_)
  · obtain ⟨_, _, _, _, _, rfl, _⟩ := h
    rfl
  · obtain ⟨k, v, f, nss, M, rfl, hK, hm, hM, q⟩ := h
    obtain ⟨m, xs, em, nm, rm, lxs, l8, rows⟩ := id hm
    subst em
    have rowAt : ∀ {H'}, Same H H' → ∀ (i : Nat) (x : V), xs[i]? = some x → ∃ ns, nss[i]? = some ns ∧ RowF M H' x ns ∧ goodRow ns := fun {H'} s i x hx => by
      have hi : i < nss.length := by rw [← lxs]; exact (List.getElem?_eq_some_iff.mp hx).1
      obtain ⟨w, hw, q, g⟩ := rows i _ (List.getElem?_eq_getElem hi)
      rw [hx] at hw
      cases hw
      exact ⟨_, List.getElem?_eq_getElem hi, q.sx (Sx.same s), g⟩
    refine ⟨_, (pss_cons (ps_expr (pe_call G_check_rows (hr.mono (by omega)) (by rfl) T.g_check_rows T.F_check_rows.kp T.b_check_rows .nil pass0 (pa_cons (pv 1) pa_nil)))
      (pss_cons (ps_setLc2 (i := 2) (own := [("old", 3), ("new", 4)]) (vs1 := [4]) (g := gName 3) (g1 := gName 4) (tt := tYes) (tt1 := tYes)  (by rfl) sc_faithful.nd rfl rfl (sw_true rfl rfl rfl (by decide +kernel)) (pi_tupK (K := K) rfl (pv 1)) (blkOk_by (own := [("old", 3), ("new", 4)]) (N := ["key", "menu", "pairs", "old", "new", "row"]) (sc := defScope s_faithful) (by decide +kernel)) (by decide) (fun _ _ _ _ _ => (pg_name (i := 3) sc_faithful.nd rfl (Or.inl rfl))) (fun _ _ _ _ _ => pts_nil) (fun _ _ _ _ _ => (pi_tupK (K := K) rfl (pv 1))) (fun _ _ _ _ _ => (pg_name (i := 4) sc_faithful.nd rfl (Or.inl rfl))) (fun _ _ _ _ _ => pts_nil) (fun _ _ _ _ _ => (pe_tup (pa_cons (pv 3) (pa_cons (pv 4) pa_nil)))))
      (pss_one (ps_ret (pe_call G__first_parted (hr.mono (by omega)) (by rfl) T.g__first_parted T.F__first_parted.kp T.b__first_parted .nil pass0 (pa_cons (pv 2) (pa_cons (pe_dcX (P := P) (w := w) rfl rfl (own := [("row", 5)]) (g := gName 5) (tt := tYes) (hu_of hr) (by rfl) sc_faithful.nd (pi_tupK (K := K) rfl (pv 1)) (blkOk_by (own := [("row", 5)]) (N := ["key", "menu", "pairs", "old", "new", "row"]) (sc := defScope s_faithful) (by decide +kernel)) (fun _ _ _ _ _ => (pg_name (i := 5) sc_faithful.nd rfl (Or.inl rfl))) (fun _ _ _ _ _ => pts_nil) (fun _ _ _ _ _ => (pv 5)) (fun _ _ _ _ _ => (pe_call G__idents (hr.mono (by omega)) (by rfl) T.g__idents T.F__idents.kp T.b__idents .nil pass0 (pa_cons (pv 0) (pa_cons (pv 5) pa_nil))))) pa_nil))))))), ?_⟩
    walk_at "g"
    refine ⟨m, xs, M, rfl, .inl rm, fun x hx => ?_, fun H1 s1 => ?_⟩
    · obtain ⟨i, hi⟩ := List.mem_iff_getElem?.mp hx
      obtain ⟨ns, _, q, g⟩ := rowAt (Same.refl _) i x hi
      exact ⟨ns, q.row, g⟩
    have hM1 := hM.gr (Gr.same s1)
    have rm1 := same_rd s1 rm
    walk_at "g"
    refine ⟨⟨_, .inl rm1⟩, fun D hD => ?_⟩
    refine tup_loop (xs := xs) (fun i H' => Same H1 H' ∧ ∃ acc, H' D = some (.lst acc) ∧ PrsAt M H' acc (crossUp nss i)) ⟨same_new hD, [], upd_same, rfl, fun i p e => by simp [crossUp] at e⟩ (fun i H' _ p => .inl (same_rd p.1 rm1)) (fun i x H' hx p => ?_) (fun H2 p => ?_)
    · refine ⟨rfl, ?_⟩
      have sp := p.1
      obtain ⟨o, ho, qo, go⟩ := rowAt (s1.trans sp) i x hx
      walk_at "g"
      refine ⟨⟨_, .inl (same_rd sp rm1)⟩, ?_⟩
      refine tup_loop (xs := xs) (fun j H' => Same H1 H' ∧ ∃ acc, H' D = some (.lst acc) ∧ PrsAt M H' acc (crossUp nss i ++ (nss.take j).map fun n => (o, n))) (by
        obtain ⟨a, acc, b, c⟩ := p
        exact ⟨a, acc, b, by rw [List.take_zero, List.map_nil, List.append_nil]; exact c⟩) (fun j H' _ p => .inl (same_rd p.1 rm1)) (fun j y H3 hy p3 => ?_) (fun H3 p3 => by
        obtain ⟨a, acc, b, c⟩ := p3
        rw [lxs, List.take_length] at c
        exact ⟨a, acc, b, by rw [crossUp_step ho]; exact c⟩)
      obtain ⟨s3, acc, eD, hP⟩ := p3
      obtain ⟨n, hn, qn, gn⟩ := rowAt (s1.trans s3) j y hy
      obtain ⟨o', ho', qo', _⟩ := rowAt (s1.trans s3) i x hx
      rw [ho] at ho'
      cases ho'
      have hi : i < nss.length := (List.getElem?_eq_some_iff.mp ho).1
      have hj : j < nss.length := (List.getElem?_eq_some_iff.mp hn).1
      refine ⟨rfl, ?_⟩
      walk_at "g"
      refine ⟨szK rfl, fun t ht => ?_⟩
      have st : Same H3 (upd H3 t (.tup [x, y])) := same_new ht
      have eD' := st _ _ eD
      have kt : KeepT (upd H3 t (.tup [x, y])) (upd (upd H3 t (.tup [x, y])) D (.lst (acc ++ [.ref t]))) := KeepT.put eD' (fun _ z => nomatch z) (fun _ _ z => nomatch z)
      have P4 := (hP.keepT (KeepT.same st)).snoc (p := (o, n)) upd_same (qo'.sx (Sx.same st)) (qn.sx (Sx.same st)) go gn
      have lc := crossUp_len nss l8 i (by omega)
      have la := hP.1
      rw [List.length_append, List.length_map, List.length_take] at la
      refine ⟨acc, eD', small1000 (by omega), same_put (s3.trans st) hD, acc ++ [.ref t], upd_same, ?_⟩
      rw [List.take_add_one, hn, List.map_append, ← List.append_assoc]
      exact P4.keepT kt
    obtain ⟨s2, acc, eD, hP⟩ := p
    have ec : crossUp nss xs.length = cross nss := by unfold crossUp cross; rw [lxs, List.take_length]
    rw [ec] at hP
    have s12 := s1.trans s2
    have hM2 := hM1.gr (Gr.same s2)
    have rm2 := same_rd s2 rm1
    walk_at "g"
    refine ⟨⟨_, .inl rm2⟩, fun Dd hDd => ?_⟩
    refine tup_loop (xs := xs) (fun i H' => Same H2 H' ∧ ∃ kvs ks, H' Dd = some (dXo P w Dd kvs ks) ∧ KsAt H' ks ∧ kvs.length ≤ i ∧ ∀ ns ∈ nss.take i, ∃ v, valV kvs (rk ns) = some v ∧ Rp (also M Dd) H' v (.tuple ((ids f ns).map pD)))
      ⟨same_new hDd, [], [], upd_same, ksat_nil, Nat.le_refl _, fun ns hn => by rw [List.take_zero] at hn; exact nomatch hn⟩ (fun i H' _ p => .inl (same_rd p.1 rm2)) (fun i x H' hx p => ?_) (fun H3 p => ?_)
    · obtain ⟨s3, kvs, ks, eDd, kat, lk, all⟩ := p
      obtain ⟨ns, hns, qn, gn⟩ := rowAt (s12.trans s3) i x hx
      obtain ⟨b, ob, rfl, nb, hb, ob1, ob2⟩ := id qn
      have hi : i < nss.length := (List.getElem?_eq_some_iff.mp hns).1
      refine ⟨rfl, ?_⟩
      walk_at "g"
      have hK2 := (((hK.sx (Sx.same s12)).fresh hDd).sx (Sx.same s3))
      obtain ⟨ns', hns', qn2, _⟩ := rowAt s12 i (.ref b) hx
      rw [hns] at hns'
      cases hns'
      have qn3 := (qn2.fresh hDd).sx (Sx.same s3)
      have hMd : Mk (also M Dd) H' := (hM2.gr (Gr.same s3)).also (ne_none eDd)
      refine ⟨k, _, f, ns, also M Dd, rfl, hK2, qn3.row, gn.1, hMd, fun v4 H4 d4 s4 r4 e4 => ?_⟩
      subst e4
      have eD4 := s4 _ _ eDd
      have kat4 := kat.same s4
      have hb4 : Rd H4 b (.tup ((rk ns).map kV)) := .inr ⟨ob, by rw [rk_kV]; exact s4 _ _ hb⟩
      have r4' : Rp (also M Dd) H4 v4 (.tuple ((ids f ns).map pD)) := by
        unfold ids
        rw [← idsOf_eq]
        exact r4
      have kt : KeepT H4 (upd H4 Dd (dXo P w Dd (putK kvs (rk ns) v4) (ksPut kvs ks (rk ns) b))) := KeepT.put eD4 dXo_tup dXo_frz
      refine ⟨kvs, ks, rk ns, b, rfl, hb4, eD4, kat4, small1000 (by omega), same_put (s3.trans s4) hDd, _, _, upd_same, (ksat_put kat4 hb4).keepT kt, ?_, fun ms hms => ?_⟩
      · have := putK_le' kvs (rk ns) v4
        omega
      · rw [valV_put]
        have sp : Sx (also M Dd) H4 (upd H4 Dd (dXo P w Dd (putK kvs (rk ns) v4) (ksPut kvs ks (rk ns) b))) := Sx.put (.inr rfl)
        by_cases c : rk ms = rk ns
        · rw [if_pos c]
          have := rk_inj c
          subst this
          exact ⟨v4, rfl, r4'.sx sp⟩
        · rw [if_neg c]
          rw [List.take_add_one, hns] at hms
          rcases List.mem_append.mp hms with hms | hms
          · obtain ⟨v5, e5, r5⟩ := all ms hms
            exact ⟨v5, e5, (r5.sx (Sx.same s4)).sx sp⟩
          · have : ms = ns := by simpa using hms
            exact absurd (by rw [this]) c
    obtain ⟨s3, kvs, ks, eDd, kat, lk, all⟩ := p
    rw [lxs, List.take_length] at all
    have hP3 := hP.keepT (KeepT.same s3)
    have s13 := s12.trans s3
    have has : ∀ ns ∈ nss, IdD P w M H3 Dd f ns := fun ns hn => by
      obtain ⟨v5, e5, r5⟩ := all ns hn
      exact ⟨kvs, ks, v5, eDd, kat, e5, r5.less also_le⟩
    refine ⟨D, Dd, acc, f, cross nss, M, rfl, .inl (.inl (s3 _ _ eD)), hP3, fun p hp => ?_, hM.gr (Gr.same s13), fun v H' s4 r => q v H' (s13.trans s4) r⟩
    unfold cross at hp
    obtain ⟨o, ho, hp⟩ := List.mem_flatMap.mp hp
    obtain ⟨n, hn, rfl⟩ := List.mem_map.mp hp
    exact ⟨has o ho, has n hn⟩
end
end D


namespace D
open PySem PySem.Spec PyProof.Rows L2
local macro_rules | `(tactic| walk_at "st") => `(tactic| first | exact SqT.of (by assumption) | exact Or.inl (by assumption) | exact SqT.of upd_same | fail "st")
local macro_rules | `(tactic| walk_at "ixt") => `(tactic| refine ⟨_, _, _, _, rfl, rfl, (by walk_at "st" : SqT _ _ _ _), by rfl, ?_⟩)
local macro_rules | `(tactic| walk_at "sq") => `(tactic| first | exact SqL.of (by assumption) | assumption | exact Or.inl (by assumption) | exact SqL.of upd_same | fail "sq")
local macro_rules | `(tactic| walk_at "ix") => `(tactic| refine ⟨_, _, _, _, rfl, rfl, (by walk_at "sq" : SqL _ _ _ _), by rfl, ?_⟩)
local macro_rules | `(tactic| walk_at "set") => `(tactic| refine ⟨_, _, _, _, rfl, rfl, by first | assumption | exact upd_same, by rfl, ?_⟩)
local macro_rules | `(tactic| walk_at "len") => `(tactic| refine ⟨_, _, rfl, Or.inl (by walk_at "sq" : SqL _ _ _ _), ?_⟩)
local macro_rules | `(tactic| walk_at "g") => `(tactic| repeat (first | refine ⟨_, rfl, ?_⟩ | refine ⟨_, _, rfl, rfl, ?_⟩ | refine ⟨Or.inr (by decide), ?_⟩ | refine ⟨Or.inl (by decide), ?_⟩ | refine ⟨(by decide : (0 : Int) < _), ?_⟩ | refine ⟨(⟨by decide, by decide⟩ : CDiv _ _), ?_⟩ | refine ⟨(⟨by decide, by decide, by decide⟩ : CPow _ _), ?_⟩ | refine Or.inl ⟨_, rfl, ?_⟩ | refine ⟨rfl, ?_⟩ | walk_at "ix" | walk_at "ixt" | walk_at "len" | fail "g"))
local macro_rules | `(tactic| walk_at "if") => `(tactic| refine ite2 (fun e => ?_) (fun e => ?_))
section
variable {P : Program} {w : World} {K : PySem.W.Frag} {mg : Str → Option Value} {base : Heap}
def namesD (ns : List Str) : PyData := .list (ns.map PyData.str)
def sp_form (K : PySem.W.Frag) (n : Nat) : Sp := fun vs H Q _ => ∃ (b : Addr) (v : V) (lv : Int) (ns : List Str) (M : Ms), vs = [.ref b, v, .int lv] ∧ Bag K M H b ∧ Mk M H ∧ Rp M H v (namesD ns) ∧ ns ≠ [] ∧ ns.length < 1000000 ∧ 1 ≤ lv ∧ lv ≤ n ∧
  Dr K M b H (fun x => ∃ f : Fm, x = f.enc ∧ (f.dep : Int) ≤ lv ∧ f.ok (· ∈ ns)) Q
theorem ok_form (T : Txt K mg) : ∀ n, FnOk P w K mg base CX0 (n + 3) T.f__law_form T.d__law_form ["_law_bag_here", "_law_readable", "_law_levels"] (sp_form K n) := by
  intro n
  induction n with
  | zero =>
    refine T.F__law_form.ok sc__law_form (fun vs H Q E h => ?_) (fun cdv A outer s H vs Q E hr h => ?_)
    · obtain ⟨_, _, _, _, _, _, _, _, _, _, _, h1, h2, _⟩ := h
      omega
    · obtain ⟨_, _, _, _, _, _, _, _, _, _, _, h1, h2, _⟩ := h
      omega
  | succ n ih =>
  have G__law_pick := ok_pick (P := P) (w := w) (base := base) T
  have G__law_choice := ok_choice (P := P) (w := w) (base := base) T
  have G__law_form := ih
  refine T.F__law_form.ok sc__law_form (fun vs H Q E h => ?_) (fun cdv A outer s H vs Q E hr h => ?_)
  · obtain ⟨_, _, _, _, _, rfl, _⟩ := h
    rfl
  · obtain ⟨b, v, lv, ns, M, rfl, hB, hM, hR, hne, hl, hlv1, hlv, q⟩ := h
    obtain ⟨a, xs, rfl, na, ha, rx⟩ := Rp.lstN hR
    have ex := rx.ofStrs
    subst ex
    have hpos : 0 < ns.length := List.length_pos_iff.mpr hne
    have hab : a ≠ b := fun z => na (by rw [z]; exact hB.w)
    have fin : ∀ (f : Fm) (H2 : Hp) (p : Addr) (us : List V), Sx (one b) H H2 → Gr H H2 → Bag K M H2 b → H2 p = none → FmAt M (upd H2 p (.tup us)) f us → (f.dep : Int) ≤ lv → f.ok (· ∈ ns) → Q (.ref p) (upd H2 p (.tup us)) := fun f H2 p us s g hB2 hp hf hd ho =>
      q _ _ f.enc (s.trans (Sx.new hp)) (g.trans Gr.upd) (hB2.same (same_new hp)) (hf.rp ((hM.gr g).out hp) (.inl upd_same)) ⟨f, rfl, hd, ho⟩
    refine ⟨_, (pss_cons (ps_set (i := 3) sc__law_form.nd rfl (Or.inl rfl) (pe_call G__law_pick (hr.mono (by omega)) (by rfl) T.g__law_pick T.F__law_pick.kp T.b__law_pick .nil pass0 (pa_cons (pv 0) (pa_cons pe_int pa_nil))))
      (pss_cons (ps_if (PW.pt (pw_or (pt_cmpR op_le (pv 2) pe_int (nomark _)) (pw_or1 (pt_cmpR op_lt (pv 3) pe_int (nomark _))))) (pss_cons (ps_if (PW.pt (pw_or (pt_not (pt_truthK (K := K) rfl (pv 1) (by intro _; rfl))) (pw_or1 (PW.pt (pw_and (pt_cmpR op_eq (pv 3) pe_int (nomark _)) (pw_and1 (pt_cmpR op_eq (pe_call G__law_pick (hr.mono (by omega)) (by rfl) T.g__law_pick T.F__law_pick.kp T.b__law_pick .nil pass0 (pa_cons (pv 0) (pa_cons pe_int pa_nil))) pe_int (nomark _)))))))) (pss_one (ps_ret (pe_tup (pa_cons pe_str (pa_cons (pe_call G__law_pick (hr.mono (by omega)) (by rfl) T.g__law_pick T.F__law_pick.kp T.b__law_pick .nil pass0 (pa_cons (pv 0) (pa_cons pe_int pa_nil))) pa_nil))))) pss_nil)
      (pss_one (ps_ret (pe_tup (pa_cons pe_str (pa_cons (pe_call G__law_choice (hr.mono (by omega)) (by rfl) T.g__law_choice T.F__law_choice.kp T.b__law_choice .nil pass0 (pa_cons (pv 0) (pa_cons (pv 1) pa_nil))) pa_nil)))))) pss_nil)
      (pss_cons (ps_set (i := 4) sc__law_form.nd rfl (Or.inl rfl) (pe_call G__law_form (hr.mono (by omega)) (by rfl) T.g__law_form T.F__law_form.kp T.b__law_form .nil pass0 (pa_cons (pv 0) (pa_cons (pv 1) (pa_cons (pe_op op_sub (pv 2) pe_int) pa_nil)))))
      (pss_cons (ps_set (i := 5) sc__law_form.nd rfl (Or.inl rfl) (pe_call G__law_form (hr.mono (by omega)) (by rfl) T.g__law_form T.F__law_form.kp T.b__law_form .nil pass0 (pa_cons (pv 0) (pa_cons (pv 1) (pa_cons (pe_op op_sub (pv 2) pe_int) pa_nil)))))
      (pss_cons (ps_if (pt_cmpR op_lt (pv 3) pe_int (nomark _)) (pss_one (ps_ret (pe_tup (pa_cons (pe_ix (ix_listK (K := K) rfl) (pe_lst (pa_cons pe_str (pa_cons pe_str (pa_cons pe_str pa_nil)))) (pe_op op_sub (pv 3) pe_int) (fun _ _ => rfl)) (pa_cons (pv 4) (pa_cons (pv 5) pa_nil)))))) pss_nil)
      (pss_one (ps_ret (pe_tup (pa_cons pe_str (pa_cons (pv 4) (pa_cons (pv 5) (pa_cons (pe_call G__law_form (hr.mono (by omega)) (by rfl) T.g__law_form T.F__law_form.kp T.b__law_form .nil pass0 (pa_cons (pv 0) (pa_cons (pv 1) (pa_cons (pe_op op_sub (pv 2) pe_int) pa_nil)))) pa_nil)))))))))))), ?_⟩
    walk_at "g"
    refine ⟨b, _, M, rfl, hB, by omega, by omega, fun way H1 h0 h1 hA1 hB1 => ?_⟩
    have g1 := At.gr hA1 hB1.there
    walk_at "g"
    have sM1 : Sx M H H1 := hA1.sx.le (one_le hB.w)
    have rest : ∀ f4 f5 : Fm, (f4.dep : Int) ≤ lv - 1 → (f5.dep : Int) ≤ lv - 1 → ((max f4.dep f5.dep + 1 : Nat) : Int) ≤ lv := fun f4 f5 h4 h5 => by omega
    have rest3 : ∀ f4 f5 f6 : Fm, (f4.dep : Int) ≤ lv - 1 → (f5.dep : Int) ≤ lv - 1 → (f6.dep : Int) ≤ lv - 1 → ((max f4.dep (max f5.dep f6.dep) + 1 : Nat) : Int) ≤ lv := fun f4 f5 f6 h4 h5 h6 => by omega
    have hw := hB.w
    refine ite2 (fun c1 => ?_) (fun c1 => ?_)
    rotate_left 1
    · walk_at "g"
      have c1' : ¬ lv ≤ 1 := fun z => c1 (decide_eq_true z)
      refine ite2 (fun c2 => ?_) (fun c2 => ?_)
      rotate_left 1
      · have c2' : ¬ way < 3 := fun z => c2 (decide_eq_true z)
        walk_at "g"
        refine ⟨b, .ref a, _, ns, M, rfl, hB1, hM.gr g1, hR.sx sM1, hne, hl, by omega, by omega, fun v4 H2 d4 s2 g2 hB2 hR4 hd4 => ?_⟩
        obtain ⟨f4, rfl, l4, o4⟩ := hd4
        have sM2 : Sx M H1 H2 := s2.le (one_le hw)
        walk_at "g"
        refine ⟨b, .ref a, _, ns, M, rfl, hB2, hM.gr (g1.trans g2), hR.sx (sM1.trans sM2), hne, hl, by omega, by omega, fun v5 H3 d5 s3 g3 hB3 hR5 hd5 => ?_⟩
        obtain ⟨f5, rfl, l5, o5⟩ := hd5
        have sM3 : Sx M H2 H3 := s3.le (one_le hw)
        have hR4' := hR4.sx sM3
        walk_at "g"
        walk_at "if"
        · rename_i c3
          have c3' : way < 6 := of_decide_eq_true c3
          have sf : ∀ p o, H3 p = none → Sx (one b) H (upd H3 p o) := fun p o hp => hA1.sx.trans (s2.trans (s3.trans (Sx.new hp)))
          have gf : ∀ p o, Gr H (upd H3 p o) := fun p o => g1.trans (g2.trans (g3.trans Gr.upd))
          obtain e | e | e : way = 3 ∨ way = 4 ∨ way = 5 := by omega
          all_goals
            subst e
            walk_at "g"
            refine ⟨szK rfl, fun p hp => ?_⟩
            walk_at "g"
            refine ⟨szK rfl, fun p2 hp2 => ?_⟩
          · exact fin (.sum f4 f5) _ p2 _ (sf _ _ hp) (gf _ _) (hB3.same (same_new hp)) hp2 (.sum ((hR4'.sx (Sx.new hp)).sx (Sx.new hp2)) ((hR5.sx (Sx.new hp)).sx (Sx.new hp2))) (rest f4 f5 l4 l5) ⟨o4, o5⟩
          · exact fin (.sum f4 f5) _ p2 _ (sf _ _ hp) (gf _ _) (hB3.same (same_new hp)) hp2 (.sum ((hR4'.sx (Sx.new hp)).sx (Sx.new hp2)) ((hR5.sx (Sx.new hp)).sx (Sx.new hp2))) (rest f4 f5 l4 l5) ⟨o4, o5⟩
          · exact fin (.same f4 f5) _ p2 _ (sf _ _ hp) (gf _ _) (hB3.same (same_new hp)) hp2 (.same ((hR4'.sx (Sx.new hp)).sx (Sx.new hp2)) ((hR5.sx (Sx.new hp)).sx (Sx.new hp2))) (rest f4 f5 l4 l5) ⟨o4, o5⟩
        · walk_at "g"
          refine ⟨b, .ref a, _, ns, M, rfl, hB3, hM.gr (g1.trans (g2.trans g3)), hR.sx (sM1.trans (sM2.trans sM3)), hne, hl, by omega, by omega, fun v6 H4 d6 s4 g4 hB4 hR6 hd6 => ?_⟩
          obtain ⟨f6, rfl, l6, o6⟩ := hd6
          have sM4 : Sx M H3 H4 := s4.le (one_le hw)
          refine ⟨szK rfl, fun p2 hp2 => ?_⟩
          exact fin (.pick f4 f5 f6) _ p2 _ (hA1.sx.trans (s2.trans (s3.trans s4))) (g1.trans (g2.trans (g3.trans g4))) hB4 hp2 (.pick ((hR4'.sx sM4).sx (Sx.new hp2)) ((hR5.sx sM4).sx (Sx.new hp2)) (hR6.sx (Sx.new hp2))) (rest3 f4 f5 f6 l4 l5 l6) ⟨o4, o5, o6⟩
      walk_at "g"
      have hS1 : SqL K H1 a (ns.map V.str) := sx_l hA1.sx (fun z : a = b => hab z) (.inl ha)
      refine ⟨true, .inl ⟨ns.map V.str, hS1, by cases ns with | nil => exact absurd rfl hne | cons _ _ => rfl⟩, ?_⟩
      walk_at "g"
      have one_lv : ((1 : Nat) : Int) ≤ lv := by omega
      have get : ∀ H2, At b H1 H2 → Bag K M H2 b → Gr H H2 → sp_choice K ([.ref b, .ref a] ++ []) H2 (fun v H3 => [V.str sGet, v].length ≤ sizeLine ∧ ∀ p, H3 p = none → Q (.ref p) (upd H3 p (.tup [.str sGet, v]))) E0 := fun H2 hA2 hB2 g2 => by
        refine ⟨b, a, _, M, rfl, hB2, sx_l hA2.sx (fun z : a = b => hab z) hS1, hab, by rw [List.length_map]; exact hpos, by rw [List.length_map]; exact hl, fun v H3 hv hA3 hB3 => ?_⟩
        obtain ⟨x, hx, rfl⟩ := List.mem_map.mp hv
        refine ⟨szK rfl, fun p hp => ?_⟩
        exact fin (.get x) _ p _ (hA1.sx.trans (hA2.sx.trans hA3.sx)) (g2.trans (At.gr hA3 hB3.there)) hB3 hp (.get x) one_lv hx
      walk_at "if"
      · walk_at "g"
        refine ⟨b, _, M, rfl, hB1, by omega, by omega, fun w2 H2 k0 k1 hA2 hB2 => ?_⟩
        walk_at "g"
        have g2 := g1.trans (At.gr hA2 hB2.there)
        walk_at "if"
        · walk_at "g"
          refine ⟨b, _, M, rfl, hB2, by omega, by omega, fun w3 H3 m0 m1 hA3 hB3 => ?_⟩
          refine ⟨szK rfl, fun p hp => ?_⟩
          exact fin (.is w3) _ p _ (hA1.sx.trans (hA2.sx.trans hA3.sx)) (g2.trans (At.gr hA3 hB3.there)) hB3 hp (.is _) one_lv ⟨m0, by omega⟩
        · walk_at "g"
          exact get H2 hA2 hB2 g2
      · walk_at "g"
        exact get H1 (fun _ _ => rfl) hB1 g1
    walk_at "g"
    have hS1 : SqL K H1 a (ns.map V.str) := sx_l hA1.sx (fun z : a = b => hab z) (.inl ha)
    refine ⟨true, .inl ⟨ns.map V.str, hS1, by cases ns with | nil => exact absurd rfl hne | cons _ _ => rfl⟩, ?_⟩
    walk_at "g"
    have one_lv : ((1 : Nat) : Int) ≤ lv := by omega
    have get : ∀ H2, At b H1 H2 → Bag K M H2 b → Gr H H2 → sp_choice K ([.ref b, .ref a] ++ []) H2 (fun v H3 => [V.str sGet, v].length ≤ sizeLine ∧ ∀ p, H3 p = none → Q (.ref p) (upd H3 p (.tup [.str sGet, v]))) E0 := fun H2 hA2 hB2 g2 => by
      refine ⟨b, a, _, M, rfl, hB2, sx_l hA2.sx (fun z : a = b => hab z) hS1, hab, by rw [List.length_map]; exact hpos, by rw [List.length_map]; exact hl, fun v H3 hv hA3 hB3 => ?_⟩
      obtain ⟨x, hx, rfl⟩ := List.mem_map.mp hv
      refine ⟨szK rfl, fun p hp => ?_⟩
      exact fin (.get x) _ p _ (hA1.sx.trans (hA2.sx.trans hA3.sx)) (g2.trans (At.gr hA3 hB3.there)) hB3 hp (.get x) one_lv hx
    walk_at "if"
    · walk_at "g"
      refine ⟨b, _, M, rfl, hB1, by omega, by omega, fun w2 H2 k0 k1 hA2 hB2 => ?_⟩
      walk_at "g"
      have g2 := g1.trans (At.gr hA2 hB2.there)
      walk_at "if"
      · walk_at "g"
        refine ⟨b, _, M, rfl, hB2, by omega, by omega, fun w3 H3 m0 m1 hA3 hB3 => ?_⟩
        refine ⟨szK rfl, fun p hp => ?_⟩
        exact fin (.is w3) _ p _ (hA1.sx.trans (hA2.sx.trans hA3.sx)) (g2.trans (At.gr hA3 hB3.there)) hB3 hp (.is _) one_lv ⟨m0, by omega⟩
      · walk_at "g"
        exact get H2 hA2 hB2 g2
    · walk_at "g"
      exact get H1 (fun _ _ => rfl) hB1 g1
end
end D

namespace D
open PySem PySem.Spec PyProof.Rows L2
local macro_rules | `(tactic| walk_at "st") => `(tactic| first | exact SqT.of (by assumption) | exact Or.inl (by assumption) | exact SqT.of upd_same | fail "st")
local macro_rules | `(tactic| walk_at "ixt") => `(tactic| refine ⟨_, _, _, _, rfl, rfl, (by walk_at "st" : SqT _ _ _ _), by rfl, ?_⟩)
local macro_rules | `(tactic| walk_at "sq") => `(tactic| first | exact SqL.of (by assumption) | assumption | exact Or.inl (by assumption) | exact SqL.of upd_same | fail "sq")
local macro_rules | `(tactic| walk_at "ix") => `(tactic| refine ⟨_, _, _, _, rfl, rfl, (by walk_at "sq" : SqL _ _ _ _), by rfl, ?_⟩)
local macro_rules | `(tactic| walk_at "set") => `(tactic| refine ⟨_, _, _, _, rfl, rfl, by first | assumption | exact upd_same, by rfl, ?_⟩)
local macro_rules | `(tactic| walk_at "len") => `(tactic| refine ⟨_, _, rfl, Or.inl (by walk_at "sq" : SqL _ _ _ _), ?_⟩)
local macro_rules | `(tactic| walk_at "g") => `(tactic| repeat (first | refine ⟨_, rfl, ?_⟩ | refine ⟨_, _, rfl, rfl, ?_⟩ | refine ⟨Or.inr (by decide), ?_⟩ | refine ⟨Or.inl (by decide), ?_⟩ | refine ⟨(by decide : (0 : Int) < _), ?_⟩ | refine ⟨(⟨by decide, by decide⟩ : CDiv _ _), ?_⟩ | refine ⟨(⟨by decide, by decide, by decide⟩ : CPow _ _), ?_⟩ | refine Or.inl ⟨_, rfl, ?_⟩ | refine ⟨rfl, ?_⟩ | walk_at "ix" | walk_at "ixt" | walk_at "len" | fail "g"))
local macro_rules | `(tactic| walk_at "if") => `(tactic| refine ite2 (fun e => ?_) (fun e => ?_))
section
variable {P : Program} {w : World} {K : PySem.W.Frag} {mg : Str → Option Value} {base : Heap}
def sp_anyKey (K : PySem.W.Frag) : Sp := fun vs H Q _ => ∃ (b : Addr) (M : Ms), vs = [.ref b] ∧ Bag K M H b ∧ Mk M H ∧ Dr K M b H (fun x => ∃ f : Fm, x = f.enc ∧ goodKey f) Q
theorem ok_anyKey (T : Txt K mg) : FnOk P w K mg base CX0 9 T.f__law_any_key T.d__law_any_key ["_law_bag_here"] (sp_anyKey K) := by
  have G__law_pick := ok_pick (P := P) (w := w) (base := base) T
  have G__law_choice := ok_choice (P := P) (w := w) (base := base) T
  have G__law_form := ok_form (P := P) (w := w) (base := base) T 5
  refine T.F__law_any_key.ok sc__law_any_key (fun vs H Q E h => ?_) (fun cdv A outer s H vs Q E hr h => ?_)
  · obtain ⟨_, _, rfl, _⟩ := h
    rfl
  · obtain ⟨b, M, rfl, hB, hM, q⟩ := h
    refine ⟨_, (pss_cons (ps_set (i := 1) sc__law_any_key.nd rfl (Or.inl rfl) (pe_call G__law_pick (hr.mono (by omega)) (by rfl) T.g__law_pick T.F__law_pick.kp T.b__law_pick .nil pass0 (pa_cons (pv 0) (pa_cons pe_int pa_nil))))
      (pss_cons (ps_set (i := 2) sc__law_any_key.nd rfl (Or.inl rfl) (pe_call G__law_choice (hr.mono (by omega)) (by rfl) T.g__law_choice T.F__law_choice.kp T.b__law_choice .nil pass0 (pa_cons (pv 0) (pa_cons (pe_lst (pa_cons pe_int (pa_cons pe_int (pa_cons pe_int (pa_cons pe_int (pa_cons pe_int (pa_cons pe_int (pa_cons pe_int (pa_cons pe_int (pa_cons pe_int (pa_cons pe_int (pa_cons pe_int pa_nil)))))))))))) pa_nil))))
      (pss_cons (ps_set (i := 3) sc__law_any_key.nd rfl (Or.inl rfl) (pe_call G__law_choice (hr.mono (by omega)) (by rfl) T.g__law_choice T.F__law_choice.kp T.b__law_choice .nil pass0 (pa_cons (pv 0) (pa_cons (pe_lst (pa_cons pe_int (pa_cons pe_int (pa_cons pe_int (pa_cons pe_int (pa_cons pe_int (pa_cons pe_int pa_nil))))))) pa_nil))))
      (pss_cons (ps_set (i := 4) sc__law_any_key.nd rfl (Or.inl rfl) (pe_tup (pa_cons pe_str (pa_cons pe_str pa_nil))))
      (pss_cons (ps_if (pt_cmpR op_eq (pv 1) pe_int (nomark _)) (pss_one (ps_ret (pv 4))) pss_nil)
      (pss_cons (ps_if (pt_cmpR op_eq (pv 1) pe_int (nomark _)) (pss_one (ps_ret (pe_tup (pa_cons pe_str (pa_cons pe_str pa_nil))))) pss_nil)
      (pss_cons (ps_if (pt_cmpR op_eq (pv 1) pe_int (nomark _)) (pss_one (ps_ret (pe_tup (pa_cons pe_str (pa_cons (pv 2) pa_nil))))) pss_nil)
      (pss_cons (ps_if (pt_cmpR op_eq (pv 1) pe_int (nomark _)) (pss_one (ps_ret (pe_tup (pa_cons pe_str (pa_cons (pv 4) (pa_cons (pe_tup (pa_cons pe_str (pa_cons (pv 2) pa_nil))) pa_nil)))))) pss_nil)
      (pss_cons (ps_if (pt_cmpR op_eq (pv 1) pe_int (nomark _)) (pss_one (ps_ret (pe_tup (pa_cons pe_str (pa_cons (pv 4) (pa_cons (pv 4) pa_nil)))))) pss_nil)
      (pss_cons (ps_if (pt_cmpR op_eq (pv 1) pe_int (nomark _)) (pss_one (ps_ret (pe_tup (pa_cons pe_str (pa_cons (pv 4) (pa_cons (pe_tup (pa_cons pe_str (pa_cons (pv 2) pa_nil))) pa_nil)))))) pss_nil)
      (pss_cons (ps_if (pt_cmpR op_eq (pv 1) pe_int (nomark _)) (pss_one (ps_ret (pe_tup (pa_cons pe_str (pa_cons (pe_tup (pa_cons pe_str (pa_cons (pv 4) (pa_cons (pe_tup (pa_cons pe_str (pa_cons (pv 2) pa_nil))) pa_nil)))) (pa_cons (pe_tup (pa_cons pe_str (pa_cons (pe_call G__law_pick (hr.mono (by omega)) (by rfl) T.g__law_pick T.F__law_pick.kp T.b__law_pick .nil pass0 (pa_cons (pv 0) (pa_cons pe_int pa_nil))) pa_nil))) (pa_cons (pv 4) pa_nil))))))) pss_nil)
      (pss_cons (ps_if (pt_cmpR op_eq (pv 1) pe_int (nomark _)) (pss_one (ps_ret (pe_tup (pa_cons pe_str (pa_cons (pv 4) (pa_cons (pe_tup (pa_cons pe_str (pa_cons pe_str pa_nil))) pa_nil)))))) pss_nil)
      (pss_cons (ps_if (pt_cmpR op_eq (pv 1) pe_int (nomark _)) (pss_one (ps_ret (pe_tup (pa_cons pe_str (pa_cons (pe_tup (pa_cons pe_str (pa_cons (pe_tup (pa_cons pe_str (pa_cons pe_str pa_nil))) (pa_cons (pe_tup (pa_cons pe_str (pa_cons (pv 3) pa_nil))) pa_nil)))) (pa_cons (pe_tup (pa_cons pe_str (pa_cons (pv 2) pa_nil))) (pa_cons (pv 4) pa_nil))))))) pss_nil)
      (pss_one (ps_ret (pe_call G__law_form (hr.mono (by omega)) (by rfl) T.g__law_form T.F__law_form.kp T.b__law_form .nil pass0 (pa_cons (pv 0) (pa_cons (pe_lst (pa_cons pe_str (pa_cons pe_str pa_nil))) (pa_cons (pe_op op_add pe_int (pe_call G__law_pick (hr.mono (by omega)) (by rfl) T.g__law_pick T.F__law_pick.kp T.b__law_pick .nil pass0 (pa_cons (pv 0) (pa_cons pe_int pa_nil)))) pa_nil))))))))))))))))))), ?_⟩
    have hw := hB.w
    walk_at "g"
    refine ⟨b, _, M, rfl, hB, by omega, by omega, fun way H1 h0 h1 hA1 hB1 => ?_⟩
    walk_at "g"
    walk_at "g"
    refine ⟨szK rfl, fun p1 hp1 => ?_⟩
    have n1 : p1 ≠ b := fun z => hB1.there (by rw [← z]; exact hp1)
    refine ⟨b, p1, _, M, rfl, hB1.same (same_new hp1), SqL.of upd_same, n1, by decide, by decide, fun v2 H2 hv2 hA2 hB2 => ?_⟩
    obtain ⟨worth, rfl, w0, w9⟩ := ints_mem (l := [9, 9, 0, 1, 2, 3, 4, 5, 6, 7, 8]) (by decide) hv2
    walk_at "g"
    walk_at "g"
    refine ⟨szK rfl, fun p2 hp2 => ?_⟩
    have n2 : p2 ≠ b := fun z => hB2.there (by rw [← z]; exact hp2)
    refine ⟨b, p2, _, M, rfl, hB2.same (same_new hp2), SqL.of upd_same, n2, by decide, by decide, fun v3 H3 hv3 hA3 hB3 => ?_⟩
    obtain ⟨spot, rfl, t0, t9⟩ := ints_mem (l := [4, 4, 0, 1, 2, 3]) (by decide) hv3
    walk_at "g"
    walk_at "g"
    refine ⟨szK rfl, fun p4 hp4 => ?_⟩
    have s4 : Sx (one b) H (upd H3 p4 (.tup [.str (Str.ofString "get"), .str (Str.ofString "item")])) := hA1.sx.trans ((Sx.new hp1).trans (hA2.sx.trans ((Sx.new hp2).trans (hA3.sx.trans (Sx.new hp4)))))
    have g4 : Gr H (upd H3 p4 (.tup [.str (Str.ofString "get"), .str (Str.ofString "item")])) := (At.gr hA1 hB1.there).trans (Gr.upd.trans ((At.gr hA2 hB2.there).trans (Gr.upd.trans ((At.gr hA3 hB3.there).trans Gr.upd))))
    have g3 : Gr H H3 := (At.gr hA1 hB1.there).trans (Gr.upd.trans ((At.gr hA2 hB2.there).trans (Gr.upd.trans (At.gr hA3 hB3.there))))
    have hB4 : Bag K M (upd H3 p4 (.tup [.str (Str.ofString "get"), .str (Str.ofString "item")])) b := hB3.same (same_new hp4)
    have hI : Rp M (upd H3 p4 (.tup [.str (Str.ofString "get"), .str (Str.ofString "item")])) (.ref p4) (Fm.get sItem).enc := Rp.newT (hM.gr g3) hp4 (.cons (.str _) (.one (.str _)))
    have hM4 := hM.gr g4
    generalize upd H3 p4 (.tup [.str (Str.ofString "get"), .str (Str.ofString "item")]) = H4 at s4 g4 hB4 hI hM4
    have fin : ∀ (f : Fm) v H', Sx (one b) H4 H' → Gr H4 H' → Bag K M H' b → Rp M H' v f.enc → f.dep ≤ 5 → f.ok isKN → Q v H' := fun f v H' sx gr hB' r d o => q v H' f.enc (s4.trans sx) (g4.trans gr) hB' r ⟨f, rfl, d, o⟩
    have finS : ∀ (f : Fm) v H', Same H4 H' → Rp M H' v f.enc → f.dep ≤ 5 → f.ok isKN → Q v H' := fun f v H' ss r d o => fin f v H' (Sx.same ss) (Gr.same ss) (hB4.same ss) r d o
    have kI : isKN sItem := .inl rfl
    have kA : isKN sAt := .inr rfl
    walk_at "g"
    walk_at "if"
    · walk_at "g"
      exact finS (.get sItem) _ _ (Same.refl _) hI (Nat.le_of_ble_eq_true rfl) kI
    walk_at "g"
    walk_at "if"
    · walk_at "g"
      walk_at "g"
      refine ⟨szK rfl, fun p5 hp5 => ?_⟩
      exact finS (.get sAt) _ _ (same_new hp5) (Rp.newT hM4 hp5 (.cons (.str _) (.one (.str _)))) (Nat.le_of_ble_eq_true rfl) kA
    walk_at "g"
    walk_at "if"
    · walk_at "g"
      walk_at "g"
      refine ⟨szK rfl, fun p5 hp5 => ?_⟩
      exact finS (.is worth) _ _ (same_new hp5) (Rp.newT hM4 hp5 (.cons (.str _) (.one (.int _)))) (Nat.le_of_ble_eq_true rfl) ⟨w0, w9⟩
    walk_at "g"
    walk_at "if"
    · walk_at "g"
      walk_at "g"
      refine ⟨szK rfl, fun p5 hp5 => ?_⟩
      walk_at "g"
      refine ⟨szK rfl, fun p6 hp6 => ?_⟩
      exact finS (.sum (.get sItem) (.is worth)) _ _ ((same_new hp5).trans (same_new hp6)) (Rp.newT hM4.new hp6 (.cons (.str _) (.cons (hI.sx (Sx.new hp5)) (.one (Rp.newT hM4 hp5 (.cons (.str _) (.one (.int _)))))))) (Nat.le_of_ble_eq_true rfl) ⟨kI, w0, w9⟩
    walk_at "g"
    walk_at "if"
    · walk_at "g"
      walk_at "g"
      refine ⟨szK rfl, fun p5 hp5 => ?_⟩
      exact finS (.sum (.get sItem) (.get sItem)) _ _ (same_new hp5) (Rp.newT hM4 hp5 (.cons (.str _) (.cons hI (.one hI)))) (Nat.le_of_ble_eq_true rfl) ⟨kI, kI⟩
    walk_at "g"
    walk_at "if"
    · walk_at "g"
      walk_at "g"
      refine ⟨szK rfl, fun p5 hp5 => ?_⟩
      walk_at "g"
      refine ⟨szK rfl, fun p6 hp6 => ?_⟩
      exact finS (.same (.get sItem) (.is worth)) _ _ ((same_new hp5).trans (same_new hp6)) (Rp.newT hM4.new hp6 (.cons (.str _) (.cons (hI.sx (Sx.new hp5)) (.one (Rp.newT hM4 hp5 (.cons (.str _) (.one (.int _)))))))) (Nat.le_of_ble_eq_true rfl) ⟨kI, w0, w9⟩
    walk_at "g"
    walk_at "if"
    · walk_at "g"
      walk_at "g"
      refine ⟨szK rfl, fun p5 hp5 => ?_⟩
      walk_at "g"
      refine ⟨szK rfl, fun p6 hp6 => ?_⟩
      have r6 : Rp M _ (.ref p6) (Fm.same (.get sItem) (.is worth)).enc := Rp.newT hM4.new hp6 (.cons (.str _) (.cons (hI.sx (Sx.new hp5)) (.one (Rp.newT hM4 hp5 (.cons (.str _) (.one (.int _)))))))
      walk_at "g"
      refine ⟨b, _, M, rfl, (hB4.same (same_new hp5)).same (same_new hp6), by omega, by omega, fun w7 H7 k0 k1 hA7 hB7 => ?_⟩
      have s7 := hA7.sx.le (one_le hw)
      have g7 := At.gr hA7 hB7.there
      have hM7 := (hM4.new.new).gr g7
      walk_at "g"
      refine ⟨szK rfl, fun p8 hp8 => ?_⟩
      walk_at "g"
      refine ⟨szK rfl, fun p9 hp9 => ?_⟩
      refine fin (.pick (.same (.get sItem) (.is worth)) (.is w7) (.get sItem)) _ _ ((Sx.new hp5).trans ((Sx.new hp6).trans (hA7.sx.trans ((Sx.new hp8).trans (Sx.new hp9))))) (Gr.upd.trans (Gr.upd.trans (g7.trans (Gr.upd.trans Gr.upd)))) ((hB7.same (same_new hp8)).same (same_new hp9)) ?_ (Nat.le_of_ble_eq_true rfl) ⟨⟨kI, w0, w9⟩, ⟨k0, by omega⟩, kI⟩
      exact Rp.newT hM7.new hp9 (.cons (.str _) (.cons ((r6.sx s7).sx (Sx.new hp8)) (.cons (Rp.newT hM7 hp8 (.cons (.str _) (.one (.int _)))) (.one ((((hI.sx (Sx.new hp5)).sx (Sx.new hp6)).sx s7).sx (Sx.new hp8))))))
    walk_at "g"
    walk_at "if"
    · walk_at "g"
      walk_at "g"
      refine ⟨szK rfl, fun p5 hp5 => ?_⟩
      walk_at "g"
      refine ⟨szK rfl, fun p6 hp6 => ?_⟩
      exact finS (.sum (.get sItem) (.get sAt)) _ _ ((same_new hp5).trans (same_new hp6)) (Rp.newT hM4.new hp6 (.cons (.str _) (.cons (hI.sx (Sx.new hp5)) (.one (Rp.newT hM4 hp5 (.cons (.str _) (.one (.str _)))))))) (Nat.le_of_ble_eq_true rfl) ⟨kI, kA⟩
    walk_at "g"
    walk_at "if"
    · walk_at "g"
      walk_at "g"
      refine ⟨szK rfl, fun p5 hp5 => ?_⟩
      walk_at "g"
      refine ⟨szK rfl, fun p6 hp6 => ?_⟩
      walk_at "g"
      refine ⟨szK rfl, fun p7 hp7 => ?_⟩
      walk_at "g"
      walk_at "g"
      refine ⟨szK rfl, fun p8 hp8 => ?_⟩
      walk_at "g"
      walk_at "g"
      refine ⟨szK rfl, fun p9 hp9 => ?_⟩
      refine finS (.pick (.same (.get sAt) (.is spot)) (.is worth) (.get sItem)) _ _ ((same_new hp5).trans ((same_new hp6).trans ((same_new hp7).trans ((same_new hp8).trans (same_new hp9))))) ?_ (Nat.le_of_ble_eq_true rfl) ⟨⟨kA, t0, t9⟩, ⟨w0, w9⟩, kI⟩
      exact Rp.newT hM4.new.new.new.new hp9 (.cons (.str _) (.cons ((Rp.newT hM4.new.new hp7 (.cons (.str _) (.cons ((Rp.newT hM4 hp5 (.cons (.str _) (.one (.str _)))).sx (Sx.new hp6)) (.one (Rp.newT hM4.new hp6 (.cons (.str _) (.one (.int _)))))))).sx (Sx.new hp8)) (.cons (Rp.newT hM4.new.new.new hp8 (.cons (.str _) (.one (.int _)))) (.one ((((hI.sx (Sx.new hp5)).sx (Sx.new hp6)).sx (Sx.new hp7)).sx (Sx.new hp8))))))
    walk_at "g"
    walk_at "g"
    refine ⟨szK rfl, fun p5 hp5 => ?_⟩
    walk_at "g"
    refine ⟨b, _, M, rfl, hB4.same (same_new hp5), by omega, by omega, fun w7 H7 k0 k1 hA7 hB7 => ?_⟩
    have s7 := hA7.sx.le (one_le hw)
    have g7 := At.gr hA7 hB7.there
    have r5 : Rp M _ (.ref p5) (namesD [sItem, sAt]) := (Rp.newL hM4 hp5 (RpAll.strs [sItem, sAt])).sx s7
    walk_at "g"
    refine ⟨b, .ref p5, _, [sItem, sAt], M, rfl, hB7, hM4.new.gr g7, r5, by simp, by decide, by omega, by omega, fun v H8 d s8 g8 hB8 r8 hd => ?_⟩
    obtain ⟨f, rfl, l8, o8⟩ := hd
    exact fin f v H8 ((Sx.new hp5).trans (hA7.sx.trans s8)) (Gr.upd.trans (g7.trans g8)) hB8 r8 (by omega) (f.ok_imp (fun x hx => by
      rcases List.mem_cons.mp hx with e | hx
      · exact .inl e
      · exact .inr (List.mem_singleton.mp hx)) o8)
end
end D

namespace D
open PySem PySem.Spec PyProof.Rows L2
local macro_rules | `(tactic| walk_at "st") => `(tactic| first | exact SqT.of (by assumption) | exact Or.inl (by assumption) | exact SqT.of upd_same | fail "st")
local macro_rules | `(tactic| walk_at "ixt") => `(tactic| refine ⟨_, _, _, _, rfl, rfl, (by walk_at "st" : SqT _ _ _ _), by rfl, ?_⟩)
local macro_rules | `(tactic| walk_at "sq") => `(tactic| first | exact SqL.of (by assumption) | assumption | exact Or.inl (by assumption) | exact SqL.of upd_same | fail "sq")
local macro_rules | `(tactic| walk_at "ix") => `(tactic| refine ⟨_, _, _, _, rfl, rfl, (by walk_at "sq" : SqL _ _ _ _), by rfl, ?_⟩)
local macro_rules | `(tactic| walk_at "set") => `(tactic| refine ⟨_, _, _, _, rfl, rfl, by first | assumption | exact upd_same, by rfl, ?_⟩)
local macro_rules | `(tactic| walk_at "len") => `(tactic| refine ⟨_, _, rfl, Or.inl (by walk_at "sq" : SqL _ _ _ _), ?_⟩)
local macro_rules | `(tactic| walk_at "g") => `(tactic| repeat (first | refine ⟨_, rfl, ?_⟩ | refine ⟨_, _, rfl, rfl, ?_⟩ | refine ⟨Or.inr (by decide), ?_⟩ | refine ⟨Or.inl (by decide), ?_⟩ | refine ⟨(by decide : (0 : Int) < _), ?_⟩ | refine ⟨(⟨by decide, by decide⟩ : CDiv _ _), ?_⟩ | refine ⟨(⟨by decide, by decide, by decide⟩ : CPow _ _), ?_⟩ | refine Or.inl ⟨_, rfl, ?_⟩ | refine ⟨rfl, ?_⟩ | walk_at "ix" | walk_at "ixt" | walk_at "len" | fail "g"))
local macro_rules | `(tactic| walk_at "if") => `(tactic| refine ite2 (fun e => ?_) (fun e => ?_))
section
variable {P : Program} {w : World} {K : PySem.W.Frag} {mg : Str → Option Value} {base : Heap}
def sp_lids : Sp := fun vs H Q _ => ∃ (k v : V) (f : Fm) (ns : List Int) (M : Ms), vs = [k, v] ∧ Rp M H k f.enc ∧ goodKey f ∧ RowAt M H v ns ∧ ns.length ≤ 5 ∧ Mk M H ∧ Pu M H (fun d => d = .list (idsOf (wsOf f ns))) Q
theorem ids_take {ws : List Int} {i : Nat} {w' : Int} (h : ws[i]? = some w') : (idsOf ws).take (i + 1) = (idsOf ws).take i ++ [.tuple [.int w', .int ((ws.take i).count w' : Nat)]] := by
  rw [List.take_add_one]
  congr 1
  unfold idsOf
  rw [List.getElem?_mapIdx, h]
  rfl
theorem ok_lids (T : Txt K mg) : FnOk P w K mg base CX0 7 T.f__law_idents T.d__law_idents ["_law_key", "_law_row"] (sp_lids) := by
  have G__law_value := ok_law_value (P := P) (w := w) (base := base) T 5
  refine T.F__law_idents.ok sc__law_idents (fun vs H Q E h => ?_) (fun cdv A outer s H vs Q E hr h => ?_)
  · obtain ⟨_, _, _, _, _, rfl, _⟩ := h
    rfl
  · obtain ⟨k, v, f, ns, M, rfl, hK, hg, hR, h5, hM, q⟩ := h
    obtain ⟨b, rfl, nb, hb⟩ := hR
    refine ⟨_, (pss_cons (ps_set (i := 2) sc__law_idents.nd rfl (Or.inl rfl) (pe_lst pa_nil))
      (pss_cons (ps_for PassesOwn.never rfl (pi_enumTK (K := K) rfl (by rfl) T.m_enumerate (pa_cons (pv 1) pa_nil)) (pg_tupK (K := K) rfl rfl (pgs_cons (pg_name (i := 3) sc__law_idents.nd rfl (Or.inl rfl)) (pgs_cons (pg_name (i := 4) sc__law_idents.nd rfl (Or.inl rfl)) pgs_nil))) (pss_cons (ps_set (i := 5) sc__law_idents.nd rfl (Or.inr rfl) (pe_call G__law_value (hr.mono (by omega)) (by rfl) T.g__law_value T.F__law_value.kp T.b__law_value .nil pass0 (pa_cons (pv 0) (pa_cons (pe_disp (pps_cons pe_str (pv 4) (pps_cons pe_str (pv 3) pps_nil)) (by rfl) (by rfl) (fun z => by cases z) (by decide)) pa_nil))))
      (pss_one (ps_expr (pe_bmK2 (K := K) rfl PySem.F.plainAttrs_list PySem.F.slot_list_append PySem.F.type_list_append mt_append (pv 2) (pa_cons (pe_tup (pa_cons (pv 5) (pa_cons (pe_callB (call_lenK (K := K) rfl) (by rfl) T.m_len PySem.boot_len (pa_cons (pe_lc (own := [("_law_told", 6)]) (g := gName 6)  (by rfl) sc__law_idents.nd (pi_listK (K := K) rfl (pv 2)) (blkOk_by (own := [("_law_told", 6)]) (N := ["_law_key", "_law_row", "_law_out", "_law_at", "_law_item", "_law_worth", "_law_told"]) (sc := defScope s__law_idents) (by decide +kernel)) (fun _ _ _ _ _ => (pg_name (i := 6) sc__law_idents.nd rfl (Or.inl rfl))) (fun _ _ _ _ _ => (pts_one (pt_cmpR op_eq (pe_ix (ix_tupK (K := K) rfl) (pv 6) pe_int (fun _ _ => rfl)) (pv 5) (nomark _)))) (fun _ _ _ _ _ => (pv 6))) pa_nil)) pa_nil))) pa_nil))))))
      (pss_one (ps_ret (pv 2))))), ?_⟩
    walk_at "g"
    refine ⟨szK rfl, fun o ho => ?_⟩
    walk_at "g"
    refine ⟨b, _, rfl, .inl (by have := same_rd (same_new (o := .lst []) ho) hb; exact this), ?_⟩
    have hlw : (wsOf f ns).length = ns.length := List.length_mapIdx
    refine for_enumT (K := K) (a := b) (xs := ns.map V.int) (fun i σ H' => ∃ y3 y4 y5 y6, σ = [some k, some (.ref b), some (.ref o), y3, y4, y5, y6] ∧ Same H H' ∧ ∃ acc, H' o = some (.lst acc) ∧ RpAll (also M o) H' acc ((idsOf (wsOf f ns)).take i)) ⟨_, _, _, _, rfl, same_new ho, [], upd_same, .nil⟩ (fun i σ H' _ p => ?_) (fun i x T' σ H' hx hT p => ?_) (fun σ H' p => ?_)
    · obtain ⟨_, _, _, _, rfl, hs, _⟩ := p
      exact same_sqt hs (.inl hb)
    · obtain ⟨_, _, _, _, rfl, hs, acc, eo, ra⟩ := p
      rw [List.getElem?_map] at hx
      obtain ⟨n, hn, rfl⟩ := Option.map_eq_some_iff.mp hx
      have hi : i < ns.length := (List.getElem?_eq_some_iff.mp hn).1
      have hw' : (wsOf f ns)[i]? = some (kval f n (i : Nat)) := by
        unfold wsOf
        rw [List.getElem?_mapIdx, hn]
        rfl
      generalize hws : wsOf f ns = ws at *
      have s1 : Same H' (upd H' T' (.tup [.int (i : Nat), .int n])) := same_new hT
      refine ⟨T', _, rfl, SqT.of upd_same, rfl, _, _, rfl, _, _, rfl, rfl, ?_⟩
      walk_at "g"
      intro p hp
      walk_at "g"
      refine ⟨upd_same, [(Sum.inr sItem, .int n), (Sum.inr sAt, .int (i : Nat))], rfl, (by show 2 ≤ 15; decide), ?_⟩
      rw [upd_upd]
      have s2 := same_new (o := .dK (mergeK [] [((Sum.inr sItem : Key), V.int n), (Sum.inr sAt, V.int (i : Nat))])) hp
      have s12 := s1.trans s2
      refine ⟨k, p, f, M, _, rho n (i : Nat), isKN, rfl, hK.sx (Sx.same (hs.trans s12)), hg.1, hg.2, upd_same, env_kvs n (i : Nat), ?_⟩
      walk_at "g"
      have eo' := s12 _ _ eo
      have ra' := (ra.sx (Sx.same s12))
      have hs' := hs.trans s12
      generalize upd (upd H' T' (.tup [.int (i : Nat), .int n])) p (.dK (mergeK [] [((Sum.inr sItem : Key), V.int n), (Sum.inr sAt, V.int (i : Nat))])) = Hc at eo' ra' hs'
      have lacc : acc.length = i := by
        have := ra.length
        have l2 : (idsOf ws).length = ws.length := List.length_mapIdx
        rw [List.length_take] at this
        omega
      refine ⟨.inl ⟨rfl, _, SqL.of eo'⟩, ?_⟩
      walk_at "g"
      refine ⟨⟨acc, SqL.of eo'⟩, fun D hD => ?_⟩
      have nDo : D ≠ o := fun z => by rw [z, eo'] at hD; cases hD
      refine list_loop (xs := acc) (fun j H2 => Same Hc H2 ∧ ∃ acc2, H2 D = some (.lst acc2) ∧ acc2.length = ((ws.take i).take j).count (kval f n (i : Nat))) ⟨same_new hD, [], upd_same, by rw [List.take_zero, List.count_nil]; rfl⟩ (fun j H2 _ pp => SqL.of (pp.1 _ _ eo')) (fun j x H2 hx2 pp => ?_) (fun H2 pp => ?_)
      · obtain ⟨s5, acc2, e5, l5⟩ := pp
        obtain ⟨d, hd, rd⟩ := (ra'.sx (Sx.same s5)).get hx2
        have hj : j < i := by
          have := (List.getElem?_eq_some_iff.mp hx2).1
          omega
        rw [List.getElem?_take_of_lt hj] at hd
        unfold idsOf at hd
        rw [List.getElem?_mapIdx] at hd
        obtain ⟨u, hu, rfl⟩ := Option.map_eq_some_iff.mp hd
        obtain ⟨a0, xs0, rfl, na0, ha0, rx0⟩ := Rp.tupN rd
        obtain ⟨v1, v2, rfl, r1, r2⟩ := rx0.inv2
        cases r1
        cases r2
        have hc : List.count (kval f n (i : Nat)) ((ws.take i).take (j + 1)) = List.count (kval f n (i : Nat)) ((ws.take i).take j) + if u = kval f n (i : Nat) then 1 else 0 := by
          rw [List.take_add_one, List.getElem?_take_of_lt hj, hu, List.count_append]
          congr 1
          show List.count _ [u] = _
          rw [List.count_singleton]
          by_cases c : u = kval f n (i : Nat)
          · rw [if_pos c, if_pos (beq_iff_eq.mpr c)]
          · rw [if_neg c, if_neg (fun z => c (beq_iff_eq.mp z))]
        refine ⟨rfl, ?_⟩
        walk_at "g"
        walk_at "if"
        · rename_i c
          have c' : u = kval f n (i : Nat) := V.int.inj (of_decide_eq_true c)
          walk_at "g"
          refine ⟨acc2, e5, small1000 (by have := List.count_le_length (a := kval f n (i : Nat)) (l := (ws.take i).take j); rw [List.length_take, List.length_take] at this; omega), same_put s5 hD, acc2 ++ [.ref a0], upd_same, ?_⟩
          rw [List.length_append, hc, if_pos c', l5]
          rfl
        · rename_i c
          have c' : ¬ u = kval f n (i : Nat) := fun z => c (decide_eq_true (by rw [z]; rfl))
          refine ⟨s5, acc2, e5, ?_⟩
          rw [hc, if_neg c', l5]
          rfl
      · obtain ⟨s5, acc2, e5, l5⟩ := pp
        rw [lacc, List.take_of_length_le (by rw [List.length_take]; omega)] at l5
        walk_at "g"
        refine ⟨szK rfl, fun p9 hp9 => ?_⟩
        rw [l5]
        have s6 : Same Hc (upd H2 p9 (.tup [.int (kval f n (i : Nat)), .int ((ws.take i).count (kval f n (i : Nat)) : Nat)])) := s5.trans (same_new hp9)
        walk_at "g"
        refine ⟨o, acc, .ref p9, rfl, rfl, s6 _ _ eo', small1000 (by omega), ?_⟩
        refine ⟨_, _, _, _, rfl, same_put (hs'.trans s6) ho, acc ++ [.ref p9], upd_same, ?_⟩
        rw [ids_take hw']
        have hp9' : ¬ (also M o) p9 := fun z => by
          rcases z with z | z
          · exact (hM.gr (Gr.same (hs'.trans s5))).out hp9 z
          · have z' : p9 = o := z
            rw [z', s5 _ _ eo'] at hp9
            cases hp9
        exact ((ra'.sx (Sx.same s6)).sx (Sx.put (.inr rfl))).append (.one (Rp.sx (Sx.put (.inr rfl)) (.tup hp9' (.inl upd_same) (.cons (.int _) (.one (.int _))))))
    · obtain ⟨_, _, _, _, rfl, hs, acc, eo, ra⟩ := p
      have el : (ns.map V.int).length = (idsOf (wsOf f ns)).length := by
        unfold idsOf
        rw [List.length_map, List.length_mapIdx, hlw]
      rw [el, List.take_length] at ra
      refine ⟨.ref o, rfl, q _ _ _ hs (.lst (hM.out ho) (.inl eo) (ra.less also_le)) rfl⟩
end
end D


namespace D
open PySem PySem.Spec PyProof.Rows L2
local macro_rules | `(tactic| walk_at "st") => `(tactic| first | exact SqT.of (by assumption) | exact Or.inl (by assumption) | exact SqT.of upd_same | fail "st")
local macro_rules | `(tactic| walk_at "ixt") => `(tactic| refine ⟨_, _, _, _, rfl, rfl, (by walk_at "st" : SqT _ _ _ _), by rfl, ?_⟩)
local macro_rules | `(tactic| walk_at "sq") => `(tactic| first | exact SqL.of (by assumption) | assumption | exact Or.inl (by assumption) | exact SqL.of upd_same | fail "sq")
local macro_rules | `(tactic| walk_at "ix") => `(tactic| refine ⟨_, _, _, _, rfl, rfl, (by walk_at "sq" : SqL _ _ _ _), by rfl, ?_⟩)
local macro_rules | `(tactic| walk_at "set") => `(tactic| refine ⟨_, _, _, _, rfl, rfl, by first | assumption | exact upd_same, by rfl, ?_⟩)
local macro_rules | `(tactic| walk_at "len") => `(tactic| refine ⟨_, _, rfl, Or.inl (by walk_at "sq" : SqL _ _ _ _), ?_⟩)
local macro_rules | `(tactic| walk_at "g") => `(tactic| repeat (first | refine ⟨_, rfl, ?_⟩ | refine ⟨_, _, rfl, rfl, ?_⟩ | refine ⟨Or.inr (by decide), ?_⟩ | refine ⟨Or.inl (by decide), ?_⟩ | refine ⟨(by decide : (0 : Int) < _), ?_⟩ | refine ⟨(⟨by decide, by decide⟩ : CDiv _ _), ?_⟩ | refine ⟨(⟨by decide, by decide, by decide⟩ : CPow _ _), ?_⟩ | refine Or.inl ⟨_, rfl, ?_⟩ | refine ⟨rfl, ?_⟩ | walk_at "ix" | walk_at "ixt" | walk_at "len" | fail "g"))
local macro_rules | `(tactic| walk_at "if") => `(tactic| refine ite2 (fun e => ?_) (fun e => ?_))
section
variable {P : Program} {w : World} {K : PySem.W.Frag} {mg : Str → Option Value} {base : Heap}
def sp_check_rowsL : Sp := fun vs H Q _ => ∃ (a : Addr) (xs : List V) (M : Ms), vs = [.ref a] ∧ SqL K H a xs ∧ (∀ x ∈ xs, ∃ ns, RowAt M H x ns ∧ goodRow ns) ∧ ∀ H', Same H H' → Q .non H'
theorem ok_check_rowsL (T : Txt K mg) : FnOk P w K mg base CX0 4 T.f_check_rows T.d_check_rows ["rows"] (sp_check_rowsL (K := K)) := by
  have G_is_row := okis_row (P := P) (w := w) (base := base) T
  refine T.F_check_rows.ok sc_check_rows (fun vs H Q E h => ?_) (fun cdv A outer s H vs Q E hr h => ?_)
  · obtain ⟨_, _, _, rfl, _⟩ := h
    rfl
  · obtain ⟨a, xs, M, rfl, hS, hR, q⟩ := h
    refine ⟨_, (pss_one (ps_for PassesOwn.never rfl (pi_listK (K := K) rfl (pv 0)) (pg_name (i := 1) sc_check_rows.nd rfl (Or.inl rfl)) (pss_one (ps_if (pt_not (pt_val (pe_call G_is_row (hr.mono (by omega)) (by rfl) T.g_is_row T.F_is_row.kp T.b_is_row .nil pass0 (pa_cons (pv 1) pa_nil)))) (pss_one ps_never) pss_nil)))), ?_⟩
    walk_at "g"
    refine ⟨⟨_, hS⟩, ?_⟩
    refine for_list (K := K) (a := a) (xs := xs) (fun i σ H' => ∃ y, σ = [some (.ref a), y] ∧ Same H H') ⟨none, rfl, Same.refl H⟩ (fun i σ H' _ p => ?_) (fun i x σ H' hx p => ?_) (fun σ H' p => ?_)
    · obtain ⟨y, rfl, hs⟩ := p
      exact hs.seq hS
    · obtain ⟨y, rfl, hs⟩ := p
      obtain ⟨ns, rd, hg⟩ := hR x (List.mem_of_getElem? hx)
      walk_at "g"
      exact ⟨x, ns, M, rfl, rd.sx (Sx.same hs), hg, fun H2 s2 => ⟨_, rfl, _, rfl, hs.trans s2⟩⟩
    · obtain ⟨y, rfl, hs⟩ := p
      exact q _ hs
end
end D

namespace D
open PySem PySem.Spec PyProof.Rows L2
local macro_rules | `(tactic| walk_at "st") => `(tactic| first | exact SqT.of (by assumption) | exact Or.inl (by assumption) | exact SqT.of upd_same | fail "st")
local macro_rules | `(tactic| walk_at "ixt") => `(tactic| refine ⟨_, _, _, _, rfl, rfl, (by walk_at "st" : SqT _ _ _ _), by rfl, ?_⟩)
local macro_rules | `(tactic| walk_at "sq") => `(tactic| first | exact SqL.of (by assumption) | assumption | exact Or.inl (by assumption) | exact SqL.of upd_same | fail "sq")
local macro_rules | `(tactic| walk_at "ix") => `(tactic| refine ⟨_, _, _, _, rfl, rfl, (by walk_at "sq" : SqL _ _ _ _), by rfl, ?_⟩)
local macro_rules | `(tactic| walk_at "set") => `(tactic| refine ⟨_, _, _, _, rfl, rfl, by first | assumption | exact upd_same, by rfl, ?_⟩)
local macro_rules | `(tactic| walk_at "len") => `(tactic| refine ⟨_, _, rfl, Or.inl (by walk_at "sq" : SqL _ _ _ _), ?_⟩)
local macro_rules | `(tactic| walk_at "g") => `(tactic| repeat (first | refine ⟨_, rfl, ?_⟩ | refine ⟨_, _, rfl, rfl, ?_⟩ | refine ⟨Or.inr (by decide), ?_⟩ | refine ⟨Or.inl (by decide), ?_⟩ | refine ⟨(by decide : (0 : Int) < _), ?_⟩ | refine ⟨(⟨by decide, by decide⟩ : CDiv _ _), ?_⟩ | refine ⟨(⟨by decide, by decide, by decide⟩ : CPow _ _), ?_⟩ | refine Or.inl ⟨_, rfl, ?_⟩ | refine ⟨rfl, ?_⟩ | walk_at "ix" | walk_at "ixt" | walk_at "len" | fail "g"))
local macro_rules | `(tactic| walk_at "if") => `(tactic| refine ite2 (fun e => ?_) (fun e => ?_))
section
variable {P : Program} {w : World} {K : PySem.W.Frag} {mg : Str → Option Value} {base : Heap}
def sNum : Str := "_numbers"
def sRowF : Str := "row"
/-- a dict of whole numbers by whole numbers -/
def DI (kvs : List (Key × V)) (T : Int → Option Int) : Prop := ∀ x : Int, valV kvs (.inl x) = (T x).map V.int
/-- the numbers behind a show -/
def shownT (ns : List Int) (T : Int → Option Int) : Int → Option Int := fun x => if x ∈ ns then some ((T x).getD 0) else none
theorem DI.put {kvs : List (Key × V)} {T : Int → Option Int} (h : DI kvs T) (n w : Int) : DI (putK kvs (.inl n) (.int w)) (fun x => if x = n then some w else T x) := fun x => by
  rw [valV_put]
  dsimp only
  by_cases c : x = n
  · rw [if_pos (by rw [c]), if_pos c]
    rfl
  · rw [if_neg (fun z => c (Sum.inl.inj z)), if_neg c]
    exact h x
theorem DI.show {kvs : List (Key × V)} {T : Int → Option Int} {l : List Int} {n : Int} (h : DI kvs (shownT l T)) : DI (putK kvs (.inl n) (.int ((T n).getD 0))) (shownT (l ++ [n]) T) := fun x => by
  rw [h.put n _ x]
  unfold shownT
  dsimp only
  by_cases c : x = n
  · subst c
    rw [if_pos rfl, if_pos (List.mem_append_right _ (List.mem_singleton.mpr rfl))]
  · rw [if_neg c]
    by_cases d : x ∈ l
    · rw [if_pos d, if_pos (List.mem_append_left _ d)]
    · rw [if_neg d, if_neg (fun z => (List.mem_append.mp z).elim d fun e => c (List.mem_singleton.mp e))]
def sp_tshow (C : Addr) : Sp := fun vs H Q _ => ∃ (a nd dx : Addr) (fs : List (Str × V)) (kvs : List (Key × V)) (v : V) (ns : List Int) (T : Int → Option Int) (M : Ms), vs = [.ref a, v] ∧ H a = some (.ins C dx fs) ∧ (fs = [(sNum, .ref nd)] ∨ ∃ r, fs = [(sNum, .ref nd), (sRowF, r)]) ∧ H nd = some (.dK kvs) ∧ DI kvs T ∧ RowF M H v ns ∧ goodRow ns ∧
  ∀ H' nd' kvs', Sx (one a) H H' → Gr H H' → H nd' = none → H' a = some (.ins C dx [(sNum, .ref nd'), (sRowF, v)]) → H' nd' = some (.dK kvs') → DI kvs' (shownT ns T) → kvs'.length ≤ 5 → Q .non H'
theorem ok_tshow (T : Txt K mg) : FnOk P w K mg base CX0 7 T.f_Things_show T.d_Things_show ["self", "row"] (sp_tshow T.C_Things) := by
  have G_check_rows := ok_check_rowsL (P := P) (w := w) (base := base) T
  refine T.F_Things_show.ok sc_Things_show (fun vs H Q E h => ?_) (fun cdv A outer s H vs Q E hr h => ?_)
  · obtain ⟨_, _, _, _, _, _, _, _, _, rfl, _⟩ := h
    rfl
  · obtain ⟨a, nd, dx, fs, kvs, v, ns, Tf, M, rfl, ha, hfs, hnd, hd, hR, hg, q⟩ := h
    refine ⟨_, (pss_cons (ps_expr (pe_call G_check_rows (hr.mono (by omega)) (by rfl) T.g_check_rows T.F_check_rows.kp T.b_check_rows .nil pass0 (pa_cons (pe_lst (pa_cons (pv 1) pa_nil)) pa_nil)))
      (pss_cons (ps_fld (pv 0) (pe_dc (own := [("item", 2)]) (g := gName 2) (tt := tYes) (by rfl) sc_Things_show.nd (pi_tupK (K := K) rfl (pv 1)) (blkOk_by (own := [("item", 2)]) (N := ["self", "row", "item"]) (sc := defScope s_Things_show) (by decide +kernel)) (fun _ _ _ _ _ => (pg_name (i := 2) sc_Things_show.nd rfl (Or.inl rfl))) (fun _ _ _ _ _ => pts_nil) (fun _ _ _ _ _ => (pv 2)) (fun _ _ _ _ _ => (pe_dget2 (hu_of hr) (pe_fldK (K := K) rfl (pv 0) rfl) (pv 2) pe_int ⟨by rfl, by rfl, by rfl, by rfl⟩))) rfl)
      (pss_one (ps_fld (pv 0) (pv 1) rfl)))), ?_⟩
    walk_at "g"
    refine ⟨szK rfl, fun t ht => ?_⟩
    have s1 : Same H (upd H t (.lst [v])) := same_new ht
    have e1 : upd H t (.lst [v]) t = some (.lst [v]) := upd_same
    generalize upd H t (.lst [v]) = H1 at s1 e1
    obtain ⟨b, ob, eb, nb, hb, ob1, ob2⟩ := id hR
    subst eb
    walk_at "g"
    refine ⟨t, _, M, rfl, SqL.of e1, fun x hx => ?_, fun H2 s2 => ?_⟩
    · rw [List.mem_singleton.mp hx]
      exact ⟨ns, (hR.sx (Sx.same s1)).row, hg⟩
    have s12 := s1.trans s2
    have hb2 := s12 _ _ hb
    walk_at "g"
    have hl : fs.lookup sNum = some (.ref nd) := by
      rcases hfs with rfl | ⟨r, rfl⟩ <;> rfl
    have ha2 := s12 _ _ ha
    have hnd2 := s12 _ _ hnd
    refine ⟨⟨_, .inl (.inr ⟨ob, hb2⟩)⟩, fun D hD => ?_⟩
    refine tup_loop (xs := ns.map V.int) (fun i H' => Same H2 H' ∧ ∃ kv, H' D = some (.dK kv) ∧ DI kv (shownT (ns.take i) Tf) ∧ kv.length ≤ i) ⟨same_new hD, [], upd_same, fun x => by simp [shownT, valV], Nat.le_refl _⟩ (fun i H' _ p => .inl (.inr ⟨ob, p.1 _ _ hb2⟩)) (fun i x H' hx p => ?_) (fun H3 p => ?_)
    · obtain ⟨s3, kv, eD, hk, lk⟩ := p
      rw [List.getElem?_map] at hx
      obtain ⟨n, hn, rfl⟩ := Option.map_eq_some_iff.mp hx
      have hi : i < ns.length := (List.getElem?_eq_some_iff.mp hn).1
      have l5 := hg.1
      refine ⟨rfl, ?_⟩
      walk_at "g"
      refine ⟨a, _, dx, fs, _, rfl, s3 _ _ ha2, T.cl_Things, T.nA_Things__numbers, hl, ?_⟩
      refine ⟨nd, rfl, .inl ⟨_, .inl (s3 _ _ hnd2)⟩, ?_⟩
      walk_at "g"
      refine ⟨_, DGet.k (k := .inl n) (s3 _ _ hnd2), ?_⟩
      have eg : (valV kvs (Sum.inl n)).getD (V.int 0) = .int ((Tf n).getD 0) := by
        rw [hd n]
        cases Tf n <;> rfl
      rw [eg]
      refine ⟨kv, .inl n, rfl, eD, small1000 (by omega), same_put s3 hD, _, upd_same, ?_, Nat.le_trans (putK_le _ _ _) (Nat.succ_le_succ lk)⟩
      rw [List.take_add_one, hn]
      exact hk.show
    · obtain ⟨s3, kv, eD, hk, lk⟩ := p
      rw [List.length_map, List.take_length] at hk
      have l5 := hg.1
      have lf : fs.length < 1000 := by
        rcases hfs with rfl | ⟨r, rfl⟩
        · exact (by decide : 1 < 1000)
        · exact (by decide : 2 < 1000)
      have hp : putF sRowF (.ref b) (putF sNum (.ref D) fs) = [(sNum, .ref D), (sRowF, .ref b)] := by rcases hfs with rfl | ⟨r, rfl⟩ <;> rfl
      have lp : (putF sNum (.ref D) fs).length < 1000 := by
        rcases hfs with rfl | ⟨r, rfl⟩
        · exact (by decide : 1 < 1000)
        · exact (by decide : 2 < 1000)
      walk_at "g"
      refine ⟨a, _, dx, fs, rfl, s3 _ _ ha2, T.cl_Things, T.nA_Things__numbers, lf, ?_⟩
      walk_at "g"
      refine ⟨a, _, dx, _, rfl, upd_same, T.cl_Things, T.nA_Things_row, lp, ?_⟩
      rw [upd_upd]
      have nDa : D ≠ a := fun z => by rw [z, ha2] at hD; cases hD
      have sA := s12.trans s3
      have sP : Sx (one a) H3 (upd H3 a (.ins T.C_Things dx (putF sRowF (.ref b) (putF sNum (.ref D) fs)))) := Sx.put rfl
      refine q _ D kv ((Sx.same sA).trans sP) ((Gr.same sA).trans Gr.upd) (s12.free hD) ?_ (by rw [upd_ne nDa]; exact eD) hk (by rw [List.length_map] at lk; omega)
      rw [← hp]
      exact upd_same
/-- an object of numbers by items -/
def ThAt (C : Addr) (H : Hp) (a nd : Addr) (ns : List Int) (T : Int → Option Int) : Prop := ∃ dx kvs v, H a = some (.ins C dx [(sNum, .ref nd), (sRowF, v)]) ∧ H nd = some (.dK kvs) ∧ DI kvs T ∧ kvs.length ≤ 5 ∧ ∀ x, (T x).isSome = true ↔ x ∈ ns
theorem ThAt.at {C : Addr} {H H' : Hp} {a nd : Addr} {ns : List Int} {T : Int → Option Int} (h : ThAt C H a nd ns T) (e1 : H' a = H a) (e2 : H' nd = H nd) : ThAt C H' a nd ns T := by
  obtain ⟨dx, kvs, v, ha, hn, hd, l, m⟩ := h
  exact ⟨dx, kvs, v, e1.trans ha, e2.trans hn, hd, l, m⟩
theorem ThAt.same {C : Addr} {H H' : Hp} {a nd : Addr} {ns : List Int} {T : Int → Option Int} (h : ThAt C H a nd ns T) (s : Same H H') : ThAt C H' a nd ns T := by
  obtain ⟨dx, kvs, v, ha, hn, hd, l, m⟩ := h
  exact ⟨dx, kvs, v, s _ _ ha, s _ _ hn, hd, l, m⟩
theorem ThAt.ne {C : Addr} {H : Hp} {a nd : Addr} {ns : List Int} {T : Int → Option Int} (h : ThAt C H a nd ns T) : a ≠ nd := fun z => by
  obtain ⟨dx, kvs, v, ha, hn, _⟩ := h
  rw [z, hn] at ha
  cases ha
theorem shownT_mem (ns : List Int) (T : Int → Option Int) (x : Int) : (shownT ns T x).isSome = true ↔ x ∈ ns := by
  unfold shownT
  by_cases c : x ∈ ns
  · rw [if_pos c]; exact ⟨fun _ => c, fun _ => rfl⟩
  · rw [if_neg c]
    constructor
    · intro z
      cases z
    · intro z
      exact absurd z c
theorem none_gr {H H' : Hp} {p : Addr} (g : Gr H H') (h : H' p = none) : H p = none := by
  cases e : H p with
  | none => rfl
  | some o => exact absurd h (g _ (ne_none e))
def sp_tinit (C : Addr) : Sp := fun vs H Q _ => ∃ (a dx : Addr) (v : V) (ns : List Int) (M : Ms), vs = [.ref a, v] ∧ H a = some (.ins C dx []) ∧ RowF M H v ns ∧ goodRow ns ∧ Mk M H ∧
  ∀ H' nd, Sx (one a) H H' → Gr H H' → H nd = none → ThAt C H' a nd ns (shownT ns fun _ => none) → Q .non H'
theorem ok_tinit (T : Txt K mg) : FnOk P w K mg base CX0 8 T.f_Things___init__ T.d_Things___init__ ["self", "row"] (sp_tinit T.C_Things) := by
  have G_Things_show := ok_tshow (P := P) (w := w) (base := base) T
  refine T.F_Things___init__.ok sc_Things___init__ (fun vs H Q E h => ?_) (fun cdv A outer s H vs Q E hr h => ?_)
  · obtain ⟨_, _, _, _, _, rfl, _⟩ := h
    rfl
  · obtain ⟨a, dx, v, ns, M, rfl, ha, hR, hg, hM, q⟩ := h
    refine ⟨_, (pss_cons (ps_fld (pv 0) pe_dnewK rfl)
      (pss_one (ps_expr (pe_meth (pv 0) T.cl_Things ⟨T.a_Things_show, T.i_Things_show, T.F_Things_show.kp⟩ G_Things_show (hr.mono (by omega)) T.b_Things_show .nil pass0 (pa_cons (pv 1) pa_nil))))), ?_⟩
    walk_at "g"
    intro nd hnd
    have s1 : Same H (upd H nd (.dK [])) := same_new hnd
    have nda : nd ≠ a := fun z => by rw [z, ha] at hnd; cases hnd
    walk_at "g"
    refine ⟨a, _, dx, [], rfl, s1 _ _ ha, T.cl_Things, T.nA_Things__numbers, (by decide : 0 < 1000), ?_⟩
    have e1 : upd (upd H nd (.dK [])) a (.ins T.C_Things dx [(sNum, .ref nd)]) nd = some (.dK []) := by rw [upd_ne nda, upd_same]
    have s2 : Sx (one a) H (upd (upd H nd (.dK [])) a (.ins T.C_Things dx [(sNum, .ref nd)])) := (Sx.same s1).trans (Sx.put rfl)
    have g2 : Gr H (upd (upd H nd (.dK [])) a (.ins T.C_Things dx [(sNum, .ref nd)])) := (Gr.same s1).trans Gr.upd
    have e2 : upd (upd H nd (.dK [])) a (.ins T.C_Things dx [(sNum, .ref nd)]) a = some (.ins T.C_Things dx [(sNum, .ref nd)]) := upd_same
    have hR2 : RowF (also M a) (upd (upd H nd (.dK [])) a (.ins T.C_Things dx [(sNum, .ref nd)])) v ns := by
      obtain ⟨b, ob, eb, nb, hb, z⟩ := hR
      refine ⟨b, ob, eb, fun y => ?_, ?_, z⟩
      · rcases y with y | y
        · exact nb y
        · rw [show b = a from y, ha] at hb
          cases hb
      · rw [upd_ne (fun y => by rw [y, ha] at hb; cases hb)]
        exact s1 _ _ hb
    walk_at "g"
    refine ⟨a, dx, _, rfl, e2, rfl, ?_⟩
    walk_at "g"
    refine ⟨a, nd, dx, _, [], v, ns, fun _ => none, also M a, rfl, e2, .inl rfl, e1, fun x => rfl, hR2, hg, fun H' nd' kvs' s3 g3 n3 ea en hk lk => ?_⟩
    refine q _ nd' (s2.trans s3) (g2.trans g3) (none_gr g2 n3) ⟨dx, kvs', v, ea, en, hk, lk, shownT_mem ns _⟩
def sp_tget (C : Addr) : Sp := fun vs H Q _ => ∃ (a nd : Addr) (ns : List Int) (T : Int → Option Int) (x w : Int), vs = [.ref a, .int x] ∧ ThAt C H a nd ns T ∧ T x = some w ∧ Q (.int w) H
theorem ok_tget (T : Txt K mg) : FnOk P w K mg base CX0 2 T.f_Things___getitem__ T.d_Things___getitem__ ["self", "item"] (sp_tget T.C_Things) := by
  have G_is_whole := ok_is_whole (P := P) (w := w) (base := base) T
  refine T.F_Things___getitem__.ok sc_Things___getitem__ (fun vs H Q E h => ?_) (fun cdv A outer s H vs Q E hr h => ?_)
  · obtain ⟨_, _, _, _, _, _, rfl, _⟩ := h
    rfl
  · obtain ⟨a, nd, ns, Tf, x, w', rfl, hT, ex, q⟩ := h
    obtain ⟨dx, kvs, v, ha, hn, hd, l, m⟩ := id hT
    have ev : valV kvs (.inl x) = some (.int w') := by rw [hd x, ex]; rfl
    refine ⟨_, (pss_cons (ps_if (PW.pt (pw_or (pt_not (pt_val (pe_call G_is_whole (hr.mono (by omega)) (by rfl) T.g_is_whole T.F_is_whole.kp T.b_is_whole .nil pass0 (pa_cons (pv 1) pa_nil)))) (pw_or1 (pt_cmp (pc_dnotin (hu_of hr) (pv 1) (pe_fldK (K := K) rfl (pv 0) rfl)))))) (pss_one ps_never) pss_nil)
      (pss_one (ps_ret (pe_dget (hu_of hr) (pe_fldK (K := K) rfl (pv 0) rfl) (pv 1) (fun _ _ => rfl))))), ?_⟩
    walk_at "g"
    refine ⟨a, _, dx, _, _, rfl, ha, T.cl_Things, T.nA_Things__numbers, rfl, ?_⟩
    refine ⟨nd, _, rfl, DGet.k (k := .inl x) hn, ?_⟩
    rw [ev]
    refine ⟨_, rfl, ?_⟩
    walk_at "g"
    refine ⟨a, _, dx, _, _, rfl, ha, T.cl_Things, T.nA_Things__numbers, rfl, ?_⟩
    walk_at "g"
    have dg : DGet H nd (V.int x) (some (.int w')) := by
      rw [← ev]
      exact DGet.k (k := .inl x) hn
    exact ⟨nd, _, rfl, dg, q⟩
def sp_tput (C : Addr) : Sp := fun vs H Q _ => ∃ (a nd : Addr) (ns : List Int) (T : Int → Option Int) (x w : Int), vs = [.ref a, .int x, .int w] ∧ ThAt C H a nd ns T ∧ x ∈ ns ∧
  ∀ H', Sx (one nd) H H' → Gr H H' → ThAt C H' a nd ns (fun y => if y = x then some w else T y) → Q .non H'
theorem ok_tput (T : Txt K mg) : FnOk P w K mg base CX0 2 T.f_Things___setitem__ T.d_Things___setitem__ ["self", "item", "number"] (sp_tput T.C_Things) := by
  have G_is_whole := ok_is_whole (P := P) (w := w) (base := base) T
  refine T.F_Things___setitem__.ok sc_Things___setitem__ (fun vs H Q E h => ?_) (fun cdv A outer s H vs Q E hr h => ?_)
  · obtain ⟨_, _, _, _, _, _, rfl, _⟩ := h
    rfl
  · obtain ⟨a, nd, ns, Tf, x, w', rfl, hT, hx, q⟩ := h
    obtain ⟨dx, kvs, v, ha, hn, hd, l, m⟩ := id hT
    obtain ⟨u, eu⟩ : ∃ u, Tf x = some u := by
      have := (m x).mpr hx
      cases e : Tf x with
      | none => rw [e] at this; cases this
      | some u => exact ⟨u, rfl⟩
    have ev : valV kvs (.inl x) = some (.int u) := by rw [hd x, eu]; rfl
    refine ⟨_, (pss_cons (ps_if (PW.pt (pw_or (pt_not (pt_val (pe_call G_is_whole (hr.mono (by omega)) (by rfl) T.g_is_whole T.F_is_whole.kp T.b_is_whole .nil pass0 (pa_cons (pv 1) pa_nil)))) (pw_or1 (pt_cmp (pc_dnotin (hu_of hr) (pv 1) (pe_fldK (K := K) rfl (pv 0) rfl)))))) (pss_one ps_never) pss_nil)
      (pss_one (ps_dput (hu_of hr) (pe_fldK (K := K) rfl (pv 0) rfl) (pv 1) (pv 2) rfl))), ?_⟩
    walk_at "g"
    refine ⟨a, _, dx, _, _, rfl, ha, T.cl_Things, T.nA_Things__numbers, rfl, ?_⟩
    refine ⟨nd, _, rfl, DGet.k (k := .inl x) hn, ?_⟩
    rw [ev]
    refine ⟨_, rfl, ?_⟩
    walk_at "g"
    refine ⟨a, _, dx, _, _, rfl, ha, T.cl_Things, T.nA_Things__numbers, rfl, ?_⟩
    walk_at "g"
    refine ⟨nd, _, rfl, DPut.k (k := .inl x) hn (small1000 (by omega)), ?_⟩
    have nda : a ≠ nd := hT.ne
    refine q _ (Sx.put rfl) Gr.upd ⟨dx, _, v, by rw [upd_ne nda]; exact ha, upd_same, hd.put x w', ?_, fun y => ?_⟩
    · rw [putK_len ev]
      exact l
    · by_cases c : y = x
      · subst c
        dsimp only
        rw [if_pos rfl]
        exact ⟨fun _ => hx, fun _ => rfl⟩
      · dsimp only
        rw [if_neg c]
        exact m y
end
end D

namespace D
open PySem PySem.Spec PyProof.Rows L2
local macro_rules | `(tactic| walk_at "st") => `(tactic| first | exact SqT.of (by assumption) | exact Or.inl (by assumption) | exact SqT.of upd_same | fail "st")
local macro_rules | `(tactic| walk_at "ixt") => `(tactic| refine ⟨_, _, _, _, rfl, rfl, (by walk_at "st" : SqT _ _ _ _), by rfl, ?_⟩)
local macro_rules | `(tactic| walk_at "sq") => `(tactic| first | exact SqL.of (by assumption) | assumption | exact Or.inl (by assumption) | exact SqL.of upd_same | fail "sq")
local macro_rules | `(tactic| walk_at "ix") => `(tactic| refine ⟨_, _, _, _, rfl, rfl, (by walk_at "sq" : SqL _ _ _ _), by rfl, ?_⟩)
local macro_rules | `(tactic| walk_at "set") => `(tactic| refine ⟨_, _, _, _, rfl, rfl, by first | assumption | exact upd_same, by rfl, ?_⟩)
local macro_rules | `(tactic| walk_at "len") => `(tactic| refine ⟨_, _, rfl, Or.inl (by walk_at "sq" : SqL _ _ _ _), ?_⟩)
local macro_rules | `(tactic| walk_at "g") => `(tactic| repeat (first | refine ⟨_, rfl, ?_⟩ | refine ⟨_, _, rfl, rfl, ?_⟩ | refine ⟨Or.inr (by decide), ?_⟩ | refine ⟨Or.inl (by decide), ?_⟩ | refine ⟨(by decide : (0 : Int) < _), ?_⟩ | refine ⟨(⟨by decide, by decide⟩ : CDiv _ _), ?_⟩ | refine ⟨(⟨by decide, by decide, by decide⟩ : CPow _ _), ?_⟩ | refine Or.inl ⟨_, rfl, ?_⟩ | refine ⟨rfl, ?_⟩ | walk_at "ix" | walk_at "ixt" | walk_at "len" | fail "g"))
local macro_rules | `(tactic| walk_at "if") => `(tactic| refine ite2 (fun e => ?_) (fun e => ?_))
section
variable {P : Program} {w : World} {K : PySem.W.Frag} {mg : Str → Option Value} {base : Heap}
def sKey : Str := "_key"
def sIdents : Str := "_idents"
def sp_idents (T : Txt K mg) : Sp := fun vs H Q _ => ∃ (k v : V) (f : Fm) (ns : List Int) (M : Ms), vs = [k, v] ∧ KeyAt T.C_Key M H k f ∧ RowAt M H v ns ∧ goodRow ns ∧ Mk M H ∧ Pu M H (fun d => d = identD f ns) Q
theorem ok_idents (T : Txt K mg) : FnOk P w K mg base CX0 10 T.f_Key_idents T.d_Key_idents ["self", "row"] (sp_idents T) := by
  have G_check_rows := ok_check_rowsL (P := P) (w := w) (base := base) T
  have G__idents := ok_ids (P := P) (w := w) (base := base) T
  refine T.F_Key_idents.ok sc_Key_idents (fun vs H Q E h => ?_) (fun cdv A outer s H vs Q E hr h => ?_)
  · obtain ⟨_, _, _, _, _, rfl, _⟩ := h
    rfl
  · obtain ⟨k, v, f, ns, M, rfl, hK, hR, hg, hM, q⟩ := h
    refine ⟨_, (pss_cons (ps_expr (pe_call G_check_rows (hr.mono (by omega)) (by rfl) T.g_check_rows T.F_check_rows.kp T.b_check_rows .nil pass0 (pa_cons (pe_lst (pa_cons (pv 1) pa_nil)) pa_nil)))
      (pss_one (ps_ret (pe_call G__idents (hr.mono (by omega)) (by rfl) T.g__idents T.F__idents.kp T.b__idents .nil pass0 (pa_cons (pv 0) (pa_cons (pv 1) pa_nil)))))), ?_⟩
    walk_at "g"
    refine ⟨szK rfl, fun p hp => ?_⟩
    have n1 : Same H (upd H p (.lst [v])) := same_new hp
    refine ⟨p, [v], M, rfl, SqL.of upd_same, fun x hx => ⟨ns, by rw [List.mem_singleton.mp hx]; exact hR.sx (Sx.same n1), hg⟩, fun H1 s1 => ?_⟩
    walk_at "g"
    have s2 := n1.trans s1
    exact ⟨k, v, f, ns, M, rfl, hK.sx (Sx.same s2), hR.sx (Sx.same s2), hg.1, hM.gr (Gr.same s2), fun w' H2 d s3 r3 hd => q w' H2 d (s2.trans s3) r3 hd⟩
def IdAt (M : Ms) (H : Hp) (ivs : List (Key × V)) (ns : List Int) (ps : List IP) : Prop := ∀ (i : Nat) (x : Int) (p : IP), ns[i]? = some x → ps[i]? = some p → ∃ t, valV ivs (.inl x) = some (.ref t) ∧ ¬ M t ∧ H t = some (.tup [.int p.1, .int p.2])
def KnAt (CK C : Addr) (M : Ms) (H : Hp) (a nd : Addr) (f : Fm) (ns : List Int) (N : IP → Option Int) : Prop := ∃ dx kvs ivs idd kv v, H a = some (.ins C dx [(sKey, kv), (sNum, .ref nd), (sIdents, .ref idd), (sRowF, v)]) ∧ H nd = some (.dT kvs) ∧ DN kvs N ∧ kvs.length ≤ 5 ∧ ¬ M idd ∧ H idd = some (.dK ivs) ∧ IdAt M H ivs ns (ids f ns) ∧ (∀ p, (N p).isSome = true ↔ p ∈ ids f ns) ∧ KeyAt CK M H kv f
theorem shownN_mem (ns : List IP) (T : IP → Option Int) (x : IP) : (shownN ns T x).isSome = true ↔ x ∈ ns := by
  unfold shownN
  by_cases c : x ∈ ns
  · rw [if_pos c]; exact ⟨fun _ => c, fun _ => rfl⟩
  · rw [if_neg c]
    constructor
    · intro z
      cases z
    · intro z
      exact absurd z c
theorem nodup_at {α : Type} {l : List α} (h : l.Nodup) {i j : Nat} {x : α} (h1 : l[i]? = some x) (h2 : l[j]? = some x) : i = j := by
  have li := (List.getElem?_eq_some_iff.mp h1).1
  have lj := (List.getElem?_eq_some_iff.mp h2).1
  rcases Nat.lt_trichotomy i j with c | c | c
  · exact absurd (h1.trans h2.symm) (nodup_get.mp h i j c lj)
  · exact c
  · exact absurd (h2.trans h1.symm) (nodup_get.mp h j i c li)
def sp_kshow (CK C : Addr) : Sp := fun vs H Q _ => ∃ (a nd dx : Addr) (fs : List (Str × V)) (kvs : List (List Key × V)) (kv v : V) (f : Fm) (ns : List Int) (N : IP → Option Int) (M : Ms), vs = [.ref a, v] ∧ H a = some (.ins C dx fs) ∧ (fs = [(sKey, kv), (sNum, .ref nd)] ∨ ∃ i r, fs = [(sKey, kv), (sNum, .ref nd), (sIdents, i), (sRowF, r)]) ∧ H nd = some (.dT kvs) ∧ DN kvs N ∧ KeyAt CK M H kv f ∧ RowF M H v ns ∧ goodRow ns ∧ Mk M H ∧ M a ∧
  ∀ H' nd', Sx (one a) H H' → Gr H H' → H nd' = none → KnAt CK C (also M nd') H' a nd' f ns (shownN (ids f ns) N) → Q .non H'
theorem ok_kshow (T : Txt K mg) : FnOk P w K mg base CX0 11 T.f_Known_show T.d_Known_show ["self", "row"] (sp_kshow T.C_Key T.C_Known) := by
  have G_Key_idents := ok_idents (P := P) (w := w) (base := base) T
  refine T.F_Known_show.ok sc_Known_show (fun vs H Q E h => ?_) (fun cdv A outer s H vs Q E hr h => ?_)
  · obtain ⟨_, _, _, _, _, _, _, _, _, _, _, rfl, _⟩ := h
    rfl
  · obtain ⟨a, nd, dx, fs, kvs, kv, v, f, ns, N, M, rfl, ha, hfs, hnd, hd, hK, hR, hg, hM, ma, q⟩ := h
    refine ⟨_, (pss_cons (ps_set (i := 2) sc_Known_show.nd rfl (Or.inl rfl) (pe_meth (pe_fldK (K := K) rfl (pv 0) rfl) T.cl_Key ⟨T.a_Key_idents, T.i_Key_idents, T.F_Key_idents.kp⟩ G_Key_idents (hr.mono (by omega)) T.b_Key_idents .nil pass0 (pa_cons (pv 1) pa_nil)))
      (pss_cons (ps_fld (pv 0) (pe_dcT (own := [("ident", 3)]) (g := gName 3) (tt := tYes) (hu_of hr) (by rfl) sc_Known_show.nd (pi_tupK (K := K) rfl (pv 2)) (blkOk_by (own := [("ident", 3)]) (N := ["self", "row", "idents", "ident", "item"]) (sc := defScope s_Known_show) (by decide +kernel)) (fun _ _ _ _ _ => (pg_name (i := 3) sc_Known_show.nd rfl (Or.inl rfl))) (fun _ _ _ _ _ => pts_nil) (fun _ _ _ _ _ => (pv 3)) (fun _ _ _ _ _ => (pe_dget2 (hu_of hr) (pe_fldK (K := K) rfl (pv 0) rfl) (pv 3) pe_int ⟨by rfl, by rfl, by rfl, by rfl⟩))) rfl)
      (pss_cons (ps_fld (pv 0) (pe_dc (own := [("item", 4), ("ident", 3)]) (g := gTup K 2 (gCons (gName 4) (gCons (gName 3) gNil))) (tt := tYes) (by rfl) sc_Known_show.nd (pi_zipAK (K := K) rfl (by rfl) T.m_zip (pa_cons (pv 1) (pa_cons (pv 2) pa_nil))) (blkOk_by (own := [("item", 4), ("ident", 3)]) (N := ["self", "row", "idents", "ident", "item"]) (sc := defScope s_Known_show) (by decide +kernel)) (fun _ _ _ _ _ => (pg_tupK (K := K) rfl rfl (pgs_cons (pg_name (i := 4) sc_Known_show.nd rfl (Or.inl rfl)) (pgs_cons (pg_name (i := 3) sc_Known_show.nd rfl (Or.inl rfl)) pgs_nil)))) (fun _ _ _ _ _ => pts_nil) (fun _ _ _ _ _ => (pv 4)) (fun _ _ _ _ _ => (pv 3))) rfl)
      (pss_one (ps_fld (pv 0) (pv 1) rfl))))), ?_⟩
    obtain ⟨ka, kdx, ku, ek, nka, hka, hku, hkg⟩ := id hK
    subst ek
    have lk : fs.lookup sKey = some (.ref ka) := by
      rcases hfs with rfl | ⟨i, r, rfl⟩ <;> rfl
    have ln : fs.lookup sNum = some (.ref nd) := by
      rcases hfs with rfl | ⟨i, r, rfl⟩ <;> rfl
    walk_at "g"
    refine ⟨a, _, dx, fs, _, rfl, ha, T.cl_Known, T.nA_Known__key, lk, ?_⟩
    refine ⟨ka, kdx, _, rfl, hka, rfl, ?_⟩
    walk_at "g"
    refine ⟨.ref ka, v, f, ns, M, rfl, hK, hR.row, hg, hM, fun w1 H1 d1 s1 r1 e1 => ?_⟩
    subst e1
    have r1' : Rp M H1 w1 (.tuple ((ids f ns).map pD)) := by
      unfold ids
      rw [← idsOf_eq]
      exact r1
    obtain ⟨b, ob, eb, nb, hb, ob1, ob2⟩ := id hR
    subst eb
    have lids : (ids f ns).length = ns.length := ids_len f ns
    obtain ⟨ps, hps⟩ : ∃ ps, ps = ids f ns := ⟨_, rfl⟩
    rw [← hps] at r1' lids
    obtain ⟨it, xs, rfl, nit, hit, rx⟩ := Rp.tupX r1'
    have lxs := rx.length
    rw [List.length_map] at lxs
    have l5 := hg.1
    have ha1 := s1 _ _ ha
    have hnd1 := s1 _ _ hnd
    have hb1 := s1 _ _ hb
    have pair : ∀ {H'}, Same H1 H' → ∀ (i : Nat) (p : IP), ps[i]? = some p → ∃ t, xs[i]? = some (.ref t) ∧ ¬ M t ∧ H' t = some (.tup [.int p.1, .int p.2]) := fun {H'} s i p hp => by
      obtain ⟨u, hu, ru⟩ := rx.getD (i := i) (d := pD p) (by rw [List.getElem?_map, hp]; rfl)
      obtain ⟨t, ys, rfl, nt, ht, ry⟩ := Rp.tupX (show Rp M H1 u (.tuple ([p.1, p.2].map PyData.int)) from ru)
      have ey := ry.ofInts
      subst ey
      exact ⟨t, hu, nt, s _ _ ht⟩
    walk_at "g"
    refine ⟨⟨_, .inl (.inl hit)⟩, fun D hD => ?_⟩
    refine tup_loop (xs := xs) (fun i H' => Same H1 H' ∧ ∃ kv, H' D = some (.dT kv) ∧ DN kv (shownN (ps.take i) N) ∧ kv.length ≤ i) ⟨same_new hD, [], upd_same, fun x => by simp [shownN, valV], Nat.le_refl _⟩ (fun i H' _ p => .inl (.inl (p.1 _ _ hit))) (fun i x H' hx p => ?_) (fun H3 p => ?_)
    · obtain ⟨s3, kv, eD, hk, lk2⟩ := p
      have hi : i < ps.length := by rw [← lxs]; exact (List.getElem?_eq_some_iff.mp hx).1
      have ep : ps[i]? = some ps[i] := List.getElem?_eq_getElem hi
      obtain ⟨t, et, nt, ht⟩ := pair s3 i _ ep
      rw [hx] at et
      cases et
      refine ⟨rfl, ?_⟩
      walk_at "g"
      refine ⟨a, _, dx, fs, _, rfl, s3 _ _ ha1, T.cl_Known, T.nA_Known__numbers, ln, ?_⟩
      refine ⟨nd, rfl, .inr ⟨_, .inl (s3 _ _ hnd1)⟩, ?_⟩
      walk_at "g"
      refine ⟨_, DGet.t (k := idk ps[i]) (s3 _ _ hnd1) ht, ?_⟩
      have eg : (valV kvs (idk ps[i])).getD (V.int 0) = .int ((N ps[i]).getD 0) := by
        rw [hd ps[i]]
        cases N ps[i] <;> rfl
      rw [eg]
      refine ⟨kv, idk ps[i], t, rfl, ht, eD, small1000 (by omega), same_put s3 hD, _, upd_same, ?_, Nat.le_trans (putK_more _ _ _) (Nat.succ_le_succ lk2)⟩
      rw [List.take_add_one, ep]
      exact hk.show
    obtain ⟨s3, nkv, eD, hk, lk2⟩ := p
    rw [lxs, List.take_length] at hk
    have lf : fs.length < 1000 := by
      rcases hfs with rfl | ⟨i, r, rfl⟩
      · exact (by decide : 2 < 1000)
      · exact (by decide : 4 < 1000)
    have lf1 : (putF sNum (.ref D) fs).length < 1000 := by
      rcases hfs with rfl | ⟨i, r, rfl⟩
      · exact (by decide : 2 < 1000)
      · exact (by decide : 4 < 1000)
    have nDa : D ≠ a := fun z => by rw [z, ha1] at hD; cases hD
    have nDn : H D = none := s1.free hD
    walk_at "g"
    refine ⟨a, _, dx, fs, rfl, s3 _ _ ha1, T.cl_Known, T.nA_Known__numbers, lf, ?_⟩
    have ha3 : upd H3 a (.ins T.C_Known dx (putF (Str.ofString "_numbers") (.ref D) fs)) a = some (.ins T.C_Known dx (putF (Str.ofString "_numbers") (.ref D) fs)) := upd_same
    have sA : Sx (one a) H1 (upd H3 a (.ins T.C_Known dx (putF (Str.ofString "_numbers") (.ref D) fs))) := (Sx.same s3).trans (Sx.put rfl)
    have gA : Gr H1 (upd H3 a (.ins T.C_Known dx (putF (Str.ofString "_numbers") (.ref D) fs))) := (Gr.same s3).trans Gr.upd
    have eD4 : upd H3 a (.ins T.C_Known dx (putF (Str.ofString "_numbers") (.ref D) fs)) D = some (.dT nkv) := by rw [upd_ne nDa]; exact eD
    have sA' := sA
    have hKA : KeyAt T.C_Key (also M D) (upd H3 a (.ins T.C_Known dx (putF (Str.ofString "_numbers") (.ref D) fs))) (.ref ka) f := (((hK.sx (Sx.same s1)).fresh hD).sx (sA.le (one_le (.inl ma))))
    have nDt : ∀ t ys, H1 t = some (.tup ys) → t ≠ a := fun t ys e z => by rw [z, ha1] at e; cases e
    generalize upd H3 a (.ins T.C_Known dx (putF (Str.ofString "_numbers") (.ref D) fs)) = H4 at ha3 sA gA eD4 sA' hKA
    have hit4 : H4 it = some (.tup xs) := sA _ _ (fun z => nDt _ _ hit z) hit
    have hb4 : H4 b = some (.frz ob (.tup (ns.map V.int))) := sA _ _ (fun z => by rw [show b = a from z, ha1] at hb1; cases hb1) hb1
    have pair4 : ∀ {H'}, Same H4 H' → ∀ (i : Nat) (p : IP), ps[i]? = some p → ∃ t, xs[i]? = some (.ref t) ∧ ¬ M t ∧ H' t = some (.tup [.int p.1, .int p.2]) := fun {H'} s i p hp => by
      obtain ⟨t, e1, e2, e3⟩ := pair (Same.refl H1) i p hp
      exact ⟨t, e1, e2, s _ _ (sA _ _ (fun z => nDt _ _ e3 z) e3)⟩
    walk_at "g"
    refine ⟨b, it, ns.map V.int, xs, rfl, .inr ⟨.inl (.inr ⟨ob, hb4⟩), .inl (.inl hit4), fun D2 hD2 => ?_⟩⟩
    refine zipT_loop (xs := ns.map V.int) (ys := xs) (by rw [List.length_map]; omega) (fun i H' => Same H4 H' ∧ ∃ iv, H' D2 = some (.dK iv) ∧ iv.length ≤ i ∧ ∀ (j : Nat) (x : Int) (p : IP), j < i → ns[j]? = some x → ps[j]? = some p → ∃ t, valV iv (.inl x) = some (.ref t) ∧ xs[j]? = some (.ref t)) ⟨same_new hD2, [], upd_same, Nat.le_refl _, fun j x p h => absurd h (Nat.not_lt_zero _)⟩ (fun i H' _ p => ⟨.inl (.inr ⟨ob, p.1 _ _ hb4⟩), .inl (.inl (p.1 _ _ hit4))⟩) (fun i x y T' H' hx hy hT p => ?_) (fun H5 p => ?_)
    · obtain ⟨s5, iv, eD2, li, hiv⟩ := p
      rw [List.getElem?_map] at hx
      obtain ⟨n, hn, rfl⟩ := Option.map_eq_some_iff.mp hx
      have hi : i < ns.length := (List.getElem?_eq_some_iff.mp hn).1
      have ep : ps[i]? = some (ps[i]'(by omega)) := List.getElem?_eq_getElem _
      obtain ⟨t, et, nt, ht⟩ := pair4 s5 i _ ep
      rw [hy] at et
      cases et
      have sT : Same H' (upd H' T' (.tup [.int n, .ref t])) := same_new hT
      refine ⟨T', _, rfl, SqT.of upd_same, rfl, _, _, rfl, _, _, rfl, rfl, ?_⟩
      refine ⟨rfl, ?_⟩
      walk_at "g"
      refine ⟨iv, .inl n, rfl, sT _ _ eD2, small1000 (by omega), same_put (s5.trans sT) hD2, _, upd_same, Nat.le_trans (putK_more _ _ _) (Nat.succ_le_succ li), fun j x p hj h1 h2 => ?_⟩
      rw [valV_put]
      by_cases c : x = n
      · rw [if_pos (by rw [c])]
        subst c
        have hji : j = i := nodup_at hg.2.1 h1 hn
        subst hji
        exact ⟨t, rfl, hy⟩
      · rw [if_neg (fun z => c (Sum.inl.inj z))]
        have hj' : j ≠ i := fun z => by
          rw [z, hn] at h1
          exact c (Option.some.inj h1).symm
        exact hiv j x p (by omega) h1 h2
    obtain ⟨s5, iv, eD2, li, hiv⟩ := p
    rw [List.length_map] at hiv
    have lf2 : (putF sIdents (.ref D2) (putF sNum (.ref D) fs)).length < 1000 := by
      rcases hfs with rfl | ⟨i, r, rfl⟩
      · exact (by decide : 3 < 1000)
      · exact (by decide : 4 < 1000)
    have hp : putF sRowF (.ref b) (putF sIdents (.ref D2) (putF sNum (.ref D) fs)) = [(sKey, .ref ka), (sNum, .ref D), (sIdents, .ref D2), (sRowF, .ref b)] := by
      rcases hfs with rfl | ⟨i, r, rfl⟩ <;> rfl
    have nD2a : D2 ≠ a := fun z => by rw [z, ha3] at hD2; cases hD2
    walk_at "g"
    refine ⟨a, _, dx, _, rfl, s5 _ _ ha3, T.cl_Known, T.nA_Known__idents, lf1, ?_⟩
    walk_at "g"
    refine ⟨a, _, dx, _, rfl, upd_same, T.cl_Known, T.nA_Known_row, lf2, ?_⟩
    rw [upd_upd]
    have sP : Sx (one a) H5 (upd H5 a (.ins T.C_Known dx (putF sRowF (.ref b) (putF sIdents (.ref D2) (putF sNum (.ref D) fs))))) := Sx.put rfl
    have sAll : Sx (one a) H4 (upd H5 a (.ins T.C_Known dx (putF sRowF (.ref b) (putF sIdents (.ref D2) (putF sNum (.ref D) fs))))) := (Sx.same s5).trans sP
    have gAll : Gr H4 (upd H5 a (.ins T.C_Known dx (putF sRowF (.ref b) (putF sIdents (.ref D2) (putF sNum (.ref D) fs))))) := (Gr.same s5).trans Gr.upd
    have hD2n : ¬ (also M D) D2 := fun z => by
      rcases z with z | z
      · exact ((hM.gr (Gr.same s1)).gr gA).out hD2 z
      · rw [show D2 = D from z, eD4] at hD2
        cases hD2
    have nDt4 : ∀ t ys, H4 t = some (.tup ys) → t ≠ a ∧ t ≠ D := fun t ys e => ⟨fun z => (by rw [z, ha3] at e; cases e), fun z => (by rw [z, eD4] at e; cases e)⟩
    subst hps
    refine q _ D ((Sx.same s1).trans (sA'.trans sAll)) ((Gr.same s1).trans (gA.trans gAll)) nDn ⟨dx, nkv, iv, D2, .ref ka, .ref b, by rw [← hp]; exact upd_same, by rw [upd_ne nDa]; exact s5 _ _ eD4, hk, by omega, hD2n, by rw [upd_ne nD2a]; exact eD2, fun j x p h1 h2 => ?_, shownN_mem _ N, ?_⟩
    · obtain ⟨t, e1, e2⟩ := hiv j x p (List.getElem?_eq_some_iff.mp h1).1 h1 h2
      obtain ⟨t', e3, nt, ht⟩ := pair4 (Same.refl H4) j p h2
      rw [e2] at e3
      cases e3
      obtain ⟨z1, z2⟩ := nDt4 t _ ht
      refine ⟨t, e1, fun z => z.elim nt z2, ?_⟩
      rw [upd_ne z1]
      exact s5 _ _ ht
    · exact hKA.sx (sAll.le (one_le (.inl ma)))
def sp_kinit (CK C : Addr) : Sp := fun vs H Q _ => ∃ (a dx : Addr) (kv v : V) (f : Fm) (ns : List Int) (M : Ms), vs = [.ref a, kv, v] ∧ H a = some (.ins C dx []) ∧ KeyAt CK M H kv f ∧ RowF M H v ns ∧ goodRow ns ∧ Mk M H ∧ M a ∧
  ∀ H' nd, Sx (one a) H H' → Gr H H' → H nd = none → KnAt CK C (also M nd) H' a nd f ns (shownN (ids f ns) fun _ => none) → Q .non H'
theorem ok_kinit (T : Txt K mg) : FnOk P w K mg base CX0 12 T.f_Known___init__ T.d_Known___init__ ["self", "key", "row"] (sp_kinit T.C_Key T.C_Known) := by
  have G_Known_show := ok_kshow (P := P) (w := w) (base := base) T
  refine T.F_Known___init__.ok sc_Known___init__ (fun vs H Q E h => ?_) (fun cdv A outer s H vs Q E hr h => ?_)
  · obtain ⟨_, _, _, _, _, _, _, rfl, _⟩ := h
    rfl
  · obtain ⟨a, dx, kv, v, f, ns, M, rfl, ha, hK, hR, hg, hM, ma, q⟩ := h
    refine ⟨_, (pss_cons (ps_fld (pv 0) (pv 1) rfl)
      (pss_cons (ps_fld (pv 0) pe_dnewT rfl)
      (pss_one (ps_expr (pe_meth (pv 0) T.cl_Known ⟨T.a_Known_show, T.i_Known_show, T.F_Known_show.kp⟩ G_Known_show (hr.mono (by omega)) T.b_Known_show .nil pass0 (pa_cons (pv 2) pa_nil)))))), ?_⟩
    walk_at "g"
    refine ⟨a, _, dx, [], rfl, ha, T.cl_Known, T.nA_Known__key, (by decide : 0 < 1000), ?_⟩
    have s1 : Sx (one a) H (upd H a (.ins T.C_Known dx (putF (Str.ofString "_key") kv []))) := Sx.put rfl
    have g1 : Gr H (upd H a (.ins T.C_Known dx (putF (Str.ofString "_key") kv []))) := Gr.upd
    have e1 : upd H a (.ins T.C_Known dx (putF (Str.ofString "_key") kv [])) a = some (.ins T.C_Known dx [(sKey, kv)]) := upd_same
    generalize upd H a (.ins T.C_Known dx (putF (Str.ofString "_key") kv [])) = H1 at s1 g1 e1
    walk_at "g"
    intro nd hnd
    have s2 : Same H1 (upd H1 nd (.dT [])) := same_new hnd
    have en : upd H1 nd (.dT []) nd = some (.dT []) := upd_same
    generalize upd H1 nd (.dT []) = H2 at s2 en
    have nda : nd ≠ a := fun z => by rw [z, e1] at hnd; cases hnd
    walk_at "g"
    refine ⟨a, _, dx, _, rfl, s2 _ _ e1, T.cl_Known, T.nA_Known__numbers, (by decide : 1 < 1000), ?_⟩
    have s3 : Sx (one a) H2 (upd H2 a (.ins T.C_Known dx (putF (Str.ofString "_numbers") (.ref nd) [(sKey, kv)]))) := Sx.put rfl
    have g3 : Gr H2 (upd H2 a (.ins T.C_Known dx (putF (Str.ofString "_numbers") (.ref nd) [(sKey, kv)]))) := Gr.upd
    have e3 : upd H2 a (.ins T.C_Known dx (putF (Str.ofString "_numbers") (.ref nd) [(sKey, kv)])) a = some (.ins T.C_Known dx [(sKey, kv), (sNum, .ref nd)]) := upd_same
    have en3 : upd H2 a (.ins T.C_Known dx (putF (Str.ofString "_numbers") (.ref nd) [(sKey, kv)])) nd = some (.dT []) := by rw [upd_ne nda]; exact en
    generalize upd H2 a (.ins T.C_Known dx (putF (Str.ofString "_numbers") (.ref nd) [(sKey, kv)])) = H3 at s3 g3 e3 en3
    have sA : Sx (one a) H H3 := s1.trans ((Sx.same s2).trans s3)
    have gA : Gr H H3 := g1.trans ((Gr.same s2).trans g3)
    walk_at "g"
    refine ⟨a, dx, _, rfl, e3, rfl, ?_⟩
    walk_at "g"
    refine ⟨a, nd, dx, _, [], kv, v, f, ns, fun _ => none, M, rfl, e3, .inl rfl, en3, fun p => rfl, hK.sx (sA.le (one_le ma)), hR.sx (sA.le (one_le ma)), hg, hM.gr gA, ma, fun H4 nd' s4 g4 n4 hkn => ?_⟩
    exact q _ nd' (sA.trans s4) (gA.trans g4) (none_gr gA n4) hkn
def sp_kget (CK C : Addr) : Sp := fun vs H Q _ => ∃ (a nd : Addr) (f : Fm) (ns : List Int) (N : IP → Option Int) (i : Nat) (x w : Int) (p : IP) (M : Ms), vs = [.ref a, .int x] ∧ KnAt CK C M H a nd f ns N ∧ ns[i]? = some x ∧ (ids f ns)[i]? = some p ∧ N p = some w ∧ Q (.int w) H
theorem ok_kget (T : Txt K mg) : FnOk P w K mg base CX0 2 T.f_Known___getitem__ T.d_Known___getitem__ ["self", "item"] (sp_kget T.C_Key T.C_Known) := by
  have G_is_whole := ok_is_whole (P := P) (w := w) (base := base) T
  refine T.F_Known___getitem__.ok sc_Known___getitem__ (fun vs H Q E h => ?_) (fun cdv A outer s H vs Q E hr h => ?_)
  · obtain ⟨_, _, _, _, _, _, _, _, _, _, rfl, _⟩ := h
    rfl
  · obtain ⟨a, nd, f, ns, N, i, x, w', p, M, rfl, hT, ex, ep, ew, q⟩ := h
    obtain ⟨dx, kvs, ivs, idd, kv, v, ha, hn, hd, l, nid, hid, hiv, m, hK⟩ := id hT
    obtain ⟨t, ev, nt, ht⟩ := hiv i x p ex ep
    refine ⟨_, (pss_cons (ps_if (PW.pt (pw_or (pt_not (pt_val (pe_call G_is_whole (hr.mono (by omega)) (by rfl) T.g_is_whole T.F_is_whole.kp T.b_is_whole .nil pass0 (pa_cons (pv 1) pa_nil)))) (pw_or1 (pt_cmp (pc_dnotin (hu_of hr) (pv 1) (pe_fldK (K := K) rfl (pv 0) rfl)))))) (pss_one ps_never) pss_nil)
      (pss_one (ps_ret (pe_dget (hu_of hr) (pe_fldK (K := K) rfl (pv 0) rfl) (pe_dget (hu_of hr) (pe_fldK (K := K) rfl (pv 0) rfl) (pv 1) (fun _ _ => rfl)) (fun _ _ => rfl))))), ?_⟩
    walk_at "g"
    refine ⟨a, _, dx, _, _, rfl, ha, T.cl_Known, T.nA_Known__idents, rfl, ?_⟩
    refine ⟨idd, _, rfl, DGet.k (k := .inl x) hid, ?_⟩
    rw [ev]
    refine ⟨_, rfl, ?_⟩
    walk_at "g"
    refine ⟨a, _, dx, _, _, rfl, ha, T.cl_Known, T.nA_Known__numbers, rfl, ?_⟩
    walk_at "g"
    refine ⟨a, _, dx, _, _, rfl, ha, T.cl_Known, T.nA_Known__idents, rfl, ?_⟩
    have dg : DGet H idd (V.int x) (some (.ref t)) := by
      rw [← ev]
      exact DGet.k (k := .inl x) hid
    walk_at "g"
    refine ⟨idd, _, rfl, dg, ?_⟩
    have dg2 : DGet H nd (V.ref t) (some (.int w')) := by
      have := DGet.t (k := idk p) hn ht
      rw [hd p, ew] at this
      exact this
    exact ⟨nd, _, rfl, dg2, q⟩
def sp_kput (CK C : Addr) : Sp := fun vs H Q _ => ∃ (a nd : Addr) (f : Fm) (ns : List Int) (N : IP → Option Int) (i : Nat) (x w : Int) (p : IP) (M : Ms), vs = [.ref a, .int x, .int w] ∧ KnAt CK C M H a nd f ns N ∧ ns[i]? = some x ∧ (ids f ns)[i]? = some p ∧ M nd ∧
  ∀ H', Sx (one nd) H H' → Gr H H' → KnAt CK C M H' a nd f ns (fun y => if y = p then some w else N y) → Q .non H'
theorem ok_kput (T : Txt K mg) : FnOk P w K mg base CX0 2 T.f_Known___setitem__ T.d_Known___setitem__ ["self", "item", "number"] (sp_kput T.C_Key T.C_Known) := by
  have G_is_whole := ok_is_whole (P := P) (w := w) (base := base) T
  refine T.F_Known___setitem__.ok sc_Known___setitem__ (fun vs H Q E h => ?_) (fun cdv A outer s H vs Q E hr h => ?_)
  · obtain ⟨_, _, _, _, _, _, _, _, _, _, rfl, _⟩ := h
    rfl
  · obtain ⟨a, nd, f, ns, N, i, x, w', p, M, rfl, hT, ex, ep, mn, q⟩ := h
    obtain ⟨dx, kvs, ivs, idd, kv, v, ha, hn, hd, l, nid, hid, hiv, m, hK⟩ := id hT
    obtain ⟨t, ev, nt, ht⟩ := hiv i x p ex ep
    have hp : p ∈ ids f ns := List.mem_of_getElem? ep
    obtain ⟨u, eu⟩ : ∃ u, N p = some u := by
      have := (m p).mpr hp
      cases e : N p with
      | none => rw [e] at this; cases this
      | some u => exact ⟨u, rfl⟩
    refine ⟨_, (pss_cons (ps_if (PW.pt (pw_or (pt_not (pt_val (pe_call G_is_whole (hr.mono (by omega)) (by rfl) T.g_is_whole T.F_is_whole.kp T.b_is_whole .nil pass0 (pa_cons (pv 1) pa_nil)))) (pw_or1 (pt_cmp (pc_dnotin (hu_of hr) (pv 1) (pe_fldK (K := K) rfl (pv 0) rfl)))))) (pss_one ps_never) pss_nil)
      (pss_one (ps_dput (hu_of hr) (pe_fldK (K := K) rfl (pv 0) rfl) (pe_dget (hu_of hr) (pe_fldK (K := K) rfl (pv 0) rfl) (pv 1) (fun _ _ => rfl)) (pv 2) rfl))), ?_⟩
    walk_at "g"
    refine ⟨a, _, dx, _, _, rfl, ha, T.cl_Known, T.nA_Known__idents, rfl, ?_⟩
    refine ⟨idd, _, rfl, DGet.k (k := .inl x) hid, ?_⟩
    rw [ev]
    refine ⟨_, rfl, ?_⟩
    walk_at "g"
    refine ⟨a, _, dx, _, _, rfl, ha, T.cl_Known, T.nA_Known__numbers, rfl, ?_⟩
    walk_at "g"
    refine ⟨a, _, dx, _, _, rfl, ha, T.cl_Known, T.nA_Known__idents, rfl, ?_⟩
    have dg : DGet H idd (V.int x) (some (.ref t)) := by
      rw [← ev]
      exact DGet.k (k := .inl x) hid
    walk_at "g"
    refine ⟨idd, _, rfl, dg, ?_⟩
    refine ⟨nd, _, rfl, DPut.t (k := idk p) hn ht (small1000 (by omega)), ?_⟩
    have nda : a ≠ nd := fun z => by rw [z, hn] at ha; cases ha
    have ndi : idd ≠ nd := fun z => nid (by rw [z]; exact mn)
    have sp : Sx (one nd) H (upd H nd (.dT (putK kvs (idk p) (.int w')))) := Sx.put rfl
    refine q _ sp Gr.upd ⟨dx, _, ivs, idd, kv, v, by rw [upd_ne nda]; exact ha, upd_same, hd.put p w', ?_, nid, by rw [upd_ne ndi]; exact hid, fun j y r h1 h2 => ?_, fun y => ?_, hK.sx (sp.le (one_le mn))⟩
    · rw [putK_len (y := .int u) (by rw [hd p, eu]; rfl)]
      exact l
    · obtain ⟨t', e1, e2, e3⟩ := hiv j y r h1 h2
      exact ⟨t', e1, e2, by rw [upd_ne (fun z => e2 (by rw [z]; exact mn))]; exact e3⟩
    · by_cases c : y = p
      · subst c
        dsimp only
        rw [if_pos rfl]
        exact ⟨fun _ => hp, fun _ => rfl⟩
      · dsimp only
        rw [if_neg c]
        exact m y
end
end D

namespace D
open PySem PySem.Spec PyProof.Rows L2
local macro_rules | `(tactic| walk_at "st") => `(tactic| first | exact SqT.of (by assumption) | exact Or.inl (by assumption) | exact SqT.of upd_same | fail "st")
local macro_rules | `(tactic| walk_at "ixt") => `(tactic| refine ⟨_, _, _, _, rfl, rfl, (by walk_at "st" : SqT _ _ _ _), by rfl, ?_⟩)
local macro_rules | `(tactic| walk_at "sq") => `(tactic| first | exact SqL.of (by assumption) | assumption | exact Or.inl (by assumption) | exact SqL.of upd_same | fail "sq")
local macro_rules | `(tactic| walk_at "ix") => `(tactic| refine ⟨_, _, _, _, rfl, rfl, (by walk_at "sq" : SqL _ _ _ _), by rfl, ?_⟩)
local macro_rules | `(tactic| walk_at "set") => `(tactic| refine ⟨_, _, _, _, rfl, rfl, by first | assumption | exact upd_same, by rfl, ?_⟩)
local macro_rules | `(tactic| walk_at "len") => `(tactic| refine ⟨_, _, rfl, Or.inl (by walk_at "sq" : SqL _ _ _ _), ?_⟩)
local macro_rules | `(tactic| walk_at "g") => `(tactic| repeat (first | refine ⟨_, rfl, ?_⟩ | refine ⟨_, _, rfl, rfl, ?_⟩ | refine ⟨Or.inr (by decide), ?_⟩ | refine ⟨Or.inl (by decide), ?_⟩ | refine ⟨(by decide : (0 : Int) < _), ?_⟩ | refine ⟨(⟨by decide, by decide⟩ : CDiv _ _), ?_⟩ | refine ⟨(⟨by decide, by decide, by decide⟩ : CPow _ _), ?_⟩ | refine Or.inl ⟨_, rfl, ?_⟩ | refine ⟨rfl, ?_⟩ | walk_at "ix" | walk_at "ixt" | walk_at "len" | fail "g"))
local macro_rules | `(tactic| walk_at "if") => `(tactic| refine ite2 (fun e => ?_) (fun e => ?_))
section
variable {P : Program} {w : World} {K : PySem.W.Frag} {mg : Str → Option Value} {base : Heap}
theorem KnAt.fresh {CK C : Addr} {M : Ms} {H : Hp} {a nd p : Addr} {f : Fm} {ns : List Int} {N : IP → Option Int} (hp : H p = none) (h : KnAt CK C M H a nd f ns N) : KnAt CK C (also M p) H a nd f ns N := by
  obtain ⟨dx, kvs, ivs, idd, kv, v, ha, hn, hd, l, nid, hid, hiv, m, hK⟩ := h
  refine ⟨dx, kvs, ivs, idd, kv, v, ha, hn, hd, l, fun z => ?_, hid, fun i x q h1 h2 => ?_, m, KeyAt.fresh hp hK⟩
  · rcases z with z | z
    · exact nid z
    · rw [show idd = p from z, hp] at hid
      cases hid
  · obtain ⟨t, e1, e2, e3⟩ := hiv i x q h1 h2
    refine ⟨t, e1, fun z => ?_, e3⟩
    rcases z with z | z
    · exact e2 z
    · rw [show t = p from z, hp] at e3
      cases e3
theorem KnAt.frame {CK C : Addr} {M F : Ms} {H H' : Hp} {a nd : Addr} {f : Fm} {ns : List Int} {N : IP → Option Int} (h : KnAt CK C M H a nd f ns N) (s : Sx F H H') (le : ∀ c, F c → M c) (na : ¬ F a) (nn : ¬ F nd) : KnAt CK C M H' a nd f ns N := by
  obtain ⟨dx, kvs, ivs, idd, kv, v, ha, hn, hd, l, nid, hid, hiv, m, hK⟩ := h
  refine ⟨dx, kvs, ivs, idd, kv, v, s _ _ na ha, s _ _ nn hn, hd, l, nid, s _ _ (fun z => nid (le _ z)) hid, fun i x q h1 h2 => ?_, m, hK.sx (s.le le)⟩
  obtain ⟨t, e1, e2, e3⟩ := hiv i x q h1 h2
  exact ⟨t, e1, e2, s _ _ (fun z => e2 (le _ z)) e3⟩
theorem KnAt.same {CK C : Addr} {M : Ms} {H H' : Hp} {a nd : Addr} {f : Fm} {ns : List Int} {N : IP → Option Int} (h : KnAt CK C M H a nd f ns N) (s : Same H H') : KnAt CK C M H' a nd f ns N := h.frame (F := fun _ => False) (Sx.same s) (fun _ z => z.elim) (fun z => z) fun z => z
theorem KnAt.there {CK C : Addr} {M : Ms} {H : Hp} {a nd : Addr} {f : Fm} {ns : List Int} {N : IP → Option Int} (h : KnAt CK C M H a nd f ns N) : H a ≠ none ∧ H nd ≠ none ∧ a ≠ nd := by
  obtain ⟨dx, kvs, ivs, idd, kv, v, ha, hn, _⟩ := h
  exact ⟨ne_none ha, ne_none hn, fun z => by rw [z, hn] at ha; cases ha⟩
theorem ThAt.there {C : Addr} {H : Hp} {a nd : Addr} {ns : List Int} {T : Int → Option Int} (h : ThAt C H a nd ns T) : H a ≠ none ∧ H nd ≠ none := by
  obtain ⟨dx, kvs, v, ha, hn, _⟩ := h
  exact ⟨ne_none ha, ne_none hn⟩
theorem ThAt.frame {C : Addr} {F : Ms} {H H' : Hp} {a nd : Addr} {ns : List Int} {T : Int → Option Int} (h : ThAt C H a nd ns T) (s : Sx F H H') (na : ¬ F a) (nn : ¬ F nd) : ThAt C H' a nd ns T := by
  obtain ⟨dx, kvs, v, ha, hn, r⟩ := h
  exact ⟨dx, kvs, v, s _ _ na ha, s _ _ nn hn, r⟩
def sp_kshow2 (CK C : Addr) : Sp := fun vs H Q _ => ∃ (a nd : Addr) (v : V) (f : Fm) (ms ns : List Int) (N : IP → Option Int) (M : Ms), vs = [.ref a, v] ∧ KnAt CK C M H a nd f ms N ∧ RowF M H v ns ∧ goodRow ns ∧ Mk M H ∧ M a ∧
  ∀ H' nd', Sx (one a) H H' → Gr H H' → H nd' = none → KnAt CK C (also M nd') H' a nd' f ns (shownN (ids f ns) N) → Q .non H'
theorem ok_kshow2 (T : Txt K mg) : FnOk P w K mg base CX0 11 T.f_Known_show T.d_Known_show ["self", "row"] (sp_kshow2 T.C_Key T.C_Known) := by
  refine (ok_kshow (P := P) (w := w) (base := base) T).imp fun vs H Q E h => ?_
  obtain ⟨a, nd, v, f, ms, ns, N, M, rfl, ⟨dx, kvs, ivs, idd, kv, v0, ha, hn, hd, l, nid, hid, hiv, m, hK⟩, hR, hg, hM, ma, q⟩ := h
  exact ⟨a, nd, dx, _, kvs, kv, v, f, ns, N, M, rfl, ha, .inr ⟨_, _, rfl⟩, hn, hd, hK, hR, hg, hM, ma, q⟩
def sp_tshow2 (C : Addr) : Sp := fun vs H Q _ => ∃ (a nd : Addr) (v : V) (ms ns : List Int) (T : Int → Option Int) (M : Ms), vs = [.ref a, v] ∧ ThAt C H a nd ms T ∧ RowF M H v ns ∧ goodRow ns ∧
  ∀ H' nd', Sx (one a) H H' → Gr H H' → H nd' = none → ThAt C H' a nd' ns (shownT ns T) → Q .non H'
theorem ok_tshow2 (T : Txt K mg) : FnOk P w K mg base CX0 7 T.f_Things_show T.d_Things_show ["self", "row"] (sp_tshow2 T.C_Things) := by
  refine (ok_tshow (P := P) (w := w) (base := base) T).imp fun vs H Q E h => ?_
  obtain ⟨a, nd, v, ms, ns, Tf, M, rfl, ⟨dx, kvs, v0, ha, hn, hd, l, m⟩, hR, hg, q⟩ := h
  exact ⟨a, nd, dx, _, kvs, v, ns, Tf, M, rfl, ha, .inr ⟨_, rfl⟩, hn, hd, hR, hg, fun H' nd' kvs' s g n e1 e2 e3 e4 => q H' nd' s g n ⟨dx, kvs', v, e1, e2, e3, e4, shownT_mem ns Tf⟩⟩
def b2i (b : Bool) : Int := if b = true then 1 else 0
/-- whether the numbers part -/
def parted (mark : IP) (x : Int) (ps : List IP) (ns : List Int) : Bool := decide (ps.map (fun p => decide (p = mark)) ≠ ns.map fun y => decide (y = x))
end
end D

namespace D
open PySem PySem.Spec PyProof.Rows L2
local macro_rules | `(tactic| walk_at "st") => `(tactic| first | exact SqT.of (by assumption) | exact Or.inl (by assumption) | exact SqT.of upd_same | fail "st")
local macro_rules | `(tactic| walk_at "ixt") => `(tactic| refine ⟨_, _, _, _, rfl, rfl, (by walk_at "st" : SqT _ _ _ _), by rfl, ?_⟩)
local macro_rules | `(tactic| walk_at "sq") => `(tactic| first | exact SqL.of (by assumption) | assumption | exact Or.inl (by assumption) | exact SqL.of upd_same | fail "sq")
local macro_rules | `(tactic| walk_at "ix") => `(tactic| refine ⟨_, _, _, _, rfl, rfl, (by walk_at "sq" : SqL _ _ _ _), by rfl, ?_⟩)
local macro_rules | `(tactic| walk_at "set") => `(tactic| refine ⟨_, _, _, _, rfl, rfl, by first | assumption | exact upd_same, by rfl, ?_⟩)
local macro_rules | `(tactic| walk_at "len") => `(tactic| refine ⟨_, _, rfl, Or.inl (by walk_at "sq" : SqL _ _ _ _), ?_⟩)
local macro_rules | `(tactic| walk_at "g") => `(tactic| repeat (first | refine ⟨_, rfl, ?_⟩ | refine ⟨_, _, rfl, rfl, ?_⟩ | refine ⟨Or.inr (by decide), ?_⟩ | refine ⟨Or.inl (by decide), ?_⟩ | refine ⟨(by decide : (0 : Int) < _), ?_⟩ | refine ⟨(⟨by decide, by decide⟩ : CDiv _ _), ?_⟩ | refine ⟨(⟨by decide, by decide, by decide⟩ : CPow _ _), ?_⟩ | refine Or.inl ⟨_, rfl, ?_⟩ | refine ⟨rfl, ?_⟩ | walk_at "ix" | walk_at "ixt" | walk_at "len" | fail "g"))
local macro_rules | `(tactic| walk_at "if") => `(tactic| refine ite2 (fun e => ?_) (fun e => ?_))
section
variable {P : Program} {w : World} {K : PySem.W.Frag} {mg : Str → Option Value} {base : Heap}
theorem same_step {H H1 H2 : Hp} {p : Addr} (s : Same H H1) (z : Sx (one p) H1 H2) (hp : H p = none) : Same H H2 := fun a u e => z a u (fun y => by rw [show a = p from y, hp] at e; cases e) (s a u e)
theorem ints_rp {M : Ms} {H : Hp} : ∀ ws : List Int, RpAll M H (ws.map V.int) (ws.map PyData.int)
  | [] => .nil
  | n :: r => .cons (.int _) (ints_rp r)
theorem ints_lay : ∀ ws : List Int, PyData.canLayAll0 (ws.map PyData.int) = true
  | [] => rfl
  | n :: r => by
    show PyData.canLayAll0 (PyData.int n :: _) = true
    simp only [PyData.canLayAll0, PyData.canLay0, ints_lay r, Bool.and_self]
theorem ints_deep : ∀ ws : List Int, PyData.depthAll (ws.map PyData.int) ≤ 0
  | [] => Nat.le_refl _
  | n :: r => by
    have := ints_deep r
    show PyData.depthAll (PyData.int n :: _) ≤ 0
    simp only [PyData.depthAll, PyData.depth]
    omega
theorem ints_shaped (ws : List Int) : SeqAt.shaped (.list (ws.map PyData.int)) = true := by
  have h := ints_deep ws
  refine Bool.and_eq_true_iff.mpr ⟨ints_lay ws, decide_eq_true ?_⟩
  show PyData.depth (.list _) ≤ _
  simp only [PyData.depth]
  omega
theorem ints_eqvAll : ∀ a b : List Int, PyData.eqvAll (a.map PyData.int) (b.map PyData.int) = decide (a = b)
  | [], [] => rfl
  | [], _ :: _ => rfl
  | _ :: _, [] => rfl
  | x :: a, y :: b => by
    show PyData.eqvAll (PyData.int x :: _) (PyData.int y :: _) = _
    simp only [PyData.eqvAll, PyData.eqv, ints_eqvAll a b]
    rw [Bool.eq_iff_iff]
    simp
theorem ints_eqv (a b : List Int) : PyData.eqv (.list (a.map PyData.int)) (.list (b.map PyData.int)) = decide (a = b) := by
  simp only [PyData.eqv, ints_eqvAll]
theorem b2i_inj : ∀ {a b : List Bool}, a.map b2i = b.map b2i → a = b
  | [], [], _ => rfl
  | [], _ :: _, h => by cases h
  | _ :: _, [], h => by cases h
  | x :: a, y :: b, h => by
    rw [List.map_cons, List.map_cons] at h
    injection h with h1 h2
    rw [b2i_inj h2]
    congr 1
    cases x <;> cases y <;> first | rfl | (exact absurd h1 (by decide))
theorem b2i_map {α : Type} (g : α → Bool) (l : List α) : (l.map g).map b2i = l.map fun p => b2i (g p) := by
  rw [List.map_map]
  rfl
def sp_differ (CK : Addr) : Sp := fun vs H Q _ => ∃ (kv ov nv : V) (f : Fm) (o n : List Int) (i : Nat) (x : Int) (mark : IP) (M : Ms), vs = [kv, ov, .int x, nv] ∧ KeyAt CK M H kv f ∧ RowF M H ov o ∧ RowF M H nv n ∧ goodRow o ∧ goodRow n ∧ Mk M H ∧ o[i]? = some x ∧ (ids f o)[i]? = some mark ∧
  ∀ H', Same H H' → Q (.bl (parted mark x (ids f n) n)) H'
theorem ok_differ (T : Txt K mg) : FnOk P w K mg base CX0 14 T.f__differ T.d__differ ["key", "old", "item", "new"] (sp_differ T.C_Key) := by
  have G_Known___init__ := ok_kinit (P := P) (w := w) (base := base) T
  have G_Things___init__ := ok_tinit (P := P) (w := w) (base := base) T
  have G_Known_show := ok_kshow2 (P := P) (w := w) (base := base) T
  have G_Things_show := ok_tshow2 (P := P) (w := w) (base := base) T
  have G_Known___getitem__ := ok_kget (P := P) (w := w) (base := base) T
  have G_Things___getitem__ := ok_tget (P := P) (w := w) (base := base) T
  have G_Known___setitem__ := ok_kput (P := P) (w := w) (base := base) T
  have G_Things___setitem__ := ok_tput (P := P) (w := w) (base := base) T
  refine T.F__differ.ok sc__differ (fun vs H Q E h => ?_) (fun cdv A outer s H vs Q E hr h => ?_)
  · obtain ⟨_, _, _, _, _, _, _, _, _, _, rfl, _⟩ := h
    rfl
  · obtain ⟨kv, ov, nv, f, o, n, i, x, mark, M, rfl, hK, hO, hN, go, gn, hM, ex, em, q⟩ := h
    refine ⟨_, (pss_cons (ps_set (i := 4) sc__differ.nd rfl (Or.inr rfl) (pe_make ⟨T.mk_Known, T.a_Known___init__, T.i_Known___init__, T.kc_Known⟩ G_Known___init__ (hr.mono (by omega)) (by rfl) T.g_Known T.b_Known___init__ .nil pass0 (pa_cons (pv 0) (pa_cons (pv 1) pa_nil))))
      (pss_cons (ps_set (i := 5) sc__differ.nd rfl (Or.inr rfl) (pe_make ⟨T.mk_Things, T.a_Things___init__, T.i_Things___init__, T.kc_Things⟩ G_Things___init__ (hr.mono (by omega)) (by rfl) T.g_Things T.b_Things___init__ .nil pass0 (pa_cons (pv 1) pa_nil)))
      (pss_cons (ps_ownPut (pv 4) (pv 2) pe_int T.ns_Known T.a_Known___setitem__ T.i_Known___setitem__ G_Known___setitem__ T.b_Known___setitem__ (hr.mono (by omega)) pass0 rfl)
      (pss_cons (ps_ownPut (pv 5) (pv 2) pe_int T.ns_Things T.a_Things___setitem__ T.i_Things___setitem__ G_Things___setitem__ T.b_Things___setitem__ (hr.mono (by omega)) pass0 rfl)
      (pss_cons (ps_expr (pe_meth (pv 4) T.cl_Known ⟨T.a_Known_show, T.i_Known_show, T.F_Known_show.kp⟩ G_Known_show (hr.mono (by omega)) T.b_Known_show .nil pass0 (pa_cons (pv 3) pa_nil)))
      (pss_cons (ps_expr (pe_meth (pv 5) T.cl_Things ⟨T.a_Things_show, T.i_Things_show, T.F_Things_show.kp⟩ G_Things_show (hr.mono (by omega)) T.b_Things_show .nil pass0 (pa_cons (pv 3) pa_nil)))
      (pss_one (ps_ret (pe_cmpR (op_neDK (K := K) rfl hr.units) (pe_lc (own := [("told", 6)]) (g := gName 6) (tt := tYes) (by rfl) sc__differ.nd (pi_tupK (K := K) rfl (pv 3)) (blkOk_by (own := [("told", 6)]) (N := ["key", "old", "item", "new", "known", "things", "told"]) (sc := defScope s__differ) (by decide +kernel)) (fun _ _ _ _ _ => (pg_name (i := 6) sc__differ.nd rfl (Or.inl rfl))) (fun _ _ _ _ _ => pts_nil) (fun _ _ _ _ _ => (pe_ownIx (pv 4) (pv 6) T.a_Known___getitem__ T.n_Known___getitem__ T.i_Known___getitem__ G_Known___getitem__ T.b_Known___getitem__ (hr.mono (by omega)) pass0 (fun _ _ => by with_unfolding_all rfl)))) (pe_lc (own := [("told", 6)]) (g := gName 6) (tt := tYes) (by rfl) sc__differ.nd (pi_tupK (K := K) rfl (pv 3)) (blkOk_by (own := [("told", 6)]) (N := ["key", "old", "item", "new", "known", "things", "told"]) (sc := defScope s__differ) (by decide +kernel)) (fun _ _ _ _ _ => (pg_name (i := 6) sc__differ.nd rfl (Or.inl rfl))) (fun _ _ _ _ _ => pts_nil) (fun _ _ _ _ _ => (pe_ownIx (pv 5) (pv 6) T.a_Things___getitem__ T.n_Things___getitem__ T.i_Things___getitem__ G_Things___getitem__ T.b_Things___getitem__ (hr.mono (by omega)) pass0 (fun _ _ => by with_unfolding_all rfl)))) (nomark _)))))))))), ?_⟩
    walk_at "g"
    intro xa da hxa hda hne
    have hx2 : upd H da (.own xa) xa = none := by rw [upd_ne (fun z => hne z.symm)]; exact hxa
    have s1 : Same H (upd (upd H da (.own xa)) xa (.ins T.C_Known da [])) := (same_new hda).trans (same_new hx2)
    have e1 : upd (upd H da (.own xa)) xa (.ins T.C_Known da []) xa = some (.ins T.C_Known da []) := upd_same
    generalize upd (upd H da (.own xa)) xa (.ins T.C_Known da []) = H1 at s1 e1
    have hM1 : Mk (also M xa) H1 := (hM.gr (Gr.same s1)).also (ne_none e1)
    refine ⟨xa, da, kv, ov, f, o, also M xa, rfl, e1, (KeyAt.fresh hxa hK).sx (Sx.same s1), (hO.fresh hxa).sx (Sx.same s1), go, hM1, .inr rfl, fun H2 knd s2 g2 n2 hk => ?_⟩
    have hknd : H knd = none := s1.free n2
    have sm2 : Same H H2 := same_step s1 s2 hxa
    have hM2 : Mk (also (also M xa) knd) H2 := (hM1.gr g2).also hk.there.2.1
    have hO2 : RowF (also (also M xa) knd) H2 ov o := ((hO.fresh hxa).fresh hknd).sx (Sx.same sm2)
    have hN2 : RowF (also (also M xa) knd) H2 nv n := ((hN.fresh hxa).fresh hknd).sx (Sx.same sm2)
    refine ⟨rfl, ?_⟩
    walk_at "g"
    intro xb db hxb hdb hneb
    have hxb2 : upd H2 db (.own xb) xb = none := by rw [upd_ne (fun z => hneb z.symm)]; exact hxb
    have s3 : Same H2 (upd (upd H2 db (.own xb)) xb (.ins T.C_Things db [])) := (same_new hdb).trans (same_new hxb2)
    have e3 : upd (upd H2 db (.own xb)) xb (.ins T.C_Things db []) xb = some (.ins T.C_Things db []) := upd_same
    generalize upd (upd H2 db (.own xb)) xb (.ins T.C_Things db []) = H3 at s3 e3
    have hxb0 : H xb = none := sm2.free hxb
    have nab : xa ≠ xb := fun z => hk.there.1 (by rw [z]; exact hxb)
    have nkb : knd ≠ xb := fun z => hk.there.2.1 (by rw [z]; exact hxb)
    have hk3 := (hk.fresh hxb).same s3
    have hM3 : Mk (also (also (also M xa) knd) xb) H3 := (hM2.gr (Gr.same s3)).also (ne_none e3)
    refine ⟨xb, db, ov, o, _, rfl, e3, hO2.sx (Sx.same s3), go, hM2.gr (Gr.same s3), fun H4 tnd s4 g4 n4 ht => ?_⟩
    have hk4 := (hk3.fresh n4).frame (F := one xb) s4 (fun c z => .inl (.inr z)) (fun z => nab z) (fun z => nkb z)
    have sm3 := sm2.trans s3
    have sm4 : Same H H4 := same_step sm3 s4 hxb0
    have htnd : H tnd = none := sm3.free n4
    have nat : xa ≠ tnd := fun z => (hk3.there.1) (by rw [z]; exact n4)
    have nkt : knd ≠ tnd := fun z => (hk3.there.2.1) (by rw [z]; exact n4)
    have hM4 : Mk (also (also (also (also M xa) knd) xb) tnd) H4 := (hM3.gr g4).also ht.there.2
    have hN4 : RowF (also (also (also (also M xa) knd) xb) tnd) H4 nv n := ((((hN.fresh hxa).fresh hknd).fresh hxb0).fresh htnd).sx (Sx.same sm4)
    generalize hL : also (also (also (also M xa) knd) xb) tnd = L at hk4 hM4 hN4
    have la : L xa := by rw [← hL]; exact .inl (.inl (.inl (.inr rfl)))
    have lk : L knd := by rw [← hL]; exact .inl (.inl (.inr rfl))
    have lb : L xb := by rw [← hL]; exact .inl (.inr rfl)
    have lt : L tnd := by rw [← hL]; exact .inr rfl
    refine ⟨rfl, ?_⟩
    walk_at "g"
    have hxm : x ∈ o := List.mem_of_getElem? ex
    obtain ⟨kd, _, _, _, _, _, hka, _⟩ := id hk4
    refine ⟨xa, _, _, rfl, hka, xa, knd, f, o, _, i, x, 1, mark, L, rfl, hk4, ex, em, lk, fun H5 s5 g5 hk5 => ?_⟩
    have ht5 := ht.frame (F := one knd) s5 (fun z => nkb z.symm) (fun z => nkt z.symm)
    have sm5 : Same H H5 := same_step sm4 s5 hknd
    walk_at "g"
    obtain ⟨td, _, _, htb, _⟩ := id ht5
    refine ⟨xb, _, _, rfl, htb, xb, tnd, o, _, x, 1, rfl, ht5, hxm, fun H6 s6 g6 ht6 => ?_⟩
    have hk6 := hk5.frame (F := one tnd) s6 (fun c z => by rw [show c = tnd from z]; exact lt) (fun z => nat z) (fun z => nkt z)
    have sm6 : Same H H6 := same_step sm5 s6 htnd
    have hM6 := (hM4.gr g5).gr g6
    have hN6 : RowF L H6 nv n := (hN4.sx (s5.le (one_le lk))).sx (s6.le (one_le lt))
    walk_at "g"
    obtain ⟨kd6, _, _, _, _, _, hka6, _⟩ := id hk6
    refine ⟨xa, _, _, rfl, hka6, rfl, ?_⟩
    walk_at "g"
    refine ⟨xa, knd, nv, f, o, n, _, L, rfl, hk6, hN6, gn, hM6, la, fun H7 knd2 s7 g7 n7 hk7 => ?_⟩
    have ht7 := ht6.frame (F := one xa) s7 (fun z => nab z.symm) (fun z => nat z.symm)
    have sm7 : Same H H7 := same_step sm6 s7 hxa
    have hknd2 : H knd2 = none := sm6.free n7
    have nkb2 : knd2 ≠ xb := fun z => by rw [z] at n7; exact (ht6.there).1 n7
    have hN7 : RowF (also L knd2) H7 nv n := (hN6.fresh n7).sx (s7.le (one_le (.inl la)))
    walk_at "g"
    obtain ⟨td7, _, _, htb7, _⟩ := id ht7
    refine ⟨xb, _, _, rfl, htb7, rfl, ?_⟩
    walk_at "g"
    refine ⟨xb, tnd, nv, o, n, _, _, rfl, ht7, hN7, gn, fun H8 tnd2 s8 g8 n8 ht8 => ?_⟩
    have hk8 := (hk7.fresh n8).frame (F := one xb) s8 (fun c z => by rw [show c = xb from z]; exact .inl (.inl lb)) (fun z => nab z) (fun z => nkb2 z)
    have sm8 : Same H H8 := same_step sm7 s8 hxb0
    have hN8 := (hN7.fresh n8).sx (s8.le (one_le (.inl (.inl lb))))
    obtain ⟨bn, on, en, nbn, hbn, _⟩ := id hN8
    subst en
    walk_at "g"
    let kvals : List Int := (ids f n).map fun p => b2i (decide (p = mark))
    let tvals : List Int := n.map fun y => b2i (decide (y = x))
    have lids : (ids f n).length = n.length := ids_len f n
    have l5 := gn.1
    have kat : ∀ (j : Nat) (p : IP), (ids f n)[j]? = some p → shownN (ids f n) (fun y => if y = mark then some 1 else shownN (ids f o) (fun _ => none) y) p = some (b2i (decide (p = mark))) := fun j p hp => by
      unfold shownN b2i
      rw [if_pos (List.mem_of_getElem? hp)]
      dsimp only
      by_cases c : p = mark
      · rw [if_pos c, decide_eq_true c, if_pos rfl]; rfl
      · rw [if_neg c, decide_eq_false c, if_neg Bool.false_ne_true]
        by_cases d : p ∈ ids f o
        · rw [if_pos d]; rfl
        · rw [if_neg d]; rfl
    have tat : ∀ (j : Nat) (y : Int), n[j]? = some y → shownT n (fun z => if z = x then some 1 else shownT o (fun _ => none) z) y = some (b2i (decide (y = x))) := fun j y hy => by
      unfold shownT b2i
      rw [if_pos (List.mem_of_getElem? hy)]
      dsimp only
      by_cases c : y = x
      · rw [if_pos c, decide_eq_true c, if_pos rfl]; rfl
      · rw [if_neg c, decide_eq_false c, if_neg Bool.false_ne_true]
        by_cases d : y ∈ o
        · rw [if_pos d]; rfl
        · rw [if_neg d]; rfl
    refine ⟨⟨_, .inl (.inr ⟨on, hbn⟩)⟩, fun D hD => ?_⟩
    refine tup_loop (xs := n.map V.int) (fun j H' => Same H8 H' ∧ H' D = some (.lst ((kvals.take j).map V.int))) ⟨same_new hD, upd_same⟩ (fun j H' _ p => .inl (.inr ⟨on, p.1 _ _ hbn⟩)) (fun j y H' hy p => ?_) (fun H9 p => ?_)
    · obtain ⟨s9, eD⟩ := p
      rw [List.getElem?_map] at hy
      obtain ⟨y, hy', rfl⟩ := Option.map_eq_some_iff.mp hy
      have hj : j < n.length := (List.getElem?_eq_some_iff.mp hy').1
      have ep : (ids f n)[j]? = some ((ids f n)[j]'(by omega)) := List.getElem?_eq_getElem _
      have hk9 := hk8.same s9
      obtain ⟨kd9, _, _, _, _, _, hka9, _⟩ := id hk9
      refine ⟨rfl, ?_⟩
      walk_at "g"
      refine ⟨xa, _, _, rfl, hka9, xa, knd2, f, n, _, j, y, _, _, _, rfl, hk9, hy', ep, kat j _ ep, ?_⟩
      refine ⟨_, eD, small1000 (by rw [List.length_map, List.length_take]; omega), same_put s9 hD, ?_⟩
      rw [upd_same, List.take_add_one, List.map_append, show kvals[j]? = some (b2i (decide ((ids f n)[j]'(by omega) = mark))) by show (List.map _ (ids f n))[j]? = _; rw [List.getElem?_map, ep]; rfl]
      rfl
    obtain ⟨s9, eD⟩ := p
    rw [List.length_map, show kvals.take n.length = kvals from List.take_of_length_le (by show (List.map _ (ids f n)).length ≤ _; rw [List.length_map]; omega)] at eD
    have hbn9 := s9 _ _ hbn
    walk_at "g"
    refine ⟨⟨_, .inl (.inr ⟨on, hbn9⟩)⟩, fun D2 hD2 => ?_⟩
    refine tup_loop (xs := n.map V.int) (fun j H' => Same H9 H' ∧ H' D2 = some (.lst ((tvals.take j).map V.int))) ⟨same_new hD2, upd_same⟩ (fun j H' _ p => .inl (.inr ⟨on, p.1 _ _ hbn9⟩)) (fun j y H' hy p => ?_) (fun H10 p => ?_)
    · obtain ⟨s10, eD2⟩ := p
      rw [List.getElem?_map] at hy
      obtain ⟨y, hy', rfl⟩ := Option.map_eq_some_iff.mp hy
      have hj : j < n.length := (List.getElem?_eq_some_iff.mp hy').1
      have ht9 := (ht8.same s9).same s10
      obtain ⟨td9, _, _, htb9, _⟩ := id ht9
      refine ⟨rfl, ?_⟩
      walk_at "g"
      refine ⟨xb, _, _, rfl, htb9, xb, tnd2, n, _, y, _, rfl, ht9, tat j _ hy', ?_⟩
      refine ⟨_, eD2, small1000 (by rw [List.length_map, List.length_take]; omega), same_put s10 hD2, ?_⟩
      rw [upd_same, List.take_add_one, List.map_append, show tvals[j]? = some (b2i (decide (y = x))) by show (List.map _ n)[j]? = _; rw [List.getElem?_map, hy']; rfl]
      rfl
    obtain ⟨s10, eD2⟩ := p
    rw [List.length_map, show tvals.take n.length = tvals from List.take_of_length_le (by show (List.map _ n).length ≤ _; rw [List.length_map]; exact Nat.le_refl _)] at eD2
    have r1 : Rp (fun _ => False) H10 (.ref D) (.list (kvals.map PyData.int)) := .lst (fun z => z) (.inl (s10 _ _ eD)) (ints_rp _)
    have r2 : Rp (fun _ => False) H10 (.ref D2) (.list (tvals.map PyData.int)) := .lst (fun z => z) (.inl eD2) (ints_rp _)
    refine ⟨_, _, Rp.dp _ _ r1, Rp.dp _ _ r2, ints_shaped _, ints_shaped _, ?_⟩
    rw [ints_eqv]
    have fin := q _ (sm8.trans (s9.trans s10))
    have hiff : kvals = tvals ↔ (ids f n).map (fun p => decide (p = mark)) = n.map fun y => decide (y = x) := by
      have h1 : kvals = ((ids f n).map fun p => decide (p = mark)).map b2i := (b2i_map (fun p => decide (p = mark)) (ids f n)).symm
      have h2 : tvals = (n.map fun y => decide (y = x)).map b2i := (b2i_map (fun y => decide (y = x)) n).symm
      rw [h1, h2]
      exact ⟨b2i_inj, fun z => congrArg (List.map b2i) z⟩
    have e : parted mark x (ids f n) n = !decide (kvals = tvals) := by
      unfold parted
      by_cases c : kvals = tvals
      · rw [decide_eq_true c, decide_eq_false (fun z => z (hiff.mp c))]
        rfl
      · have c2 : (ids f n).map (fun p => decide (p = mark)) ≠ n.map fun y => decide (y = x) := fun z => c (hiff.mpr z)
        rw [decide_eq_false c, decide_eq_true c2]
        rfl
    rw [e] at fin
    exact fin
theorem fs_none {α β : Type} {F : α → Option β} {l : List α} {i : Nat} {x : α} (h : (l.take i).findSome? F = none) (hx : l[i]? = some x) (hF : F x = none) : (l.take (i + 1)).findSome? F = none := by
  rw [List.take_add_one, hx, List.findSome?_append, h]
  show (Option.or none ([x].findSome? F)) = none
  rw [List.findSome?_cons, hF]
  rfl
theorem fs_some {α β : Type} {F : α → Option β} {l : List α} {i : Nat} {x : α} {r : β} (h : (l.take i).findSome? F = none) (hx : l[i]? = some x) (hF : F x = some r) : l.findSome? F = some r := by
  obtain ⟨hi, e⟩ := List.getElem?_eq_some_iff.mp hx
  rw [← List.take_append_drop i l, List.findSome?_append, h, List.drop_eq_getElem_cons hi, List.findSome?_cons, e, hF]
  rfl
abbrev Tri := List Int × Int × List Int
def tri0 (f : Fm) (o n : List Int) (xp : Int × IP) : Option Tri := if parted xp.2 xp.1 (ids f n) n = true then some (o, xp.1, n) else none
def tri1 (f : Fm) (o n : List Int) : Option Tri := (o.zip (ids f o)).findSome? (tri0 f o n)
/-- the first parting triple -/
def firstTri (f : Fm) (nss : List (List Int)) : Option Tri := nss.findSome? fun o => nss.findSome? fun n => tri1 f o n
def TriRes (M : Ms) (H : Hp) (v : V) : Option Tri → Prop
  | none => v = .non
  | some p => ∃ t w1 w2, v = .ref t ∧ H t = some (.tup [w1, .int p.2.1, w2]) ∧ RowF M H w1 p.1 ∧ RowF M H w2 p.2.2
theorem zip_at {o : List Int} {B : List IP} {i : Nat} {x : Int} {p : IP} (h1 : o[i]? = some x) (h2 : B[i]? = some p) : (o.zip B)[i]? = some (x, p) := by
  rw [List.getElem?_zip_eq_some]
  exact ⟨h1, h2⟩
def sp_lp (CK : Addr) : Sp := fun vs H Q _ => ∃ (kv v : V) (f : Fm) (nss : List (List Int)) (M : Ms), vs = [kv, v] ∧ KeyAt CK M H kv f ∧ MenuAt M H v nss ∧ Mk M H ∧
  ∀ v H', Same H H' → TriRes M H' v (firstTri f nss) → Q v H'
theorem ok_lp (T : Txt K mg) : FnOk P w K mg base CX0 15 T.f_least_parting T.d_least_parting ["key", "menu"] (sp_lp T.C_Key) := by
  have G_check_rows := ok_check_rows (P := P) (w := w) (base := base) T
  have G__differ := ok_differ (P := P) (w := w) (base := base) T
  refine T.F_least_parting.ok sc_least_parting (fun vs H Q E h => ?_) (fun cdv A outer s H vs Q E hr h => ?_)
  · obtain ⟨_, _, _, _, _, rfl, _⟩ := h
    rfl
  · obtain ⟨kv, v, f, nss, M, rfl, hK, hm, hM, q⟩ := h
    obtain ⟨m, xs, em, nm, rm, lxs, l8, rows⟩ := id hm
    subst em
    have rowAt : ∀ {H'}, Same H H' → ∀ (i : Nat) (x : V), xs[i]? = some x → ∃ ns, nss[i]? = some ns ∧ RowF M H' x ns ∧ goodRow ns := fun {H'} s i x hx => by
      have hi : i < nss.length := by rw [← lxs]; exact (List.getElem?_eq_some_iff.mp hx).1
      obtain ⟨w, hw, q, g⟩ := rows i _ (List.getElem?_eq_getElem hi)
      rw [hx] at hw
      cases hw
      exact ⟨_, List.getElem?_eq_getElem hi, q.sx (Sx.same s), g⟩
    refine ⟨_, (pss_cons (ps_expr (pe_call G_check_rows (hr.mono (by omega)) (by rfl) T.g_check_rows T.F_check_rows.kp T.b_check_rows .nil pass0 (pa_cons (pv 1) pa_nil)))
      (pss_cons (ps_for PassesOwn.never rfl (pi_tupK (K := K) rfl (pv 1)) (pg_name (i := 2) sc_least_parting.nd rfl (Or.inl rfl)) (pss_one (ps_for PassesOwn.never rfl (pi_tupK (K := K) rfl (pv 1)) (pg_name (i := 3) sc_least_parting.nd rfl (Or.inl rfl)) (pss_one (ps_for PassesOwn.never rfl (pi_tupK (K := K) rfl (pv 2)) (pg_name (i := 4) sc_least_parting.nd rfl (Or.inl rfl)) (pss_one (ps_if (pt_val (pe_call G__differ (hr.mono (by omega)) (by rfl) T.g__differ T.F__differ.kp T.b__differ .nil pass0 (pa_cons (pv 0) (pa_cons (pv 2) (pa_cons (pv 4) (pa_cons (pv 3) pa_nil)))))) (pss_one (ps_ret (pe_tup (pa_cons (pv 2) (pa_cons (pv 4) (pa_cons (pv 3) pa_nil)))))) pss_nil)))))))
      (pss_one (ps_ret pe_non)))), ?_⟩
    walk_at "g"
    refine ⟨m, xs, M, rfl, .inl rm, fun x hx => ?_, fun H1 s1 => ?_⟩
    · obtain ⟨i, hi⟩ := List.mem_iff_getElem?.mp hx
      obtain ⟨ns, _, q, g⟩ := rowAt (Same.refl _) i x hi
      exact ⟨ns, q.row, g⟩
    walk_at "g"
    refine ⟨⟨_, .inl (same_rd s1 rm)⟩, ?_⟩
    refine for_tup (K := K) (a := m) (xs := xs) (fun i σ H' => (∃ y2 y3 y4, σ = [some kv, some (.ref m), y2, y3, y4]) ∧ Same H H' ∧ (nss.take i).findSome? (fun o => nss.findSome? fun n => tri1 f o n) = none) ⟨⟨_, _, _, rfl⟩, s1, by rw [List.take_zero]; rfl⟩ (fun i σ H' _ pp => .inl (same_rd pp.2.1 rm)) (fun i x σ H' hx pp => ?_) (fun σ H' pp => ?_)
    · obtain ⟨⟨y2, y3, y4, rfl⟩, s2, hno⟩ := pp
      obtain ⟨o, ho, qo, go⟩ := rowAt s2 i x hx
      walk_at "g"
      refine ⟨⟨_, .inl (same_rd s2 rm)⟩, ?_⟩
      refine for_tup (K := K) (a := m) (xs := xs) (fun j σ H3 => (∃ y3 y4, σ = [some kv, some (.ref m), some x, y3, y4]) ∧ Same H H3 ∧ (nss.take j).findSome? (fun n => tri1 f o n) = none) ⟨⟨_, _, rfl⟩, s2, by rw [List.take_zero]; rfl⟩ (fun i σ H' _ pp => .inl (same_rd pp.2.1 rm)) (fun j y σ H3 hy pp => ?_) (fun σ H3 pp => ?_)
      · obtain ⟨⟨y3, y4, rfl⟩, s3, hno2⟩ := pp
        obtain ⟨n, hn, qn, gn⟩ := rowAt s3 j y hy
        obtain ⟨o', ho', qo3, _⟩ := rowAt s3 i x hx
        rw [ho] at ho'
        cases ho'
        obtain ⟨b, ob, eb, nb, hb, ob1, ob2⟩ := id qo3
        subst eb
        have lids : (ids f o).length = o.length := ids_len f o
        walk_at "g"
        refine ⟨⟨_, .inl (.inr ⟨ob, hb⟩)⟩, ?_⟩
        refine for_tup (K := K) (a := b) (xs := o.map V.int) (fun k σ H4 => (∃ y4, σ = [some kv, some (.ref m), some (.ref b), some y, y4]) ∧ Same H3 H4 ∧ ((o.zip (ids f o)).take k).findSome? (tri0 f o n) = none) ⟨⟨_, rfl⟩, Same.refl _, by rw [List.take_zero]; rfl⟩ (fun i σ H' _ pp => .inl (.inr ⟨ob, pp.2.1 _ _ hb⟩)) (fun k z σ H4 hz pp => ?_) (fun σ H4 pp => ?_)
        · obtain ⟨⟨y4, rfl⟩, s4, hno3⟩ := pp
          rw [List.getElem?_map] at hz
          obtain ⟨z, hz', rfl⟩ := Option.map_eq_some_iff.mp hz
          have hk : k < o.length := (List.getElem?_eq_some_iff.mp hz').1
          have ep : (ids f o)[k]? = some ((ids f o)[k]'(by omega)) := List.getElem?_eq_getElem _
          have hzip := zip_at hz' ep
          have sH := s3.trans s4
          walk_at "g"
          refine ⟨kv, .ref b, y, f, o, n, k, z, _, M, rfl, hK.sx (Sx.same sH), qo3.sx (Sx.same s4), qn.sx (Sx.same s4), go, gn, hM.gr (Gr.same sH), hz', ep, fun H5 s5 => ?_⟩
          walk_at "g"
          by_cases c : parted ((ids f o)[k]'(by omega)) z (ids f n) n = true
          · rw [c]
            walk_at "g"
            refine ⟨szK rfl, fun t ht => ?_⟩
            have sT := (sH.trans s5).trans (same_new (o := .tup [V.ref b, .int z, y]) ht)
            refine q _ _ sT ?_
            have h0 : tri0 f o n (z, (ids f o)[k]'(by omega)) = some (o, z, n) := if_pos c
            have h1 : tri1 f o n = some (o, z, n) := fs_some hno3 hzip h0
            have h2 : (nss.findSome? fun n => tri1 f o n) = some (o, z, n) := fs_some hno2 hn h1
            have h3 : firstTri f nss = some (o, z, n) := fs_some hno ho h2
            rw [h3]
            exact ⟨t, _, _, rfl, upd_same, (qo3.sx (Sx.same s4)).sx (Sx.same (s5.trans (same_new ht))), (qn.sx (Sx.same s4)).sx (Sx.same (s5.trans (same_new ht)))⟩
          · have c' : parted ((ids f o)[k]'(by omega)) z (ids f n) n = false := by simpa using c
            rw [c']
            walk_at "g"
            exact ⟨⟨_, rfl⟩, s4.trans s5, fs_none hno3 hzip (if_neg c)⟩
        · obtain ⟨⟨y4, rfl⟩, s4, hno3⟩ := pp
          rw [List.length_map, List.take_of_length_le (by rw [List.length_zip]; omega)] at hno3
          exact ⟨⟨_, _, rfl⟩, s3.trans s4, fs_none hno2 hn hno3⟩
      · obtain ⟨⟨y3, y4, rfl⟩, s3, hno2⟩ := pp
        rw [lxs, List.take_length] at hno2
        exact ⟨⟨_, _, _, rfl⟩, s3, fs_none hno ho hno2⟩
    · obtain ⟨⟨y2, y3, y4, rfl⟩, s2, hno⟩ := pp
      rw [lxs, List.take_length] at hno
      walk_at "g"
      refine q _ _ s2 ?_
      rw [show firstTri f nss = none from hno]
      rfl
end
end D

namespace D
open PySem PySem.Spec PyProof.Rows L2
local macro_rules | `(tactic| walk_at "st") => `(tactic| first | exact SqT.of (by assumption) | exact Or.inl (by assumption) | exact SqT.of upd_same | fail "st")
local macro_rules | `(tactic| walk_at "ixt") => `(tactic| refine ⟨_, _, _, _, rfl, rfl, (by walk_at "st" : SqT _ _ _ _), by rfl, ?_⟩)
local macro_rules | `(tactic| walk_at "sq") => `(tactic| first | exact SqL.of (by assumption) | assumption | exact Or.inl (by assumption) | exact SqL.of upd_same | fail "sq")
local macro_rules | `(tactic| walk_at "ix") => `(tactic| refine ⟨_, _, _, _, rfl, rfl, (by walk_at "sq" : SqL _ _ _ _), by rfl, ?_⟩)
local macro_rules | `(tactic| walk_at "set") => `(tactic| refine ⟨_, _, _, _, rfl, rfl, by first | assumption | exact upd_same, by rfl, ?_⟩)
local macro_rules | `(tactic| walk_at "len") => `(tactic| refine ⟨_, _, rfl, Or.inl (by walk_at "sq" : SqL _ _ _ _), ?_⟩)
local macro_rules | `(tactic| walk_at "g") => `(tactic| repeat (first | refine ⟨_, rfl, ?_⟩ | refine ⟨_, _, rfl, rfl, ?_⟩ | refine ⟨Or.inr (by decide), ?_⟩ | refine ⟨Or.inl (by decide), ?_⟩ | refine ⟨(by decide : (0 : Int) < _), ?_⟩ | refine ⟨(⟨by decide, by decide⟩ : CDiv _ _), ?_⟩ | refine ⟨(⟨by decide, by decide, by decide⟩ : CPow _ _), ?_⟩ | refine Or.inl ⟨_, rfl, ?_⟩ | refine ⟨rfl, ?_⟩ | walk_at "ix" | walk_at "ixt" | walk_at "len" | fail "g"))
local macro_rules | `(tactic| walk_at "if") => `(tactic| refine ite2 (fun e => ?_) (fun e => ?_))
section
variable {P : Program} {w : World} {K : PySem.W.Frag} {mg : Str → Option Value} {base : Heap}

theorem bad_iff0 {f : Fm} {o n : List Int} (ho : o.Nodup) :
    badF f (o, n) = true ↔ ∃ (i j : Nat) (x y : Int) (u v : IP), o[i]? = some x ∧ n[j]? = some y ∧ (ids f o)[i]? = some u ∧ (ids f n)[j]? = some v ∧ decide (u = v) ≠ decide (x = y) := bad_iff ho (idp_nodup _) (ids_len f o) (ids_len f n)
theorem find_flat {α β : Type} (p : β → Bool) (g : α → List β) : ∀ l : List α, (l.flatMap g).find? p = l.findSome? fun x => (g x).find? p
  | [] => rfl
  | x :: l => by
    rw [List.flatMap_cons, List.find?_append, List.findSome?_cons, find_flat p g l]
    cases (g x).find? p <;> rfl
theorem find_pair (f : Fm) (o : List Int) : ∀ l : List (List Int), (l.map fun n => (o, n)).find? (badF f) = l.findSome? fun n => if badF f (o, n) = true then some (o, n) else none
  | [] => rfl
  | n :: l => by
    rw [List.map_cons, List.find?_cons, List.findSome?_cons, find_pair f o l]
    by_cases c : badF f (o, n) = true
    · rw [c, if_pos rfl]
    · rw [if_neg c]
      have c' : badF f (o, n) = false := by simpa using c
      rw [c']
/-! ### the rows of a size, and the least pair -/
def nat2 (s : Nat) : List Int := (List.range s).map fun (i : Nat) => (i : Int)
def ext1 (s : Nat) (r : List Int) : List (List Int) := ((nat2 s).filter fun x => decide (x ∉ r)).map fun x => r ++ [x]
def lon (s : Nat) : Nat → List (List Int)
  | 0 => [[]]
  | k + 1 => (lon s k).flatMap (ext1 s)
theorem nd1 (x : Int) : [x].Nodup := by simp
theorem mem_nat2 {s : Nat} {x : Int} : x ∈ nat2 s ↔ 0 ≤ x ∧ x < (s : Int) := by
  unfold nat2
  rw [List.mem_map]
  constructor
  · rintro ⟨i, hi, rfl⟩
    have := List.mem_range.mp hi
    omega
  · rintro ⟨h0, h1⟩
    exact ⟨x.toNat, List.mem_range.mpr (by omega), by omega⟩
theorem mem_ext1 {s : Nat} {r n : List Int} : n ∈ ext1 s r ↔ ∃ x, 0 ≤ x ∧ x < (s : Int) ∧ x ∉ r ∧ n = r ++ [x] := by
  unfold ext1
  rw [List.mem_map]
  constructor
  · rintro ⟨x, hx, rfl⟩
    obtain ⟨h1, h2⟩ := List.mem_filter.mp hx
    obtain ⟨h3, h4⟩ := mem_nat2.mp h1
    exact ⟨x, h3, h4, of_decide_eq_true h2, rfl⟩
  · rintro ⟨x, h1, h2, h3, rfl⟩
    exact ⟨x, List.mem_filter.mpr ⟨mem_nat2.mpr ⟨h1, h2⟩, decide_eq_true h3⟩, rfl⟩
theorem mem_lon {s : Nat} : ∀ {k : Nat} {n : List Int}, n ∈ lon s k ↔ n.length = k ∧ n.Nodup ∧ ∀ x ∈ n, 0 ≤ x ∧ x < (s : Int)
  | 0, n => by
    unfold lon
    rw [List.mem_singleton]
    constructor
    · rintro rfl
      exact ⟨rfl, List.nodup_nil, fun x h => nomatch h⟩
    · rintro ⟨h, _⟩
      exact List.length_eq_zero_iff.mp h
  | k + 1, n => by
    unfold lon
    rw [List.mem_flatMap]
    constructor
    · rintro ⟨r, hr, hn⟩
      obtain ⟨h1, h2, h3⟩ := mem_lon.mp hr
      obtain ⟨x, x0, x1, x2, rfl⟩ := mem_ext1.mp hn
      refine ⟨by rw [List.length_append, h1]; rfl, ?_, fun y hy => ?_⟩
      · rw [List.nodup_append]
        refine ⟨h2, nd1 _, fun a ha b hb => ?_⟩
        rw [List.mem_singleton] at hb
        subst hb
        exact fun z => x2 (by rw [← z]; exact ha)
      · rcases List.mem_append.mp hy with hy | hy
        · exact h3 y hy
        · rw [List.mem_singleton.mp hy]
          exact ⟨x0, x1⟩
    · rintro ⟨h1, h2, h3⟩
      have hne : n ≠ [] := fun z => by rw [z] at h1; cases h1
      have e := List.dropLast_concat_getLast hne
      generalize n.dropLast = r at e
      generalize n.getLast hne = x at e
      subst e
      rw [List.nodup_append] at h2
      obtain ⟨n1, _, n3⟩ := h2
      rw [List.length_append] at h1
      refine ⟨r, mem_lon.mpr ⟨by simpa using h1, n1, fun y hy => h3 y (List.mem_append_left _ hy)⟩, mem_ext1.mpr ⟨x, (h3 x (by simp)).1, (h3 x (by simp)).2, fun z => n3 x z x (by simp) rfl, rfl⟩⟩
theorem lon_good {s k : Nat} {n : List Int} (h : n ∈ lon s k) (hs : s ≤ 4) (hk : k ≤ 4) : goodRow n := by
  obtain ⟨h1, h2, h3⟩ := mem_lon.mp h
  exact ⟨by omega, h2, fun x hx => by have := h3 x hx; omega⟩
theorem ext1_len (s : Nat) (r : List Int) : (ext1 s r).length ≤ s := by
  unfold ext1
  rw [List.length_map]
  refine Nat.le_trans (List.length_filter_le _ _) ?_
  unfold nat2
  rw [List.length_map, List.length_range]
  exact Nat.le_refl _
theorem flat_len {α β : Type} (g : α → List β) (m : Nat) : ∀ l : List α, (∀ x ∈ l, (g x).length ≤ m) → (l.flatMap g).length ≤ l.length * m
  | [], _ => by simp
  | x :: l, h => by
    rw [List.flatMap_cons, List.length_append, List.length_cons, Nat.succ_mul]
    have h1 := h x List.mem_cons_self
    have h2 := flat_len g m l fun y hy => h y (List.mem_cons_of_mem _ hy)
    omega
theorem lon_len {s : Nat} (hs : s ≤ 4) : ∀ k, (lon s k).length ≤ 4 ^ k
  | 0 => Nat.le_refl _
  | k + 1 => by
    unfold lon
    have h := flat_len (ext1 s) 4 (lon s k) fun x _ => Nat.le_trans (ext1_len s x) hs
    have ih := lon_len hs k
    rw [Nat.pow_succ]
    exact Nat.le_trans h (Nat.mul_le_mul_right 4 ih)
def rowsUp (s p : Nat) : List (List Int) := (List.range (p + 1)).flatMap (lon s)
theorem rowsUp_succ (s p : Nat) : rowsUp s (p + 1) = rowsUp s p ++ lon s (p + 1) := by
  unfold rowsUp
  rw [List.range_succ (n := p + 1), List.flatMap_append]
  simp
theorem rowsUp_zero (s : Nat) : rowsUp s 0 = [[]] := rfl
theorem mem_rowsUp {s p : Nat} {n : List Int} : n ∈ rowsUp s p ↔ n.length ≤ p ∧ n.Nodup ∧ ∀ x ∈ n, 0 ≤ x ∧ x < (s : Int) := by
  unfold rowsUp
  rw [List.mem_flatMap]
  constructor
  · rintro ⟨k, hk, h⟩
    obtain ⟨h1, h2⟩ := mem_lon.mp h
    have := List.mem_range.mp hk
    exact ⟨by omega, h2⟩
  · rintro ⟨h1, h2⟩
    exact ⟨n.length, List.mem_range.mpr (by omega), mem_lon.mpr ⟨rfl, h2⟩⟩
def firstOf (f : Fm) (os ns : List (List Int)) : Option RR := os.findSome? fun o => ns.findSome? fun n => if badF f (o, n) = true then some (o, n) else none
def LPt (f : Fm) (s p t l : Nat) : Option RR := if l ≤ t ∧ t - l ≤ p then firstOf f (lon s l) (lon s (t - l)) else none
/-- the least pair, as the law finds it -/
def LP (f : Fm) (s p : Nat) : Option RR := (List.range (2 * p + 1)).findSome? fun t => (List.range (p + 1)).findSome? (LPt f s p t)
/-- as the program finds it -/
def prsOf (s p t : Nat) : List RR := (rowsUp s p).flatMap fun o => ((rowsUp s p).filter fun n => decide (o.length + n.length = t)).map fun n => (o, n)
def PP (f : Fm) (s p : Nat) : Option RR := (List.range (2 * p + 1)).findSome? fun t => (prsOf s p t).find? (badF f)
theorem filter_flat {α β : Type} (q : β → Bool) (g : α → List β) : ∀ l : List α, (l.flatMap g).filter q = l.flatMap fun x => (g x).filter q
  | [] => rfl
  | x :: l => by
    rw [List.flatMap_cons, List.filter_append, List.flatMap_cons, filter_flat q g l]
theorem lon_filter (s l t k : Nat) : (lon s k).filter (fun n => decide (l + n.length = t)) = if l + k = t then lon s k else [] := by
  by_cases c : l + k = t
  · rw [if_pos c, List.filter_eq_self]
    intro n hn
    exact decide_eq_true (by rw [(mem_lon.mp hn).1]; exact c)
  · rw [if_neg c, List.filter_eq_nil_iff]
    intro n hn
    rw [(mem_lon.mp hn).1]
    simpa using c
theorem flat_nil {α β : Type} (g : α → List β) : ∀ l : List α, (∀ x ∈ l, g x = []) → l.flatMap g = []
  | [], _ => rfl
  | x :: l, h => by
    rw [List.flatMap_cons, h x List.mem_cons_self, flat_nil g l fun y hy => h y (List.mem_cons_of_mem _ hy)]
    rfl
theorem flat_one {α β : Type} (g : α → List β) (j : α) : ∀ l : List α, l.Nodup → (∀ x ∈ l, x ≠ j → g x = []) → j ∈ l → l.flatMap g = g j
  | [], _, _, h => nomatch h
  | x :: l, hn, h, hj => by
    obtain ⟨h1, h2⟩ := List.nodup_cons.mp hn
    rw [List.flatMap_cons]
    rcases List.mem_cons.mp hj with e | hj
    · subst e
      rw [flat_nil g l fun y hy => h y (List.mem_cons_of_mem _ hy) fun z => h1 (by rw [← z]; exact hy), List.append_nil]
    · rw [h x List.mem_cons_self fun z => h1 (by rw [z]; exact hj), flat_one g j l h2 (fun y hy => h y (List.mem_cons_of_mem _ hy)) hj]
      rfl
theorem up_filter (s p l t : Nat) : (rowsUp s p).filter (fun n => decide (l + n.length = t)) = if l ≤ t ∧ t - l ≤ p then lon s (t - l) else [] := by
  unfold rowsUp
  rw [filter_flat]
  have e : ∀ x ∈ List.range (p + 1), x ≠ t - l → (lon s x).filter (fun n => decide (l + n.length = t)) = [] := fun x hx hne => by
    rw [lon_filter, if_neg (by omega)]
  by_cases c : l ≤ t ∧ t - l ≤ p
  · rw [if_pos c, flat_one _ (t - l) _ List.nodup_range e (List.mem_range.mpr (by omega)), lon_filter, if_pos (by omega)]
  · rw [if_neg c]
    refine flat_nil _ _ fun x hx => ?_
    rw [lon_filter, if_neg]
    have := List.mem_range.mp hx
    omega
theorem fs_flat {α β γ : Type} (F : β → Option γ) (g : α → List β) : ∀ l : List α, (l.flatMap g).findSome? F = l.findSome? fun x => (g x).findSome? F
  | [] => rfl
  | x :: l => by
    rw [List.flatMap_cons, List.findSome?_append, List.findSome?_cons, fs_flat F g l]
    cases (g x).findSome? F <;> rfl
theorem fs_congr {α β : Type} {F G : α → Option β} : ∀ {l : List α}, (∀ x ∈ l, F x = G x) → l.findSome? F = l.findSome? G
  | [], _ => rfl
  | x :: l, h => by
    rw [List.findSome?_cons, List.findSome?_cons, h x List.mem_cons_self, fs_congr fun y hy => h y (List.mem_cons_of_mem _ hy)]
theorem PP_eq (f : Fm) (s p : Nat) : PP f s p = LP f s p := by
  unfold PP LP
  refine fs_congr fun t _ => ?_
  unfold prsOf
  rw [find_flat]
  rw [show rowsUp s p = (List.range (p + 1)).flatMap (lon s) from rfl, fs_flat]
  refine fs_congr fun l hl => ?_
  unfold LPt firstOf
  have e : ∀ o ∈ lon s l, List.find? (badF f) ((((List.range (p + 1)).flatMap (lon s)).filter fun n => decide (o.length + n.length = t)).map fun n => (o, n)) = if l ≤ t ∧ t - l ≤ p then ((lon s (t - l)).findSome? fun n => if badF f (o, n) = true then some (o, n) else none) else none := fun o ho => by
    rw [find_pair, (mem_lon.mp ho).1]
    have := up_filter s p l t
    unfold rowsUp at this
    rw [this]
    by_cases c : l ≤ t ∧ t - l ≤ p
    · rw [if_pos c, if_pos c]
    · rw [if_neg c, if_neg c]
      rfl
  rw [fs_congr e]
  by_cases c : l ≤ t ∧ t - l ≤ p
  · simp only [if_pos c]
  · simp only [if_neg c]
    induction lon s l with
    | nil => rfl
    | cons x r ih => rw [List.findSome?_cons]; exact ih
/-! ### what the least pair is -/
theorem rng_fs {β : Type} {F : Nat → Option β} : ∀ {n : Nat} {b : β}, (List.range n).findSome? F = some b → ∃ t, t < n ∧ F t = some b ∧ ∀ u, u < t → F u = none
  | 0, b, h => nomatch h
  | n + 1, b, h => by
    rw [List.range_succ, List.findSome?_append] at h
    cases e : (List.range n).findSome? F with
    | some c =>
      rw [e] at h
      have h' : some c = some b := h
      cases h'
      obtain ⟨t, h1, h2, h3⟩ := rng_fs e
      exact ⟨t, by omega, h2, h3⟩
    | none =>
      rw [e] at h
      have h' : F n = some b := by
        have : (List.findSome? F [n]) = some b := h
        rw [List.findSome?_cons] at this
        cases e2 : F n with
        | some c => rw [e2] at this; exact this
        | none => rw [e2] at this; cases this
      refine ⟨n, by omega, h', fun u hu => ?_⟩
      exact List.findSome?_eq_none_iff.mp e u (List.mem_range.mpr hu)
theorem firstOf_some {f : Fm} {os ns : List (List Int)} {o n : List Int} (h : firstOf f os ns = some (o, n)) : o ∈ os ∧ n ∈ ns ∧ badF f (o, n) = true := by
  unfold firstOf at h
  obtain ⟨o', ho, h⟩ := List.exists_of_findSome?_eq_some h
  obtain ⟨n', hn, h⟩ := List.exists_of_findSome?_eq_some h
  by_cases c : badF f (o', n') = true
  · rw [if_pos c] at h
    cases h
    exact ⟨ho, hn, c⟩
  · rw [if_neg c] at h
    cases h
theorem firstOf_none {f : Fm} {os ns : List (List Int)} (h : firstOf f os ns = none) : ∀ o ∈ os, ∀ n ∈ ns, badF f (o, n) = false := fun o ho n hn => by
  unfold firstOf at h
  have h1 := List.findSome?_eq_none_iff.mp h o ho
  have h2 := List.findSome?_eq_none_iff.mp h1 n hn
  by_cases c : badF f (o, n) = true
  · rw [if_pos c] at h2
    cases h2
  · simpa using c
/-- a pair of rows of the size is no pair, as long as none of its total has been found -/
theorem LPt_none {f : Fm} {s p t l : Nat} (h : LPt f s p t l = none) {o n : List Int} (ho : o ∈ lon s l) (hn : n ∈ lon s (t - l)) (h1 : l ≤ t) (h2 : t - l ≤ p) : badF f (o, n) = false := by
  unfold LPt at h
  rw [if_pos ⟨h1, h2⟩] at h
  exact firstOf_none h o ho n hn
theorem LP_none {f : Fm} {s p : Nat} (h : LP f s p = none) {o n : List Int} (ho : o ∈ rowsUp s p) (hn : n ∈ rowsUp s p) : badF f (o, n) = false := by
  obtain ⟨o1, o2⟩ := mem_rowsUp.mp ho
  obtain ⟨n1, n2⟩ := mem_rowsUp.mp hn
  unfold LP at h
  have h1 := List.findSome?_eq_none_iff.mp h (o.length + n.length) (List.mem_range.mpr (by omega))
  have h2 := List.findSome?_eq_none_iff.mp h1 o.length (List.mem_range.mpr (by omega))
  have e : o.length + n.length - o.length = n.length := by omega
  exact LPt_none h2 (mem_lon.mpr ⟨rfl, o2⟩) (by rw [e]; exact mem_lon.mpr ⟨rfl, n2⟩) (by omega) (by omega)
theorem LP_some {f : Fm} {s p : Nat} {o n : List Int} (h : LP f s p = some (o, n)) : o ∈ rowsUp s p ∧ n ∈ rowsUp s p ∧ badF f (o, n) = true ∧
    (∀ o' n', o' ∈ rowsUp s p → n' ∈ rowsUp s p → o'.length + n'.length < o.length + n.length → badF f (o', n') = false) ∧
    (∀ o' n', o' ∈ rowsUp s p → n' ∈ rowsUp s p → o'.length + n'.length = o.length + n.length → o'.length < o.length → badF f (o', n') = false) := by
  obtain ⟨t, ht, h1, h2⟩ := rng_fs h
  obtain ⟨l, hl, h3, h4⟩ := rng_fs h1
  by_cases c : l ≤ t ∧ t - l ≤ p
  · unfold LPt at h3
    rw [if_pos c] at h3
    obtain ⟨m1, m2, m3⟩ := firstOf_some h3
    obtain ⟨a1, a2⟩ := mem_lon.mp m1
    obtain ⟨b1, b2⟩ := mem_lon.mp m2
    refine ⟨mem_rowsUp.mpr ⟨by omega, a2⟩, mem_rowsUp.mpr ⟨by omega, b2⟩, m3, fun o' n' ho hn hlt => ?_, fun o' n' ho hn he hlt => ?_⟩
    · obtain ⟨c1, c2⟩ := mem_rowsUp.mp ho
      obtain ⟨d1, d2⟩ := mem_rowsUp.mp hn
      have k1 := h2 (o'.length + n'.length) (by omega)
      have k2 := List.findSome?_eq_none_iff.mp k1 o'.length (List.mem_range.mpr (by omega))
      have e : o'.length + n'.length - o'.length = n'.length := by omega
      exact LPt_none k2 (mem_lon.mpr ⟨rfl, c2⟩) (by rw [e]; exact mem_lon.mpr ⟨rfl, d2⟩) (by omega) (by omega)
    · obtain ⟨c1, c2⟩ := mem_rowsUp.mp ho
      obtain ⟨d1, d2⟩ := mem_rowsUp.mp hn
      have k2 := h4 o'.length (by omega)
      have e : t - o'.length = n'.length := by omega
      exact LPt_none k2 (mem_lon.mpr ⟨rfl, c2⟩) (by rw [e]; exact mem_lon.mpr ⟨rfl, d2⟩) (by omega) (by omega)
  · unfold LPt at h3
    rw [if_neg c] at h3
    cases h3
/-- idents of a row at place i -/
theorem ws_at {f : Fm} {n : List Int} {i : Nat} {x : Int} (h : n[i]? = some x) : (wsOf f n)[i]? = some (kval f x (i : Nat)) := by
  unfold wsOf
  rw [List.getElem?_mapIdx, h]
  rfl
theorem ids_at {f : Fm} {n : List Int} {i : Nat} {x : Int} (h : n[i]? = some x) : (ids f n)[i]? = some (kval f x (i : Nat), ((((wsOf f n).take i).count (kval f x (i : Nat)) : Nat) : Int)) := idp_at (ws_at h)
theorem bad_slip {f : Fm} {x y : Int} (h : x ≠ y) (e : kval f x 0 = kval f y 0) : badF f ([x], [y]) = true := by
  refine (bad_iff0 (nd1 x)).mpr ⟨0, 0, x, y, _, _, rfl, rfl, ids_at rfl, ids_at rfl, ?_⟩
  rw [decide_eq_false h]
  simp [e]
theorem bad_lost {f : Fm} {x : Int} {r : List Int} (h : kval f x (r.length : Nat) ≠ kval f x 0) : badF f ([x], r ++ [x]) = true := by
  have e : (r ++ [x])[r.length]? = some x := by simp
  refine (bad_iff0 (nd1 x)).mpr ⟨0, r.length, x, x, _, _, rfl, e, ids_at rfl, ids_at e, ?_⟩
  rw [decide_eq_true (show x = x from rfl)]
  intro z
  have z' := of_decide_eq_true z
  exact h (Prod.mk.inj z').1.symm
theorem single_ok {f : Fm} {x : Int} : badF f ([x], [x]) = false := by
  rw [Bool.eq_false_iff]
  intro z
  obtain ⟨i, j, a, b, u, v, h1, h2, h3, h4, h5⟩ := (bad_iff0 (nd1 x)).mp z
  have hi := (List.getElem?_eq_some_iff.mp h1).1
  have hj := (List.getElem?_eq_some_iff.mp h2).1
  have e1 : i = 0 := by simpa using hi
  have e2 : j = 0 := by simpa using hj
  subst e1 e2
  have e3 : a = b := Option.some.inj (h1.symm.trans h2)
  have e4 : u = v := Option.some.inj (h3.symm.trans h4)
  exact h5 (by rw [e3, e4]; simp)
/-- where all values are those at place 0 and differ, nothing parts -/
theorem good_pair {f : Fm} {s q : Nat} (hd : ∀ x y : Int, 0 ≤ x → x < s → 0 ≤ y → y < s → kval f x 0 = kval f y 0 → x = y) (hq : ∀ (x : Int) (a : Nat), 0 ≤ x → x < s → a < q → kval f x (a : Nat) = kval f x 0)
    {o n : List Int} (ho : o.Nodup ∧ ∀ x ∈ o, 0 ≤ x ∧ x < (s : Int)) (hn : n.Nodup ∧ ∀ x ∈ n, 0 ≤ x ∧ x < (s : Int)) (lo : o.length ≤ q) (ln : n.length ≤ q) : badF f (o, n) = false := by
  have key : ∀ (r : List Int), r.Nodup → (∀ x ∈ r, 0 ≤ x ∧ x < (s : Int)) → r.length ≤ q → ∀ (i : Nat) (x : Int), r[i]? = some x → (ids f r)[i]? = some (kval f x 0, 0) := fun r rn rs rl i x hx => by
    have hi := (List.getElem?_eq_some_iff.mp hx).1
    have hm := rs x (List.mem_of_getElem? hx)
    rw [ids_at hx, hq x i hm.1 hm.2 (by omega)]
    have c0 : ((wsOf f r).take i).count (kval f x 0) = 0 := by
      rw [List.count_eq_zero]
      intro z
      obtain ⟨j, hj⟩ := List.mem_iff_getElem?.mp z
      have jl : j < i := by
        have := (List.getElem?_eq_some_iff.mp hj).1
        rw [List.length_take] at this
        omega
      rw [List.getElem?_take_of_lt jl] at hj
      have ej : r[j]? = some (r[j]'(by omega)) := List.getElem?_eq_getElem _
      rw [ws_at ej] at hj
      have hm2 := rs (r[j]'(by omega)) (List.getElem_mem _)
      rw [hq _ j hm2.1 hm2.2 (by omega)] at hj
      have e := hd _ _ hm2.1 hm2.2 hm.1 hm.2 (Option.some.inj hj)
      rw [e] at ej
      have := (List.getElem?_inj (by omega) rn).mp (ej.trans hx.symm)
      omega
    rw [c0]
    rfl
  rw [Bool.eq_false_iff]
  intro z
  obtain ⟨i, j, x, y, u, v, h1, h2, h3, h4, h5⟩ := (bad_iff0 ho.1).mp z
  rw [key o ho.1 ho.2 lo i x h1] at h3
  rw [key n hn.1 hn.2 ln j y h2] at h4
  cases h3
  cases h4
  have mx := ho.2 x (List.mem_of_getElem? h1)
  have my := hn.2 y (List.mem_of_getElem? h2)
  apply h5
  rw [decide_eq_decide]
  constructor
  · intro e
    exact hd x y mx.1 mx.2 my.1 my.2 (Prod.mk.inj e).1
  · intro e
    rw [e]
/-- a row with x at place q -/
theorem row_with {s q : Nat} {x : Int} (h0 : 0 ≤ x) (h1 : x < (s : Int)) (hq : q < s) : ∃ r : List Int, r.length = q ∧ (r ++ [x]).Nodup ∧ ∀ y ∈ r ++ [x], 0 ≤ y ∧ y < (s : Int) := by
  have hnd : (nat2 s).Nodup := by
    unfold nat2
    refine (List.nodup_range (n := s)).map _ ?_ |> fun h => h
    exact fun a b hab => fun e => hab (by omega)
  have hf := hnd.filter (fun y => decide (y ≠ x))
  have hl : s ≤ ((nat2 s).filter fun y => decide (y ≠ x)).length + 1 := by
    have e : (nat2 s).erase x = (nat2 s).filter fun y => decide (y ≠ x) := by
      rw [hnd.erase_eq_filter]
      congr 1
      funext y
      by_cases c : y = x <;> simp [c]
    rw [← e, List.length_erase_of_mem (mem_nat2.mpr ⟨h0, h1⟩)]
    have : (nat2 s).length = s := by unfold nat2; rw [List.length_map, List.length_range]
    omega
  refine ⟨((nat2 s).filter fun y => decide (y ≠ x)).take q, by rw [List.length_take]; omega, ?_, fun y hy => ?_⟩
  · rw [List.nodup_append]
    refine ⟨hf.sublist (List.take_sublist _ _), nd1 _, fun a ha b hb => ?_⟩
    rw [List.mem_singleton] at hb
    subst hb
    exact of_decide_eq_true (List.mem_filter.mp (List.mem_of_mem_take ha)).2
  · rcases List.mem_append.mp hy with hy | hy
    · exact mem_nat2.mp (List.mem_filter.mp (List.mem_of_mem_take hy)).1
    · rw [List.mem_singleton.mp hy]
      exact ⟨h0, h1⟩
theorem single_in {s p : Nat} {x : Int} (h0 : 0 ≤ x) (h1 : x < (s : Int)) (hp : 1 ≤ p) : [x] ∈ rowsUp s p := mem_rowsUp.mpr ⟨hp, nd1 _, fun y hy => by rw [List.mem_singleton.mp hy]; exact ⟨h0, h1⟩⟩
theorem LP_one {f : Fm} {s p : Nat} {o n : List Int} (h : LP f s p = some (o, n)) : o.length = 1 := by
  obtain ⟨ho, hn, hb, h1, h2⟩ := LP_some h
  obtain ⟨o1, o2, o3⟩ := mem_rowsUp.mp ho
  obtain ⟨n1, n2, n3⟩ := mem_rowsUp.mp hn
  have pos : 1 ≤ o.length ∧ 1 ≤ n.length := by
    obtain ⟨i, j, x, y, u, v, e1, e2, _⟩ := (bad_iff0 o2).mp hb
    have a := (List.getElem?_eq_some_iff.mp e1).1
    have b := (List.getElem?_eq_some_iff.mp e2).1
    omega
  by_cases c : o.length = 1
  · exact c
  · exfalso
    have two : ∀ o' n', o' ∈ rowsUp s p → n' ∈ rowsUp s p → o'.length = 1 → o'.length + n'.length ≤ o.length + n.length → badF f (o', n') = false := fun o' n' a b e le => by
      rcases Nat.lt_or_eq_of_le le with l | l
      · exact h1 o' n' a b l
      · exact h2 o' n' a b l (by omega)
    have len_s : ∀ r : List Int, r.Nodup → (∀ x ∈ r, 0 ≤ x ∧ x < (s : Int)) → r.length ≤ s := fun r rn rs => by
      have := (sub_len (nat2 s) r rn fun x hx => mem_nat2.mpr (rs x hx)).1
      have l : (nat2 s).length = s := by unfold nat2; rw [List.length_map, List.length_range]
      omega
    have lo := len_s o o2 o3
    have ln := len_s n n2 n3
    have hd : ∀ x y : Int, 0 ≤ x → x < s → 0 ≤ y → y < s → kval f x 0 = kval f y 0 → x = y := fun x y x0 x1 y0 y1 e => by
      by_cases z : x = y
      · exact z
      · have := two [x] [y] (single_in x0 x1 (by omega)) (single_in y0 y1 (by omega)) rfl (by show 1 + 1 ≤ _; omega)
        rw [bad_slip z e] at this
        cases this
    have hq : ∀ (x : Int) (a : Nat), 0 ≤ x → x < s → a < max o.length n.length → kval f x (a : Nat) = kval f x 0 := fun x a x0 x1 ha => by
      by_cases z : kval f x (a : Nat) = kval f x 0
      · exact z
      · have as : a < s := by omega
        obtain ⟨r, rl, rn, rs⟩ := row_with x0 x1 as
        subst rl
        have hm : r ++ [x] ∈ rowsUp s p := mem_rowsUp.mpr ⟨by rw [List.length_append]; show r.length + 1 ≤ p; omega, rn, rs⟩
        have := two [x] (r ++ [x]) (single_in x0 x1 (by omega)) hm rfl (by rw [List.length_append]; show 1 + (r.length + 1) ≤ _; omega)
        rw [bad_lost z] at this
        cases this
    have := good_pair hd hq ⟨o2, o3⟩ ⟨n2, n3⟩ (by omega) (by omega)
    rw [hb] at this
    cases this
/-- the law's plain test -/
def Plain (f : Fm) (s p : Nat) : Prop := (∀ (x : Nat) (a : Nat), x < s → a < (if p < s then p else s) → kval f (x : Int) (a : Nat) = kval f (x : Int) 0) ∧ ∀ x y : Nat, x < s → y < x → kval f (y : Int) 0 ≠ kval f (x : Int) 0
theorem LP_plain {f : Fm} {s p : Nat} (hp : 1 ≤ p) : LP f s p = none ↔ Plain f s p := by
  constructor
  · intro h
    constructor
    · intro x a hx ha
      by_cases z : kval f (x : Int) (a : Nat) = kval f (x : Int) 0
      · exact z
      · have ha2 : a < p ∧ a < s := by split at ha <;> omega
        obtain ⟨r, rl, rn, rs⟩ := row_with (s := s) (q := a) (x := (x : Int)) (by omega) (by omega) ha2.2
        subst rl
        have hm : r ++ [(x : Int)] ∈ rowsUp s p := mem_rowsUp.mpr ⟨by rw [List.length_append]; show r.length + 1 ≤ p; omega, rn, rs⟩
        have := LP_none h (single_in (s := s) (by omega) (by omega : (x : Int) < s) hp) hm
        rw [bad_lost z] at this
        cases this
    · intro x y hx hy e
      have := LP_none h (single_in (s := s) (by omega) (by omega : (y : Int) < s) hp) (single_in (s := s) (by omega) (by omega : (x : Int) < s) hp)
      rw [bad_slip (by omega) e] at this
      cases this
  · rintro ⟨h1, h2⟩
    cases e : LP f s p with
    | none => rfl
    | some r =>
      obtain ⟨o, n⟩ := r
      exfalso
      obtain ⟨ho, hn, hb, _⟩ := LP_some e
      obtain ⟨o1, o2, o3⟩ := mem_rowsUp.mp ho
      obtain ⟨n1, n2, n3⟩ := mem_rowsUp.mp hn
      have len_s : ∀ r : List Int, r.Nodup → (∀ x ∈ r, 0 ≤ x ∧ x < (s : Int)) → r.length ≤ s := fun r rn rs => by
        have := (sub_len (nat2 s) r rn fun x hx => mem_nat2.mpr (rs x hx)).1
        have l : (nat2 s).length = s := by unfold nat2; rw [List.length_map, List.length_range]
        omega
      have lo := len_s o o2 o3
      have ln := len_s n n2 n3
      have hd : ∀ x y : Int, 0 ≤ x → x < s → 0 ≤ y → y < s → kval f x 0 = kval f y 0 → x = y := fun x y x0 x1 y0 y1 e => by
        obtain ⟨a, rfl⟩ : ∃ a : Nat, x = (a : Int) := ⟨x.toNat, by omega⟩
        obtain ⟨b, rfl⟩ : ∃ b : Nat, y = (b : Int) := ⟨y.toNat, by omega⟩
        rcases Nat.lt_trichotomy a b with c | c | c
        · exact absurd e (h2 b a (by omega) c)
        · rw [c]
        · exact absurd e.symm (h2 a b (by omega) c)
      have hq : ∀ (x : Int) (a : Nat), 0 ≤ x → x < s → a < (if p < s then p else s) → kval f x (a : Nat) = kval f x 0 := fun x a x0 x1 ha => by
        obtain ⟨b, rfl⟩ : ∃ b : Nat, x = (b : Int) := ⟨x.toNat, by omega⟩
        exact h1 b a (by omega) ha
      have := good_pair hd hq ⟨o2, o3⟩ ⟨n2, n3⟩ (by split <;> omega) (by split <;> omega)
      rw [hb] at this
      cases this
end
end D

namespace D
open PySem PySem.Spec PyProof.Rows L2
local macro_rules | `(tactic| walk_at "st") => `(tactic| first | exact SqT.of (by assumption) | exact Or.inl (by assumption) | exact SqT.of upd_same | fail "st")
local macro_rules | `(tactic| walk_at "ixt") => `(tactic| refine ⟨_, _, _, _, rfl, rfl, (by walk_at "st" : SqT _ _ _ _), by rfl, ?_⟩)
local macro_rules | `(tactic| walk_at "sq") => `(tactic| first | exact SqL.of (by assumption) | assumption | exact Or.inl (by assumption) | exact SqL.of upd_same | fail "sq")
local macro_rules | `(tactic| walk_at "ix") => `(tactic| refine ⟨_, _, _, _, rfl, rfl, (by walk_at "sq" : SqL _ _ _ _), by rfl, ?_⟩)
local macro_rules | `(tactic| walk_at "set") => `(tactic| refine ⟨_, _, _, _, rfl, rfl, by first | assumption | exact upd_same, by rfl, ?_⟩)
local macro_rules | `(tactic| walk_at "len") => `(tactic| refine ⟨_, _, rfl, Or.inl (by walk_at "sq" : SqL _ _ _ _), ?_⟩)
local macro_rules | `(tactic| walk_at "g") => `(tactic| repeat (first | refine ⟨_, rfl, ?_⟩ | refine ⟨_, _, rfl, rfl, ?_⟩ | refine ⟨Or.inr (by decide), ?_⟩ | refine ⟨Or.inl (by decide), ?_⟩ | refine ⟨(by decide : (0 : Int) < _), ?_⟩ | refine ⟨(⟨by decide, by decide⟩ : CDiv _ _), ?_⟩ | refine ⟨(⟨by decide, by decide, by decide⟩ : CPow _ _), ?_⟩ | refine Or.inl ⟨_, rfl, ?_⟩ | refine ⟨rfl, ?_⟩ | walk_at "ix" | walk_at "ixt" | walk_at "len" | fail "g"))
local macro_rules | `(tactic| walk_at "if") => `(tactic| refine ite2 (fun e => ?_) (fun e => ?_))
section
variable {P : Program} {w : World} {K : PySem.W.Frag} {mg : Str → Option Value} {base : Heap}
def sp_rows_of : Sp := fun vs H Q _ => ∃ (s p : Nat) (M : Ms), vs = [.int s, .int p] ∧ s ≤ 4 ∧ p ≤ 4 ∧ Mk M H ∧ ∀ H' a xs, Same H H' → H a = none → H' a = some (.lst xs) → RowsAt goodRow M H' xs (rowsUp s p) → Q (.ref a) H'
theorem RowsAt.keepT {good : List Int → Prop} {M : Ms} {H H' : Hp} {xs : List V} {nss : List (List Int)} (h : RowsAt good M H xs nss) (s : KeepT H H') : RowsAt good M H' xs nss := ⟨h.1, fun i ns e => by
  obtain ⟨w, h1, h2, h3⟩ := h.2 i ns e
  exact ⟨w, h1, h2.keepT s, h3⟩⟩
theorem ext1_step {s j : Nat} {r : List Int} : ((((List.range (j + 1)).map fun (i : Nat) => (i : Int)).filter fun x => decide (x ∉ r)).map fun x => r ++ [x]) =
    ((((List.range j).map fun (i : Nat) => (i : Int)).filter fun x => decide (x ∉ r)).map fun x => r ++ [x]) ++ if (j : Int) ∈ r then [] else [r ++ [(j : Int)]] := by
  rw [List.range_succ, List.map_append, List.filter_append, List.map_append]
  congr 1
  by_cases c : (j : Int) ∈ r
  · simp [c]
  · simp [c]
def extU (j : Nat) (r : List Int) : List (List Int) := (((List.range j).map fun (i : Nat) => (i : Int)).filter fun x => decide (x ∉ r)).map fun x => r ++ [x]
theorem extU_zero (r : List Int) : extU 0 r = [] := rfl
theorem extU_step (j : Nat) (r : List Int) : extU (j + 1) r = extU j r ++ if (j : Int) ∈ r then [] else [r ++ [(j : Int)]] := ext1_step (s := 0)
theorem extU_all (s : Nat) (r : List Int) : extU s r = ext1 s r := rfl
theorem extU_len (s : Nat) (r : List Int) : (extU s r).length ≤ s := ext1_len s r
theorem good_snoc {s : Nat} (hs : s ≤ 4) {k j : Nat} {r : List Int} (hr : r ∈ lon s k) (hk : k < 4) (hj : j < s) (hm : (j : Int) ∉ r) : goodRow (r ++ [(j : Int)]) := by
  refine lon_good (s := s) (k := k + 1) ?_ hs hk
  unfold lon
  exact List.mem_flatMap.mpr ⟨r, hr, mem_ext1.mpr ⟨_, by omega, by omega, hm, rfl⟩⟩
theorem flat_step {α β : Type} {g : α → List β} {l : List α} {i : Nat} {x : α} (h : l[i]? = some x) : (l.take (i + 1)).flatMap g = (l.take i).flatMap g ++ g x := by
  rw [List.take_add_one, h, List.flatMap_append]
  simp
theorem flat_up {s : Nat} (hs : s ≤ 4) {k : Nat} (i : Nat) : (((lon s k).take i).flatMap (ext1 s)).length ≤ 4 ^ k * 4 := by
  have h := flat_len (ext1 s) 4 ((lon s k).take i) fun x _ => Nat.le_trans (ext1_len s x) hs
  have l := lon_len hs k
  refine Nat.le_trans h (Nat.mul_le_mul_right 4 ?_)
  rw [List.length_take]
  omega
theorem pow4 {k : Nat} (h : k < 4) : 4 ^ k ≤ 64 := by
  have : k = 0 ∨ k = 1 ∨ k = 2 ∨ k = 3 := by omega
  rcases this with rfl | rfl | rfl | rfl <;> decide
theorem up_len {s : Nat} (hs : s ≤ 4) {k : Nat} (hk : k ≤ 4) : (rowsUp s k).length ≤ 341 := by
  have h1 : (lon s (0 + 1)).length ≤ 4 := lon_len hs 1
  have h2 : (lon s (1 + 1)).length ≤ 16 := lon_len hs 2
  have h3 : (lon s (2 + 1)).length ≤ 64 := lon_len hs 3
  have h4 : (lon s (3 + 1)).length ≤ 256 := lon_len hs 4
  have e : k = 0 ∨ k = 1 ∨ k = 2 ∨ k = 3 ∨ k = 4 := by omega
  have z : (rowsUp s 0).length = 1 := rfl
  rcases e with rfl | rfl | rfl | rfl | rfl
  · omega
  · rw [rowsUp_succ, List.length_append]; omega
  · rw [rowsUp_succ, rowsUp_succ, List.length_append, List.length_append]; omega
  · rw [rowsUp_succ, rowsUp_succ, rowsUp_succ, List.length_append, List.length_append, List.length_append]; omega
  · rw [rowsUp_succ, rowsUp_succ, rowsUp_succ, rowsUp_succ, List.length_append, List.length_append, List.length_append, List.length_append]; omega
theorem ok_rows_of (T : Txt K mg) : FnOk P w K mg base CX0 1 T.f__rows_of T.d__rows_of ["size", "places"] sp_rows_of := by
  refine T.F__rows_of.ok sc__rows_of (fun vs H Q E h => ?_) (fun cdv A outer s H vs Q E hr h => ?_)
  · obtain ⟨_, _, _, rfl, _⟩ := h
    rfl
  · obtain ⟨sz, p, M, rfl, hs, hp, hM, q⟩ := h
    refine ⟨_, (pss_cons (ps_set (i := 2) sc__rows_of.nd rfl (Or.inl rfl) (pe_lst (pa_cons (pe_tupF pa_nil) pa_nil)))
      (pss_cons (ps_set (i := 3) sc__rows_of.nd rfl (Or.inl rfl) (pe_lst (pa_cons (pe_tupF pa_nil) pa_nil)))
      (pss_cons (ps_for PassesOwn.never rfl (pi_range1 (by rfl) T.m_range (pa_cons (pv 1) pa_nil)) (pg_name (i := 4) sc__rows_of.nd rfl (Or.inl rfl)) (pss_cons (ps_setLc2 (i := 3) (own := [("row", 5), ("item", 6)]) (vs1 := [6]) (g := gName 5) (g1 := gName 6) (tt := tYes)  (by rfl) sc__rows_of.nd rfl rfl (sw_true rfl rfl rfl (by decide +kernel)) (pi_listK (K := K) rfl (pv 3)) (blkOk_by (own := [("row", 5), ("item", 6)]) (N := ["size", "places", "rows", "longest", "_", "row", "item"]) (sc := defScope s__rows_of) (by decide +kernel)) (by decide) (fun _ _ _ _ _ => (pg_name (i := 5) sc__rows_of.nd rfl (Or.inl rfl))) (fun _ _ _ _ _ => pts_nil) (fun _ _ _ _ _ => (pi_range1 (by rfl) T.m_range (pa_cons (pv 0) pa_nil))) (fun _ _ _ _ _ => (pg_name (i := 6) sc__rows_of.nd rfl (Or.inl rfl))) (fun _ _ _ _ _ => (pts_one (pt_cmpR (op_notIn_seqK (K := K) rfl) (pv 6) (pv 5) (by rfl)))) (fun _ _ _ _ _ => (pe_op (op_catF (K := K) rfl) (pv 5) (pe_tupF (pa_cons (pv 6) pa_nil)))))
      (pss_one (ps_expr (pe_bmK2 (K := K) rfl PySem.F.plainAttrs_list PySem.F.slot_list_extend PySem.F.type_list_extend mt_extend (pv 2) (pa_cons (pv 3) pa_nil))))))
      (pss_one (ps_ret (pv 2)))))), ?_⟩
    refine ⟨szK rfl, fun t1 o1 ht1 c1 d1 => ⟨szK rfl, fun a ha => ?_⟩⟩
    refine ⟨szK rfl, fun t2 o2 ht2 c2 d2 => ⟨szK rfl, fun b hb => ?_⟩⟩
    have s1 : Same H (upd H t1 (.frz o1 (.tup []))) := same_new ht1
    have r1 : RowF M (upd H t1 (.frz o1 (.tup []))) (.ref t1) [] := row_new (ns := []) hM ht1 c1 d1
    generalize upd H t1 (.frz o1 (.tup [])) = Ha at s1 r1 ha ht2 hb
    have s2 : Same Ha (upd Ha a (.lst [V.ref t1])) := same_new ha
    have ea : upd Ha a (.lst [V.ref t1]) a = some (.lst [V.ref t1]) := upd_same
    generalize upd Ha a (.lst [V.ref t1]) = Hb at s2 ea ht2 hb
    have hMb := hM.gr (Gr.same (s1.trans s2))
    have s3 : Same Hb (upd Hb t2 (.frz o2 (.tup []))) := same_new ht2
    have r2 : RowF M (upd Hb t2 (.frz o2 (.tup []))) (.ref t2) [] := row_new (ns := []) hMb ht2 c2 d2
    generalize upd Hb t2 (.frz o2 (.tup [])) = Hc at s3 r2 hb
    have s4 : Same Hc (upd Hc b (.lst [V.ref t2])) := same_new hb
    have eb : upd Hc b (.lst [V.ref t2]) b = some (.lst [V.ref t2]) := upd_same
    have ab : a ≠ b := fun z => by
      have := s3 _ _ ea
      rw [z, hb] at this
      cases this
    have ha0 : H a = none := s1.free ha
    generalize upd Hc b (.lst [V.ref t2]) = Hd at s4 eb
    have s14 := ((s1.trans s2).trans s3).trans s4
    have gr0 : goodRow [] := ⟨by decide, List.nodup_nil, fun _ h => nomatch h⟩
    walk_at "g"
    refine ⟨by omega, by omega, ?_⟩
    refine for_range (lo := 0) (n := (p : Int).toNat) (fun k σ H' => (∃ bb y4 y5 y6, σ = [some (.int sz), some (.int p), some (.ref a), some (.ref bb), y4, y5, y6] ∧ a ≠ bb ∧ ∃ ys, H' bb = some (.lst ys) ∧ RowsAt goodRow M H' ys (lon sz k)) ∧ Same H H' ∧ ∃ xs, H' a = some (.lst xs) ∧ RowsAt goodRow M H' xs (rowsUp sz k))
      ⟨⟨b, _, _, _, rfl, ab, _, eb, .one (r2.sx (Sx.same s4)) gr0⟩, s14, _, s4 _ _ (s3 _ _ ea), .one (r1.sx (Sx.same ((s2.trans s3).trans s4))) gr0⟩ (fun k σ H' hk pz => ?_) (fun σ H' pz => ?_)
    · obtain ⟨⟨bb, y4, y5, y6, rfl, nab, ys, eb', ry⟩, sH, xs, ea', rx⟩ := pz
      have hk' : k < 4 := by omega
      have hM' := hM.gr (Gr.same sH)
      walk_at "g"
      refine ⟨⟨_, .inl (.inl eb')⟩, fun D hD => ?_⟩
      refine list_loop (xs := ys) (fun i H2 => Same H' H2 ∧ ∃ acc, H2 D = some (.lst acc) ∧ RowsAt goodRow M H2 acc (((lon sz k).take i).flatMap (ext1 sz))) ⟨same_new hD, [], upd_same, by rw [List.take_zero]; exact .nil⟩ (fun i H2 _ p => .inl (.inl (p.1 _ _ eb'))) (fun i x H2 hx p => ?_) (fun H2 p => ?_)
      · obtain ⟨s5, acc, eD, ra⟩ := p
        obtain ⟨r, hr, qr, gr⟩ := ry.get hx
        have rl := List.mem_of_getElem? hr
        refine ⟨rfl, ?_⟩
        walk_at "g"
        refine ⟨by omega, by omega, ?_⟩
        refine rng_loop (lo := 0) (n := (sz : Int).toNat) (fun j H3 => Same H' H3 ∧ ∃ acc, H3 D = some (.lst acc) ∧ RowsAt goodRow M H3 acc (((lon sz k).take i).flatMap (ext1 sz) ++ extU j r)) ⟨s5, acc, eD, by rw [extU_zero, List.append_nil]; exact ra⟩ (fun j H3 hj p3 => ?_) (fun H3 p3 => ?_)
        · obtain ⟨s6, acc, eD, ra⟩ := p3
          have hj' : j < sz := by omega
          have qr3 := qr.sx (Sx.same s6)
          obtain ⟨c, oc, rfl, nc, hc, oc1, oc2⟩ := id qr3
          have lacc := ra.1
          rw [List.length_append] at lacc
          have lu := flat_up hs (k := k) i
          have le := extU_len j r
          have l4 := pow4 hk'
          rw [Int.zero_add]
          refine ⟨rfl, ?_⟩
          walk_at "g"
          refine ⟨c, _, rfl, .inr (.inl (.inr ⟨oc, hc⟩)), rfl, flat_ints r, ?_⟩
          rw [in_ints]
          rw [extU_step]
          by_cases cm : (j : Int) ∈ r
          · rw [decide_eq_true cm, if_pos cm, List.append_nil]
            walk_at "g"
            exact ⟨s6, acc, eD, ra⟩
          · rw [decide_eq_false cm, if_neg cm, ← List.append_assoc]
            walk_at "g"
            refine ⟨szK rfl, fun t ot ht ct dt => ?_⟩
            have hM3 := hM'.gr (Gr.same s6)
            have s7 : Same H3 (upd H3 t (.frz ot (.tup [V.int (j : Nat)]))) := same_new ht
            refine cat_row (M := M) (r := r) (x := (j : Int)) (qr3.sx (Sx.same s7)) (row_new (ns := [(j : Int)]) hM3 ht ct dt) (by have := gr.1; omega) (hM3.gr (Gr.same s7)) fun z H4 s8 qz => ?_
            have s9 := s7.trans s8
            have eD4 := s9 _ _ eD
            have kt : KeepT H4 (upd H4 D (.lst (acc ++ [z]))) := KeepT.put eD4 (fun _ z => nomatch z) (fun _ _ z => nomatch z)
            exact ⟨acc, eD4, small1000000 (by omega), same_put (s6.trans s9) hD, _, upd_same, ((ra.sx (Sx.same s9)).append (.one qz (good_snoc hs rl hk' hj' cm))).keepT kt⟩
        · obtain ⟨s6, acc, eD, ra⟩ := p3
          rw [show ((sz : Int).toNat) = sz by omega, extU_all, ← flat_step hr] at ra
          exact ⟨s6, acc, eD, ra⟩
      · obtain ⟨s5, acc, eD, ra⟩ := p
        have e0 : ((lon sz k).take ys.length).flatMap (ext1 sz) = lon sz (k + 1) := by
          rw [ry.1, List.take_length]
          rfl
        rw [e0] at ra
        have ea5 := s5 _ _ ea'
        have na : a ≠ D := fun z => by rw [z, hD] at ea'; cases ea'
        have l1 := up_len hs (k := k) (by omega)
        have l2 := lon_len hs (k + 1)
        have l4 := pow4 hk'
        rw [Nat.pow_succ] at l2
        have lx := rx.1
        have la := ra.1
        walk_at "g"
        refine ⟨.inl ⟨rfl, _, SqL.of ea5⟩, ?_⟩
        walk_at "g"
        refine ⟨a, D, xs, acc, rfl, rfl, ea5, eD, Nat.le_of_lt (small1000000 (by omega)), ?_⟩
        have kt : KeepT H2 (upd H2 a (.lst (xs ++ acc))) := KeepT.put ea5 (fun _ z => nomatch z) (fun _ _ z => nomatch z)
        refine ⟨⟨D, _, _, _, rfl, na, acc, by rw [upd_ne na.symm]; exact eD, ra.keepT kt⟩, same_put (sH.trans s5) ha0, _, upd_same, ?_⟩
        rw [rowsUp_succ]
        exact ((rx.sx (Sx.same s5)).append ra).keepT kt
    · obtain ⟨⟨bb, y4, y5, y6, rfl, _⟩, sH, xs, ea', rx⟩ := pz
      walk_at "g"
      exact q _ _ _ sH ha0 ea' rx
end
end D

namespace D
open PySem PySem.Spec PyProof.Rows L2
local macro_rules | `(tactic| walk_at "st") => `(tactic| first | exact SqT.of (by assumption) | exact Or.inl (by assumption) | exact SqT.of upd_same | fail "st")
local macro_rules | `(tactic| walk_at "ixt") => `(tactic| refine ⟨_, _, _, _, rfl, rfl, (by walk_at "st" : SqT _ _ _ _), by rfl, ?_⟩)
local macro_rules | `(tactic| walk_at "sq") => `(tactic| first | exact SqL.of (by assumption) | assumption | exact Or.inl (by assumption) | exact SqL.of upd_same | fail "sq")
local macro_rules | `(tactic| walk_at "ix") => `(tactic| refine ⟨_, _, _, _, rfl, rfl, (by walk_at "sq" : SqL _ _ _ _), by rfl, ?_⟩)
local macro_rules | `(tactic| walk_at "set") => `(tactic| refine ⟨_, _, _, _, rfl, rfl, by first | assumption | exact upd_same, by rfl, ?_⟩)
local macro_rules | `(tactic| walk_at "len") => `(tactic| refine ⟨_, _, rfl, Or.inl (by walk_at "sq" : SqL _ _ _ _), ?_⟩)
local macro_rules | `(tactic| walk_at "g") => `(tactic| repeat (first | refine ⟨_, rfl, ?_⟩ | refine ⟨_, _, rfl, rfl, ?_⟩ | refine ⟨Or.inr (by decide), ?_⟩ | refine ⟨Or.inl (by decide), ?_⟩ | refine ⟨(by decide : (0 : Int) < _), ?_⟩ | refine ⟨(⟨by decide, by decide⟩ : CDiv _ _), ?_⟩ | refine ⟨(⟨by decide, by decide, by decide⟩ : CPow _ _), ?_⟩ | refine Or.inl ⟨_, rfl, ?_⟩ | refine ⟨rfl, ?_⟩ | walk_at "ix" | walk_at "ixt" | walk_at "len" | fail "g"))
local macro_rules | `(tactic| walk_at "if") => `(tactic| refine ite2 (fun e => ?_) (fun e => ?_))
section
variable {P : Program} {w : World} {K : PySem.W.Frag} {mg : Str → Option Value} {base : Heap}
def prU (s p t i : Nat) : List RR := ((rowsUp s p).take i).flatMap fun o => ((rowsUp s p).filter fun n => decide (o.length + n.length = t)).map fun n => (o, n)
def prV (s p t : Nat) (o : List Int) (j : Nat) : List RR := (((rowsUp s p).take j).filter fun n => decide (o.length + n.length = t)).map fun n => (o, n)
theorem prV_step {s p t j : Nat} {o n : List Int} (h : (rowsUp s p)[j]? = some n) : prV s p t o (j + 1) = prV s p t o j ++ if o.length + n.length = t then [(o, n)] else [] := by
  unfold prV
  rw [List.take_add_one, h, List.filter_append, List.map_append]
  congr 1
  by_cases c : o.length + n.length = t
  · simp [c]
  · simp [c]
theorem prV_len {s p : Nat} (hs : s ≤ 4) (hp : p ≤ 4) (t : Nat) (o : List Int) (j : Nat) : (prV s p t o j).length ≤ 341 := by
  unfold prV
  rw [List.length_map]
  refine Nat.le_trans (List.length_filter_le _ _) (Nat.le_trans ?_ (up_len hs hp))
  rw [List.length_take]
  omega
theorem prU_len {s p : Nat} (hs : s ≤ 4) (hp : p ≤ 4) (t i : Nat) : (prU s p t i).length ≤ 341 * 341 := by
  unfold prU
  have h := flat_len (fun o => ((rowsUp s p).filter fun n => decide (o.length + n.length = t)).map fun n => (o, n)) 341 ((rowsUp s p).take i) fun o _ => by
    rw [List.length_map]
    exact Nat.le_trans (List.length_filter_le _ _) (up_len hs hp)
  refine Nat.le_trans h (Nat.mul_le_mul_right 341 ?_)
  rw [List.length_take]
  have := up_len hs hp
  omega
theorem PrsAt.app {M : Ms} {H : Hp} {xs ys : List V} {ps qs : List RR} (h : PrsAt M H xs ps) : True := trivial
theorem rng_some {β : Type} {F : Nat → Option β} {b : β} : ∀ {n t : Nat}, t < n → F t = some b → (∀ u, u < t → F u = none) → (List.range n).findSome? F = some b
  | 0, _, h, _, _ => absurd h (by omega)
  | n + 1, t, h, e, l => by
    rw [List.range_succ, List.findSome?_append]
    by_cases c : t < n
    · rw [rng_some c e l]
      rfl
    · have : t = n := by omega
      subst this
      rw [List.findSome?_eq_none_iff.mpr fun u hu => l u (List.mem_range.mp hu), List.findSome?_cons, e]
      rfl
def sp_lpair (T : Txt K mg) : Sp := fun vs H Q _ => ∃ (kv : V) (f : Fm) (s p : Nat) (M : Ms), vs = [kv, .int s, .int p] ∧ KeyAt T.C_Key M H kv f ∧ s ≤ 4 ∧ p ≤ 4 ∧ Mk M H ∧ ∀ v H', Same H H' → FpRes M H' v (LP f s p) → Q v H'
theorem ok_lpair (T : Txt K mg) : FnOk P w K mg base CX0 10 T.f_least_pair T.d_least_pair ["key", "size", "places"] (sp_lpair T) := by
  have G__rows_of := ok_rows_of (P := P) (w := w) (base := base) T
  have G__idents := ok_ids (P := P) (w := w) (base := base) T
  have G__first_parted := ok_fp (P := P) (w := w) (base := base) T
  refine T.F_least_pair.ok sc_least_pair (fun vs H Q E h => ?_) (fun cdv A outer s H vs Q E hr h => ?_)
  · obtain ⟨_, _, _, _, _, rfl, _⟩ := h
    rfl
  · obtain ⟨kv, f, sz, p, M, rfl, hK, hs, hp, hM, q⟩ := h
    refine ⟨_, (pss_cons (ps_set (i := 3) sc_least_pair.nd rfl (Or.inr rfl) (pe_call G__rows_of (hr.mono (by omega)) (by rfl) T.g__rows_of T.F__rows_of.kp T.b__rows_of .nil pass0 (pa_cons (pv 1) (pa_cons (pv 2) pa_nil))))
      (pss_cons (ps_setDcX (P := P) (w := w) rfl rfl (i := 4) (own := [("row", 8)]) (g := gName 8) (tt := tYes) (hu_of hr) (by rfl) sc_least_pair.nd rfl rfl (sw_trueD rfl rfl rfl (by decide +kernel)) (pi_listK (K := K) rfl (pv 3)) (blkOk_by (own := [("row", 8)]) (N := ["key", "size", "places", "rows", "idents", "many", "pairs", "found", "row", "old", "new"]) (sc := defScope s_least_pair) (by decide +kernel)) (fun _ _ _ _ _ => (pg_name (i := 8) sc_least_pair.nd rfl (Or.inl rfl))) (fun _ _ _ _ _ => pts_nil) (fun _ _ _ _ _ => (pv 8)) (fun _ _ _ _ _ => (pe_call G__idents (hr.mono (by omega)) (by rfl) T.g__idents T.F__idents.kp T.b__idents .nil pass0 (pa_cons (pv 0) (pa_cons (pv 8) pa_nil)))))
      (pss_cons (ps_for PassesOwn.never rfl (pi_range1 (by rfl) T.m_range (pa_cons (pe_op op_add (pe_op op_mul pe_int (pv 2)) pe_int) pa_nil)) (pg_name (i := 5) sc_least_pair.nd rfl (Or.inr rfl)) (pss_cons (ps_setLc2 (i := 6) (own := [("old", 9), ("new", 10)]) (vs1 := [10]) (g := gName 9) (g1 := gName 10) (tt := tYes)  (by rfl) sc_least_pair.nd rfl rfl (sw_true rfl rfl rfl (by decide +kernel)) (pi_listK (K := K) rfl (pv 3)) (blkOk_by (own := [("old", 9), ("new", 10)]) (N := ["key", "size", "places", "rows", "idents", "many", "pairs", "found", "row", "old", "new"]) (sc := defScope s_least_pair) (by decide +kernel)) (by decide) (fun _ _ _ _ _ => (pg_name (i := 9) sc_least_pair.nd rfl (Or.inl rfl))) (fun _ _ _ _ _ => pts_nil) (fun _ _ _ _ _ => (pi_listK (K := K) rfl (pv 3))) (fun _ _ _ _ _ => (pg_name (i := 10) sc_least_pair.nd rfl (Or.inl rfl))) (fun _ _ _ _ _ => (pts_one (pt_cmpR op_eq (pe_op op_add (pe_callB (call_lenK (K := K) rfl) (by rfl) T.m_len PySem.boot_len (pa_cons (pv 9) pa_nil)) (pe_callB (call_lenK (K := K) rfl) (by rfl) T.m_len PySem.boot_len (pa_cons (pv 10) pa_nil))) (pv 5) (nomark _)))) (fun _ _ _ _ _ => (pe_tup (pa_cons (pv 9) (pa_cons (pv 10) pa_nil)))))
      (pss_cons (ps_set (i := 7) sc_least_pair.nd rfl (Or.inl rfl) (pe_call G__first_parted (hr.mono (by omega)) (by rfl) T.g__first_parted T.F__first_parted.kp T.b__first_parted .nil pass0 (pa_cons (pv 6) (pa_cons (pv 4) pa_nil))))
      (pss_one (ps_if (pt_cmpR op_notN (pv 7) pe_non (nomark _)) (pss_one (ps_ret (pv 7))) pss_nil)))))
      (pss_one (ps_ret pe_non))))), ?_⟩
    walk_at "g"
    refine ⟨sz, p, M, rfl, hs, hp, hM, fun H1 a xs s1 na ea rx => ?_⟩
    have lup := up_len hs hp
    have lxs := rx.1
    walk_at "g"
    refine ⟨⟨_, .inl (.inl ea)⟩, fun Dd hDd => ?_⟩
    refine list_loop (xs := xs) (fun i H' => Same H1 H' ∧ ∃ kvs ks, H' Dd = some (dXo P w Dd kvs ks) ∧ KsAt H' ks ∧ kvs.length ≤ i ∧ ∀ ns ∈ (rowsUp sz p).take i, ∃ v, valV kvs (rk ns) = some v ∧ Rp (also M Dd) H' v (.tuple ((ids f ns).map pD)))
      ⟨same_new hDd, [], [], upd_same, ksat_nil, Nat.le_refl _, fun ns hn => by rw [List.take_zero] at hn; exact nomatch hn⟩ (fun i H' _ p => .inl (.inl (p.1 _ _ ea))) (fun i x H' hx p => ?_) (fun H3 p => ?_)
    · obtain ⟨s3, kvs, ks, eDd, kat, lk, all⟩ := p
      obtain ⟨ns, hns, qn, gn⟩ := rx.get hx
      have qn' := qn.sx (Sx.same s3)
      obtain ⟨b, ob, rfl, nb, hb, ob1, ob2⟩ := id qn'
      have hi : i < (rowsUp sz p).length := (List.getElem?_eq_some_iff.mp hns).1
      refine ⟨rfl, ?_⟩
      walk_at "g"
      have hM1 := hM.gr (Gr.same s1)
      have hK2 := (((hK.sx (Sx.same s1)).fresh hDd).sx (Sx.same s3))
      have qn3 := (qn.fresh hDd).sx (Sx.same s3)
      have hMd : Mk (also M Dd) H' := (hM1.gr (Gr.same s3)).also (ne_none eDd)
      refine ⟨kv, _, f, ns, also M Dd, rfl, hK2, qn3.row, gn.1, hMd, fun v4 H4 d4 s4 r4 e4 => ?_⟩
      subst e4
      have eD4 := s4 _ _ eDd
      have kat4 := kat.same s4
      have hb4 : Rd H4 b (.tup ((rk ns).map kV)) := .inr ⟨ob, by rw [rk_kV]; exact s4 _ _ hb⟩
      have r4' : Rp (also M Dd) H4 v4 (.tuple ((ids f ns).map pD)) := by
        unfold ids
        rw [← idsOf_eq]
        exact r4
      have kt : KeepT H4 (upd H4 Dd (dXo P w Dd (putK kvs (rk ns) v4) (ksPut kvs ks (rk ns) b))) := KeepT.put eD4 dXo_tup dXo_frz
      refine ⟨kvs, ks, rk ns, b, rfl, hb4, eD4, kat4, small1000 (by omega), same_put (s3.trans s4) hDd, _, _, upd_same, (ksat_put kat4 hb4).keepT kt, ?_, fun ms hms => ?_⟩
      · have := putK_le' kvs (rk ns) v4
        omega
      · rw [valV_put]
        have sp : Sx (also M Dd) H4 (upd H4 Dd (dXo P w Dd (putK kvs (rk ns) v4) (ksPut kvs ks (rk ns) b))) := Sx.put (.inr rfl)
        by_cases c : rk ms = rk ns
        · rw [if_pos c]
          have := rk_inj c
          subst this
          exact ⟨v4, rfl, r4'.sx sp⟩
        · rw [if_neg c]
          rw [List.take_add_one, hns] at hms
          rcases List.mem_append.mp hms with hms | hms
          · obtain ⟨v5, e5, r5⟩ := all ms hms
            exact ⟨v5, e5, (r5.sx (Sx.same s4)).sx sp⟩
          · have : ms = ns := by simpa using hms
            exact absurd (by rw [this]) c
    obtain ⟨s3, kvs, ks, eDd, kat, lk, all⟩ := p
    rw [lxs, List.take_length] at all
    have s13 := s1.trans s3
    have has : ∀ ns ∈ rowsUp sz p, IdD P w M H3 Dd f ns := fun ns hn => by
      obtain ⟨v5, e5, r5⟩ := all ns hn
      exact ⟨kvs, ks, v5, eDd, kat, e5, r5.less also_le⟩
    have ea3 := s3 _ _ ea
    have rx3 := rx.sx (Sx.same s3)
    have hM3 := hM.gr (Gr.same s13)
    clear all kat
    walk_at "g"
    refine ⟨by omega, by omega, ?_⟩
    refine for_range (lo := 0) (n := ((2 : Int) * (p : Int) + 1).toNat) (fun t σ H' => (∃ y5 y6 y7 y8 y9 y10, σ = [some kv, some (.int sz), some (.int p), some (.ref a), some (.ref Dd), y5, y6, y7, y8, y9, y10]) ∧ Same H3 H' ∧ (List.range t).findSome? (fun t => (prsOf sz p t).find? (badF f)) = none)
      ⟨⟨_, _, _, _, _, _, rfl⟩, Same.refl _, rfl⟩ (fun t σ H' ht pz => ?_) (fun σ H' pz => ?_)
    · obtain ⟨⟨y5, y6, y7, y8, y9, y10, rfl⟩, s5, hno⟩ := pz
      have ht' : t < 2 * p + 1 := by omega
      have ea5 := s5 _ _ ea3
      have rx5 := rx3.sx (Sx.same s5)
      rw [Int.zero_add]
      walk_at "g"
      refine ⟨⟨_, .inl (.inl ea5)⟩, fun D hD => ?_⟩
      refine list_loop (xs := xs) (fun i H2 => Same H' H2 ∧ ∃ acc, H2 D = some (.lst acc) ∧ PrsAt M H2 acc (prU sz p t i)) ⟨same_new hD, [], upd_same, rfl, fun i p e => by simp [prU] at e⟩ (fun i H2 _ p => .inl (.inl (p.1 _ _ ea5))) (fun i x H2 hx pq => ?_) (fun H2 pq => ?_)
      · obtain ⟨s6, acc, eD, hP⟩ := pq
        obtain ⟨o, ho, qo, go⟩ := rx5.get hx
        refine ⟨rfl, ?_⟩
        walk_at "g"
        refine ⟨⟨_, .inl (.inl (s6 _ _ ea5))⟩, ?_⟩
        refine list_loop (xs := xs) (fun j H4 => Same H' H4 ∧ ∃ acc, H4 D = some (.lst acc) ∧ PrsAt M H4 acc (prU sz p t i ++ prV sz p t o j)) ⟨s6, acc, eD, by unfold prV; rw [List.take_zero, List.filter_nil, List.map_nil, List.append_nil]; exact hP⟩ (fun i H2 _ p => .inl (.inl (p.1 _ _ ea5))) (fun j y H4 hy p4 => ?_) (fun H4 p4 => ?_)
        · obtain ⟨s7, acc, eD, hP⟩ := p4
          obtain ⟨n, hn, qn, gn⟩ := rx5.get hy
          have qo4 := qo.sx (Sx.same s7)
          have qn4 := qn.sx (Sx.same s7)
          obtain ⟨b1, ob1, rfl, nb1, hb1, ob11, ob12⟩ := id qo4
          obtain ⟨b2, ob2, rfl, nb2, hb2, ob21, ob22⟩ := id qn4
          have lacc := hP.1
          rw [List.length_append] at lacc
          have lu := prU_len hs hp t i
          have lv := prV_len hs hp t o j
          rw [prV_step hn]
          refine ⟨rfl, ?_⟩
          walk_at "g"
          refine ⟨_, _, rfl, .inr (.inl (.inr ⟨ob1, hb1⟩)), ?_⟩
          walk_at "g"
          refine ⟨_, _, rfl, .inr (.inl (.inr ⟨ob2, hb2⟩)), ?_⟩
          walk_at "g"
          refine ite2 (fun c => ?_) (fun c => ?_)
          · have c' : o.length + n.length = t := by
              have h := V.int.inj (of_decide_eq_true c)
              rw [List.length_map, List.length_map] at h
              omega
            rw [if_pos c', ← List.append_assoc]
            walk_at "g"
            refine ⟨szK rfl, fun t1 ht1 => ?_⟩
            have st : Same H4 (upd H4 t1 (.tup [.ref b1, .ref b2])) := same_new ht1
            have eD' := st _ _ eD
            have kt : KeepT (upd H4 t1 (.tup [.ref b1, .ref b2])) (upd (upd H4 t1 (.tup [.ref b1, .ref b2])) D (.lst (acc ++ [.ref t1]))) := KeepT.put eD' (fun _ z => nomatch z) (fun _ _ z => nomatch z)
            have P4 := (hP.keepT (KeepT.same st)).snoc (p := (o, n)) upd_same (qo4.sx (Sx.same st)) (qn4.sx (Sx.same st)) go gn
            exact ⟨acc, eD', small1000000 (by omega), same_put (s7.trans st) hD, _, upd_same, P4.keepT kt⟩
          · have c' : ¬ o.length + n.length = t := fun z => c (decide_eq_true (by
              show V.int _ = V.int _
              rw [List.length_map, List.length_map]
              congr 1
              omega))
            rw [if_neg c', List.append_nil]
            exact ⟨s7, acc, eD, hP⟩
        · obtain ⟨s7, acc, eD, hP⟩ := p4
          have e : prV sz p t o xs.length = ((rowsUp sz p).filter fun n => decide (o.length + n.length = t)).map fun n => (o, n) := by
            unfold prV
            rw [lxs, List.take_length]
          rw [e] at hP
          refine ⟨s7, acc, eD, ?_⟩
          unfold prU
          rw [flat_step ho]
          exact hP
      · obtain ⟨s6, acc, eD, hP⟩ := pq
        have e : prU sz p t xs.length = prsOf sz p t := by
          unfold prU prsOf
          rw [lxs, List.take_length]
        rw [e] at hP
        have s36 := s5.trans s6
        walk_at "g"
        refine ⟨D, Dd, acc, f, prsOf sz p t, M, rfl, .inl (.inl eD), hP, fun pr hpr => ?_, hM3.gr (Gr.same s36), fun v H5 s7 r => ?_⟩
        · unfold prsOf at hpr
          obtain ⟨o, ho, hpr⟩ := List.mem_flatMap.mp hpr
          obtain ⟨n, hn, rfl⟩ := List.mem_map.mp hpr
          exact ⟨(has o ho).same s36, (has n (List.mem_filter.mp hn).1).same s36⟩
        · have s37 := s36.trans s7
          cases e2 : (prsOf sz p t).find? (badF f) with
          | none =>
            rw [e2] at r
            have r' : v = .non := r
            subst r'
            walk_at "g"
            refine ⟨⟨_, _, _, _, _, _, rfl⟩, s37, ?_⟩
            rw [List.range_succ, List.findSome?_append, hno, List.findSome?_cons, e2]
            rfl
          | some pr =>
            rw [e2] at r
            obtain ⟨tt, w1, w2, rfl, r1, r2, r3⟩ := id r
            walk_at "g"
            refine q _ _ (s13.trans s37) ?_
            have el : LP f sz p = some pr := by
              rw [← PP_eq]
              unfold PP
              exact rng_some ht' e2 fun u hu => List.findSome?_eq_none_iff.mp hno u (List.mem_range.mpr hu)
            rw [el]
            exact r
    · obtain ⟨⟨y5, y6, y7, y8, y9, y10, rfl⟩, s5, hno⟩ := pz
      walk_at "g"
      refine q _ _ (s13.trans s5) ?_
      have el : LP f sz p = none := by
        rw [← PP_eq]
        unfold PP
        rw [show (2 : Int) * (p : Int) + 1 = ((2 * p + 1 : Nat) : Int) by omega, Int.toNat_natCast] at hno
        exact hno
      rw [el]
      rfl
end
end D

namespace D
open PySem PySem.Spec PyProof.Rows L2
local macro_rules | `(tactic| walk_at "st") => `(tactic| first | exact SqT.of (by assumption) | exact Or.inl (by assumption) | exact SqT.of upd_same | fail "st")
local macro_rules | `(tactic| walk_at "ixt") => `(tactic| refine ⟨_, _, _, _, rfl, rfl, (by walk_at "st" : SqT _ _ _ _), by rfl, ?_⟩)
local macro_rules | `(tactic| walk_at "sq") => `(tactic| first | exact SqL.of (by assumption) | assumption | exact Or.inl (by assumption) | exact SqL.of upd_same | fail "sq")
local macro_rules | `(tactic| walk_at "ix") => `(tactic| refine ⟨_, _, _, _, rfl, rfl, (by walk_at "sq" : SqL _ _ _ _), by rfl, ?_⟩)
local macro_rules | `(tactic| walk_at "set") => `(tactic| refine ⟨_, _, _, _, rfl, rfl, by first | assumption | exact upd_same, by rfl, ?_⟩)
local macro_rules | `(tactic| walk_at "len") => `(tactic| refine ⟨_, _, rfl, Or.inl (by walk_at "sq" : SqL _ _ _ _), ?_⟩)
local macro_rules | `(tactic| walk_at "g") => `(tactic| repeat (first | refine ⟨_, rfl, ?_⟩ | refine ⟨_, _, rfl, rfl, ?_⟩ | refine ⟨Or.inr (by decide), ?_⟩ | refine ⟨Or.inl (by decide), ?_⟩ | refine ⟨(by decide : (0 : Int) < _), ?_⟩ | refine ⟨(⟨by decide, by decide⟩ : CDiv _ _), ?_⟩ | refine ⟨(⟨by decide, by decide, by decide⟩ : CPow _ _), ?_⟩ | refine Or.inl ⟨_, rfl, ?_⟩ | refine ⟨rfl, ?_⟩ | walk_at "ix" | walk_at "ixt" | walk_at "len" | fail "g"))
local macro_rules | `(tactic| walk_at "if") => `(tactic| refine ite2 (fun e => ?_) (fun e => ?_))
section
variable {P : Program} {w : World} {K : PySem.W.Frag} {mg : Str → Option Value} {base : Heap}
def sp_ulr : Sp := fun vs H Q _ => ∃ (v1 v2 v3 v4 : V) (f : Fm) (o n : List Int) (M : Ms), vs = [v1, v3, v2, v4] ∧ RowAt M H v1 o ∧ RowAt M H v2 n ∧ Rp M H v3 (.list ((ids f o).map pD)) ∧ Rp M H v4 (.list ((ids f n).map pD)) ∧ goodRow o ∧ goodRow n ∧ Q (.bl (badF f (o, n))) H
theorem ok_ulr (T : Txt K mg) : FnOk P w K mg base CX0 1 T.f__law_unlike_rows T.d__law_unlike_rows ["_law_old", "_law_before", "_law_new", "_law_behind"] (sp_ulr) := by
  refine T.F__law_unlike_rows.ok sc__law_unlike_rows (fun vs H Q E h => ?_) (fun cdv A outer s H vs Q E hr h => ?_)
  · obtain ⟨_, _, _, _, _, _, _, _, rfl, _⟩ := h
    rfl
  · obtain ⟨v1, v2, v3, v4, f, o, n, M, rfl, h1, h2, r1, r2, go, gn, q⟩ := h
    obtain ⟨b, eb, nb, hb⟩ := id h1
    subst eb
    obtain ⟨c, ec, nc, hc⟩ := id h2
    subst ec
    have lo5 := go.1
    have ln5 := gn.1
    refine ⟨_, (pss_cons (ps_for PassesOwn.never rfl (pi_range1 (by rfl) T.m_range (pa_cons (pe_callB (call_lenK (K := K) rfl) (by rfl) T.m_len PySem.boot_len (pa_cons (pv 0) pa_nil)) pa_nil)) (pg_name (i := 4) sc__law_unlike_rows.nd rfl (Or.inl rfl)) (pss_one (ps_for PassesOwn.never rfl (pi_range1 (by rfl) T.m_range (pa_cons (pe_callB (call_lenK (K := K) rfl) (by rfl) T.m_len PySem.boot_len (pa_cons (pv 2) pa_nil)) pa_nil)) (pg_name (i := 5) sc__law_unlike_rows.nd rfl (Or.inl rfl)) (pss_one (ps_if (pt_cmpR op_ne (pe_cmpR (op_eqDK (K := K) rfl hr.units) (pe_ix (ix_listK (K := K) rfl) (pv 1) (pv 4) (fun _ _ => rfl)) (pe_ix (ix_listK (K := K) rfl) (pv 3) (pv 5) (fun _ _ => rfl)) (nomark _)) (pe_cmpR op_eq (pe_ix (ix_tupK (K := K) rfl) (pv 0) (pv 4) (fun _ _ => rfl)) (pe_ix (ix_tupK (K := K) rfl) (pv 2) (pv 5) (fun _ _ => rfl)) (nomark _)) (nomark _)) (pss_one (ps_ret pe_bl)) pss_nil)))))
      (pss_one (ps_ret pe_bl))), ?_⟩
    obtain ⟨a1, xs1, rfl, na1, ha1, rx1⟩ := Rp.lstN r1
    obtain ⟨a2, xs2, rfl, na2, ha2, rx2⟩ := Rp.lstN r2
    have lids1 : (ids f o).length = o.length := ids_len f o
    have lids2 : (ids f n).length = n.length := ids_len f n
    have nd1 : (ids f o).Nodup := idp_nodup _
    have iff := bad_iff (N := ids f n) (n := n) go.2.1 nd1 lids1 lids2
    have qq : Q (.bl (badB o n (ids f o) (ids f n))) H := q
    generalize ids f o = B at *
    generalize ids f n = N at *
    have hb2 := hb
    have hc2 := hc
    have ln' : (n.map V.int).length = n.length := List.length_map _
    have lo' : (o.map V.int).length = o.length := List.length_map _
    let Ok : Nat → Nat → Prop := fun i j => ∀ (x y : Int) (u v : IP), o[i]? = some x → n[j]? = some y → B[i]? = some u → N[j]? = some v → decide (u = v) = decide (x = y)
    walk_at "g"
    refine ⟨_, _, rfl, .inr (.inl hb2), ?_⟩
    walk_at "g"
    refine ⟨by omega, by omega, ?_⟩
    refine for_range (lo := 0) (n := ((o.map V.int).length : Int).toNat) (fun i σ H' => (∃ y5 y6, σ = [some (.ref b), some (.ref a1), some (.ref c), some (.ref a2), y5, y6]) ∧ H' = H ∧ ∀ i' j, i' < i → Ok i' j) ⟨⟨_, _, rfl⟩, rfl, fun i' j h => absurd h (by omega)⟩ (fun i σ H' hi pp => ?_) (fun σ H' pp => ?_)
    · obtain ⟨⟨y5, y6, rfl⟩, rfl, hok⟩ := pp
      have hi' : i < o.length := by omega
      walk_at "g"
      refine ⟨_, _, rfl, .inr (.inl hc2), ?_⟩
      walk_at "g"
      refine ⟨by omega, by omega, ?_⟩
      refine for_range (lo := 0) (n := ((n.map V.int).length : Int).toNat) (fun j σ H3 => (∃ y6, σ = [some (.ref b), some (.ref a1), some (.ref c), some (.ref a2), some (.int (i : Nat)), y6]) ∧ H3 = H' ∧ ∀ j', j' < j → Ok i j') ⟨⟨_, by rw [Int.zero_add]; rfl⟩, rfl, fun j' h => absurd h (by omega)⟩ (fun j σ H3 hj pp => ?_) (fun σ H3 pp => ?_)
      · obtain ⟨⟨y6, rfl⟩, rfl, hok2⟩ := pp
        have hj' : j < n.length := by omega
        have eo : o[i]? = some o[i] := List.getElem?_eq_getElem hi'
        have en : n[j]? = some n[j] := List.getElem?_eq_getElem hj'
        have eB : B[i]? = some (B[i]'(by omega)) := List.getElem?_eq_getElem _
        have eN : N[j]? = some (N[j]'(by omega)) := List.getElem?_eq_getElem _
        rw [Int.zero_add]
        obtain ⟨u1, hu1, ru1⟩ := rx1.getD (i := i) (d := pD (B[i]'(by omega))) (by rw [List.getElem?_map, eB]; rfl)
        obtain ⟨u2, hu2, ru2⟩ := rx2.getD (i := j) (d := pD (N[j]'(by omega))) (by rw [List.getElem?_map, eN]; rfl)
        have at1 : atI (o.map V.int) (i : Int) = some (.int o[i]) := atI_nat (by rw [List.getElem?_map, eo]; rfl)
        have at2 : atI (n.map V.int) (j : Int) = some (.int n[j]) := atI_nat (by rw [List.getElem?_map, en]; rfl)
        walk_at "g"
        refine ⟨_, _, _, _, rfl, rfl, .inl ha1, atI_nat hu1, ?_⟩
        walk_at "g"
        refine ⟨_, _, _, _, rfl, rfl, .inl ha2, atI_nat hu2, ?_⟩
        refine ⟨_, _, Rp.dp _ _ ru1, Rp.dp _ _ ru2, pD_shaped _, pD_shaped _, ?_⟩
        rw [pD_eqv]
        walk_at "g"
        refine ⟨_, _, _, _, rfl, rfl, .inl hb2, at1, ?_⟩
        walk_at "g"
        refine ⟨_, _, _, _, rfl, rfl, .inl hc2, at2, ?_⟩
        walk_at "g"
        by_cases ce : decide (B[i]'(by omega) = N[j]'(by omega)) = decide (o[i] = n[j])
        · have hb' : decide (V.bl (decide (B[i]'(by omega) = N[j]'(by omega))) = V.bl (decide (V.int o[i] = V.int n[j]))) = true := by
            rw [decide_eq_true_iff, ce]
            congr 1
            rw [decide_eq_decide]
            exact ⟨fun z => by rw [z], V.int.inj⟩
          rw [hb']
          walk_at "g"
          refine ⟨⟨_, rfl⟩, rfl, fun j' hj2 => ?_⟩
          rcases Nat.lt_or_eq_of_le (Nat.le_of_lt_succ hj2) with h | h
          · exact hok2 j' h
          · subst h
            intro x y u v h1 h2 h3 h4
            rw [eo] at h1
            rw [en] at h2
            rw [eB] at h3
            rw [eN] at h4
            cases h1; cases h2; cases h3; cases h4
            exact ce
        · have hb' : decide (V.bl (decide (B[i]'(by omega) = N[j]'(by omega))) = V.bl (decide (V.int o[i] = V.int n[j]))) = false := by
            rw [decide_eq_false_iff_not]
            intro z
            apply ce
            rw [V.bl.inj z, decide_eq_decide]
            exact ⟨V.int.inj, fun z => by rw [z]⟩
          rw [hb']
          walk_at "g"
          have fin := qq
          rw [iff.mpr ⟨i, j, _, _, _, _, eo, en, eB, eN, ce⟩] at fin
          exact fin
      · obtain ⟨⟨y6, rfl⟩, rfl, hok2⟩ := pp
        refine ⟨⟨_, _, rfl⟩, rfl, fun i' j h => ?_⟩
        rcases Nat.lt_or_eq_of_le (Nat.le_of_lt_succ h) with h | h
        · exact hok i' j h
        · subst h
          by_cases hj : j < n.length
          · exact hok2 j (by omega)
          · intro x y u v _ h2
            rw [List.getElem?_eq_none (by omega)] at h2
            cases h2
    · obtain ⟨⟨y5, y6, rfl⟩, rfl, hok⟩ := pp
      walk_at "g"
      have fin := qq
      have e : badB o n B N = false := by
        rw [Bool.eq_false_iff]
        intro z
        obtain ⟨i, j, x, y, u, v, h1, h2, h3, h4, h5⟩ := iff.mp z
        have hi := (List.getElem?_eq_some_iff.mp h1).1
        exact h5 (hok i j (by omega) x y u v h1 h2 h3 h4)
      rw [e] at fin
      exact fin
def PrRes (M : Ms) (H : Hp) (l : Addr) : Option RR → Prop
  | none => H l = some (.lst [])
  | some p => ∃ w1 w2, H l = some (.lst [w1, w2]) ∧ RowF M H w1 p.1 ∧ RowF M H w2 p.2
def sp_fof (K : PySem.W.Frag) : Sp := fun vs H Q _ => ∃ (k : V) (a1 a2 : Addr) (f : Fm) (xs ys : List V) (os ns : List (List Int)) (M : Ms), vs = [k, .ref a1, .ref a2] ∧ Rp M H k f.enc ∧ goodKey f ∧ H a1 = some (.lst xs) ∧ H a2 = some (.lst ys) ∧ RowsAt goodRow M H xs os ∧ RowsAt goodRow M H ys ns ∧ ns.length ≤ 1000 ∧ Mk M H ∧
  ∀ H' l, Same H H' → H l = none → PrRes M H' l (firstOf f os ns) → Q (.ref l) H'
theorem ok_fof (T : Txt K mg) : FnOk P w K mg base CX0 9 T.f__law_first_of T.d__law_first_of ["_law_form_here", "_law_olds", "_law_news"] (sp_fof K) := by
  have G__law_idents := ok_lids (P := P) (w := w) (base := base) T
  have G__law_unlike_rows := ok_ulr (P := P) (w := w) (base := base) T
  refine T.F__law_first_of.ok sc__law_first_of (fun vs H Q E h => ?_) (fun cdv A outer s H vs Q E hr h => ?_)
  · obtain ⟨_, _, _, _, _, _, _, _, _, rfl, _⟩ := h
    rfl
  · obtain ⟨k, a1, a2, f, xs, ys, os, ns, M, rfl, hK, hg, e1, e2, rx, ry, ln, hM, q⟩ := h
    have lys := ry.1
    refine ⟨_, (pss_cons (ps_setLc (i := 3) (own := [("_law_row", 7)]) (g := gName 7) (tt := tYes) (by rfl) sc__law_first_of.nd rfl rfl (sw_true rfl rfl rfl (by decide +kernel)) (pi_listK (K := K) rfl (pv 2)) (blkOk_by (own := [("_law_row", 7)]) (N := ["_law_form_here", "_law_olds", "_law_news", "_law_marks", "_law_old", "_law_before", "_law_at", "_law_row"]) (sc := defScope s__law_first_of) (by decide +kernel)) (fun _ _ _ _ _ => (pg_name (i := 7) sc__law_first_of.nd rfl (Or.inl rfl))) (fun _ _ _ _ _ => pts_nil) (fun _ _ _ _ _ => (pe_call G__law_idents (hr.mono (by omega)) (by rfl) T.g__law_idents T.F__law_idents.kp T.b__law_idents .nil pass0 (pa_cons (pv 0) (pa_cons (pv 7) pa_nil)))))
      (pss_cons (ps_for PassesOwn.never rfl (pi_listK (K := K) rfl (pv 1)) (pg_name (i := 4) sc__law_first_of.nd rfl (Or.inl rfl)) (pss_cons (ps_set (i := 5) sc__law_first_of.nd rfl (Or.inl rfl) (pe_call G__law_idents (hr.mono (by omega)) (by rfl) T.g__law_idents T.F__law_idents.kp T.b__law_idents .nil pass0 (pa_cons (pv 0) (pa_cons (pv 4) pa_nil))))
      (pss_one (ps_for PassesOwn.never rfl (pi_range1 (by rfl) T.m_range (pa_cons (pe_callB (call_lenK (K := K) rfl) (by rfl) T.m_len PySem.boot_len (pa_cons (pv 2) pa_nil)) pa_nil)) (pg_name (i := 6) sc__law_first_of.nd rfl (Or.inl rfl)) (pss_one (ps_if (pt_val (pe_call G__law_unlike_rows (hr.mono (by omega)) (by rfl) T.g__law_unlike_rows T.F__law_unlike_rows.kp T.b__law_unlike_rows .nil pass0 (pa_cons (pv 4) (pa_cons (pv 5) (pa_cons (pe_ix (ix_listK (K := K) rfl) (pv 2) (pv 6) (fun _ _ => rfl)) (pa_cons (pe_ix (ix_listK (K := K) rfl) (pv 3) (pv 6) (fun _ _ => rfl)) pa_nil)))))) (pss_one (ps_ret (pe_lst (pa_cons (pv 4) (pa_cons (pe_ix (ix_listK (K := K) rfl) (pv 2) (pv 6) (fun _ _ => rfl)) pa_nil))))) pss_nil))))))
      (pss_one (ps_ret (pe_lst pa_nil))))), ?_⟩
    walk_at "g"
    refine ⟨⟨_, .inl (.inl e2)⟩, fun D hD => ?_⟩
    let mk : List (List Int) → List PyData := fun l => l.map fun n => .list ((ids f n).map pD)
    refine list_loop (xs := ys) (fun i H' => Acc M H D H' (mk (ns.take i))) (by have := Acc.new (M := M) hD; exact this) (fun i H' _ p => .inl (.inl (p.same _ _ e2))) (fun i x H' hx p => ?_) (fun H2 p => ?_)
    · obtain ⟨n, hn, qn, gn⟩ := ry.get hx
      have hi : i < ns.length := (List.getElem?_eq_some_iff.mp hn).1
      refine ⟨rfl, ?_⟩
      walk_at "g"
      refine ⟨k, x, f, n, also M D, rfl, p.old hK, hg, ((qn.fresh hD).sx (Sx.same p.same)).row, gn.1, p.mk hM, fun w1 H1 d1 s1 r1 e => ?_⟩
      subst e
      rw [idsOf_eq] at r1
      have fin := (p.keep s1).put (v := w1) (y := .list ((ids f n).map pD)) r1 (by
        show (List.map _ _).length ≤ _
        rw [List.length_map, List.length_take]
        omega)
      have e3 : mk (ns.take (i + 1)) = mk (ns.take i) ++ [.list ((ids f n).map pD)] := by
        show List.map _ _ = List.map _ _ ++ _
        rw [List.take_add_one, hn, List.map_append]
        rfl
      rw [e3]
      exact fin
    · rw [lys, List.take_length] at p
      have sD := p.same
      obtain ⟨nD, zs, eD, rz⟩ := p.fin hM
      have hM2 := hM.gr (Gr.same sD)
      have e1' := sD _ _ e1
      have e2' := sD _ _ e2
      have rx' := rx.sx (Sx.same sD)
      have ry' := ry.sx (Sx.same sD)
      have hK' := hK.sx (Sx.same sD)
      walk_at "g"
      refine ⟨⟨_, .inl (.inl e1')⟩, ?_⟩
      refine for_list (K := K) (a := a1) (xs := xs) (fun i σ H' => (∃ y4 y5 y6 y7, σ = [some k, some (.ref a1), some (.ref a2), some (.ref D), y4, y5, y6, y7]) ∧ Same H2 H' ∧ (os.take i).findSome? (fun o => ns.findSome? fun n => if badF f (o, n) = true then some (o, n) else none) = none) ⟨⟨_, _, _, _, rfl⟩, Same.refl _, by rw [List.take_zero]; rfl⟩ (fun i σ H' _ pp => .inl (.inl (pp.2.1 _ _ e1'))) (fun i x σ H' hx pp => ?_) (fun σ H' pp => ?_)
      · obtain ⟨⟨y4, y5, y6, y7, rfl⟩, s3, hno⟩ := pp
        obtain ⟨o, ho, qo, go⟩ := rx'.get hx
        have hM3 := hM2.gr (Gr.same s3)
        walk_at "g"
        refine ⟨k, x, f, o, M, rfl, hK'.sx (Sx.same s3), hg, (qo.sx (Sx.same s3)).row, go.1, hM3, fun w1 H3 d1 s4 r1 e => ?_⟩
        subst e
        rw [idsOf_eq] at r1
        have s34 := s3.trans s4
        have lns : ys.length = ns.length := lys
        walk_at "g"
        refine ⟨_, _, rfl, .inl (.inl (.inl (s34 _ _ e2'))), ?_⟩
        walk_at "g"
        refine ⟨by omega, by omega, ?_⟩
        refine for_range (lo := 0) (n := (ys.length : Int).toNat) (fun j σ H4 => (∃ y6 y7, σ = [some k, some (.ref a1), some (.ref a2), some (.ref D), some x, some w1, y6, y7]) ∧ Same H3 H4 ∧ (ns.take j).findSome? (fun n => if badF f (o, n) = true then some (o, n) else none) = none) ⟨⟨_, _, rfl⟩, Same.refl _, by rw [List.take_zero]; rfl⟩ (fun j σ H4 hj pp => ?_) (fun σ H4 pp => ?_)
        · obtain ⟨⟨y6, y7, rfl⟩, s5, hno2⟩ := pp
          have s35 := s34.trans s5
          have hj' : j < ns.length := by omega
          have en : ns[j]? = some ns[j] := List.getElem?_eq_getElem hj'
          obtain ⟨wn, hwn, qn, gn⟩ := ry'.2 j _ en
          obtain ⟨wm, hwm, qm⟩ := rz.getD (i := j) (d := .list ((ids f ns[j]).map pD)) (by
            show (List.map _ _)[j]? = _
            rw [List.getElem?_map, en]
            rfl)
          rw [Int.zero_add]
          generalize ns[j] = n at *
          walk_at "g"
          refine ⟨_, _, _, _, rfl, rfl, .inl (.inl (s35 _ _ e2')), atI_nat hwn, ?_⟩
          walk_at "g"
          refine ⟨_, _, _, _, rfl, rfl, .inl (.inl (s35 _ _ eD)), atI_nat hwm, ?_⟩
          refine ⟨x, wn, w1, wm, f, o, n, M, rfl, (qo.sx (Sx.same s35)).row, (qn.sx (Sx.same s35)).row, r1.sx (Sx.same s5), qm.sx (Sx.same s35), go, gn, ?_⟩
          walk_at "g"
          by_cases c : badF f (o, n) = true
          · rw [c]
            walk_at "g"
            refine ⟨_, _, _, _, rfl, rfl, .inl (.inl (s35 _ _ e2')), atI_nat hwn, ?_⟩
            refine ⟨szK rfl, fun l hl => ?_⟩
            have sT : Same H4 (upd H4 l (.lst [x, wn])) := same_new hl
            refine q _ l ((sD.trans s35).trans sT) ((sD.trans s35).free hl) ?_
            have h2 : (ns.findSome? fun n => if badF f (o, n) = true then some (o, n) else none) = some (o, n) := fs_some hno2 en (if_pos c)
            rw [show firstOf f os ns = some (o, n) from fs_some hno ho h2]
            exact ⟨_, _, upd_same, qo.sx (Sx.same (s35.trans sT)), qn.sx (Sx.same (s35.trans sT))⟩
          · have c' : badF f (o, n) = false := by simpa using c
            rw [c']
            walk_at "g"
            exact ⟨⟨_, _, rfl⟩, s5, fs_none hno2 en (if_neg c)⟩
        · obtain ⟨⟨y6, y7, rfl⟩, s5, hno2⟩ := pp
          rw [lns, Int.toNat_natCast, List.take_length] at hno2
          exact ⟨⟨_, _, _, _, rfl⟩, s34.trans s5, fs_none hno ho hno2⟩
      · obtain ⟨⟨y4, y5, y6, y7, rfl⟩, s3, hno⟩ := pp
        rw [rx.1, List.take_length] at hno
        walk_at "g"
        refine ⟨szK rfl, fun l hl => ?_⟩
        refine q _ l ((sD.trans s3).trans (same_new hl)) ((sD.trans s3).free hl) ?_
        rw [show firstOf f os ns = none from hno]
        exact upd_same
end
end D

namespace D
open PySem PySem.Spec PyProof.Rows L2
local macro_rules | `(tactic| walk_at "st") => `(tactic| first | exact SqT.of (by assumption) | exact Or.inl (by assumption) | exact SqT.of upd_same | fail "st")
local macro_rules | `(tactic| walk_at "ixt") => `(tactic| refine ⟨_, _, _, _, rfl, rfl, (by walk_at "st" : SqT _ _ _ _), by rfl, ?_⟩)
local macro_rules | `(tactic| walk_at "sq") => `(tactic| first | exact SqL.of (by assumption) | assumption | exact Or.inl (by assumption) | exact SqL.of upd_same | fail "sq")
local macro_rules | `(tactic| walk_at "ix") => `(tactic| refine ⟨_, _, _, _, rfl, rfl, (by walk_at "sq" : SqL _ _ _ _), by rfl, ?_⟩)
local macro_rules | `(tactic| walk_at "set") => `(tactic| refine ⟨_, _, _, _, rfl, rfl, by first | assumption | exact upd_same, by rfl, ?_⟩)
local macro_rules | `(tactic| walk_at "len") => `(tactic| refine ⟨_, _, rfl, Or.inl (by walk_at "sq" : SqL _ _ _ _), ?_⟩)
local macro_rules | `(tactic| walk_at "g") => `(tactic| repeat (first | refine ⟨_, rfl, ?_⟩ | refine ⟨_, _, rfl, rfl, ?_⟩ | refine ⟨Or.inr (by decide), ?_⟩ | refine ⟨Or.inl (by decide), ?_⟩ | refine ⟨(by decide : (0 : Int) < _), ?_⟩ | refine ⟨(⟨by decide, by decide⟩ : CDiv _ _), ?_⟩ | refine ⟨(⟨by decide, by decide, by decide⟩ : CPow _ _), ?_⟩ | refine Or.inl ⟨_, rfl, ?_⟩ | refine ⟨rfl, ?_⟩ | walk_at "ix" | walk_at "ixt" | walk_at "len" | fail "g"))
local macro_rules | `(tactic| walk_at "if") => `(tactic| refine ite2 (fun e => ?_) (fun e => ?_))
section
variable {P : Program} {w : World} {K : PySem.W.Frag} {mg : Str → Option Value} {base : Heap}
def ListsAt (M : Ms) (H : Hp) (L : Addr) (s p : Nat) : Prop := ∃ ls, H L = some (.lst ls) ∧ ls.length = p + 1 ∧ ∀ k, k ≤ p → ∃ a xs, ls[k]? = some (.ref a) ∧ (a ≠ L ∧ ¬ M a) ∧ H a = some (.lst xs) ∧ RowsAt goodRow M H xs (lon s k)
theorem ListsAt.sx {M F : Ms} {H H' : Hp} {L : Addr} {s p : Nat} (h : ListsAt M H L s p) (t : Same H H') : ListsAt M H' L s p := by
  obtain ⟨ls, e, l, q⟩ := h
  refine ⟨ls, t _ _ e, l, fun k hk => ?_⟩
  obtain ⟨a, xs, h1, h2, h3, h4⟩ := q k hk
  exact ⟨a, xs, h1, h2, t _ _ h3, h4.sx (Sx.same t)⟩
def sp_all : Sp := fun vs H Q _ => ∃ (s p : Nat) (M : Ms), vs = [.int s, .int p] ∧ s ≤ 4 ∧ p ≤ 4 ∧ Mk M H ∧ ∀ H' L, Same H H' → H L = none → ListsAt M H' L s p → Q (.ref L) H'
theorem ok_all (T : Txt K mg) : FnOk P w K mg base CX0 1 T.f__law_all_rows T.d__law_all_rows ["_law_size", "_law_places"] sp_all := by
  refine T.F__law_all_rows.ok sc__law_all_rows (fun vs H Q E h => ?_) (fun cdv A outer s H vs Q E hr h => ?_)
  · obtain ⟨_, _, _, rfl, _⟩ := h
    rfl
  · obtain ⟨sz, p, M, rfl, hs, hp, hM, q⟩ := h
    refine ⟨_, (pss_cons (ps_set (i := 2) sc__law_all_rows.nd rfl (Or.inl rfl) (pe_lst (pa_cons (pe_lst (pa_cons (pe_tupF pa_nil) pa_nil)) pa_nil)))
      (pss_cons (ps_for PassesOwn.never rfl (pi_range1 (by rfl) T.m_range (pa_cons (pv 1) pa_nil)) (pg_name (i := 3) sc__law_all_rows.nd rfl (Or.inl rfl)) (pss_cons (ps_set (i := 4) sc__law_all_rows.nd rfl (Or.inl rfl) (pe_lst pa_nil))
      (pss_cons (ps_for PassesOwn.never rfl (pi_listK (K := K) rfl (pe_ix (ix_listK (K := K) rfl) (pv 2) (pv 3) (fun _ _ => rfl))) (pg_name (i := 5) sc__law_all_rows.nd rfl (Or.inr rfl)) (pss_one (ps_expr (pe_bmK2 (K := K) rfl PySem.F.plainAttrs_list PySem.F.slot_list_extend PySem.F.type_list_extend mt_extend (pv 4) (pa_cons (pe_lc (own := [("_law_item", 6)]) (g := gName 6)  (by rfl) sc__law_all_rows.nd (pi_range1 (by rfl) T.m_range (pa_cons (pv 0) pa_nil)) (blkOk_by (own := [("_law_item", 6)]) (N := ["_law_size", "_law_places", "_law_lists", "_law_length", "_law_longer", "_law_row", "_law_item"]) (sc := defScope s__law_all_rows) (by decide +kernel)) (fun _ _ _ _ _ => (pg_name (i := 6) sc__law_all_rows.nd rfl (Or.inl rfl))) (fun _ _ _ _ _ => (pts_one (pt_cmpR (op_notIn_seqK (K := K) rfl) (pv 6) (pv 5) (by rfl)))) (fun _ _ _ _ _ => (pe_op (op_catF (K := K) rfl) (pv 5) (pe_tupF (pa_cons (pv 6) pa_nil))))) pa_nil)))))
      (pss_one (ps_expr (pe_bmK2 (K := K) rfl PySem.F.plainAttrs_list PySem.F.slot_list_append PySem.F.type_list_append mt_append (pv 2) (pa_cons (pv 4) pa_nil)))))))
      (pss_one (ps_ret (pv 2))))), ?_⟩
    refine ⟨szK rfl, fun t1 o1 ht1 c1 d1 => ⟨szK rfl, fun a ha => ⟨szK rfl, fun L hL => ?_⟩⟩⟩
    have s1 : Same H (upd H t1 (.frz o1 (.tup []))) := same_new ht1
    have r1 : RowF M (upd H t1 (.frz o1 (.tup []))) (.ref t1) [] := row_new (ns := []) hM ht1 c1 d1
    generalize upd H t1 (.frz o1 (.tup [])) = Ha at s1 r1 ha hL
    have s2 : Same Ha (upd Ha a (.lst [V.ref t1])) := same_new ha
    have ea : upd Ha a (.lst [V.ref t1]) a = some (.lst [V.ref t1]) := upd_same
    generalize upd Ha a (.lst [V.ref t1]) = Hb at s2 ea hL
    have s3 : Same Hb (upd Hb L (.lst [V.ref a])) := same_new hL
    have eL : upd Hb L (.lst [V.ref a]) L = some (.lst [V.ref a]) := upd_same
    have aL : a ≠ L := fun z => by rw [z, hL] at ea; cases ea
    have hL0 : H L = none := (s1.trans s2).free hL
    generalize upd Hb L (.lst [V.ref a]) = Hc at s3 eL
    have gr0 : goodRow [] := ⟨by decide, List.nodup_nil, fun _ h => nomatch h⟩
    walk_at "g"
    refine ⟨by omega, by omega, ?_⟩
    refine for_range (lo := 0) (n := (p : Int).toNat) (fun i σ H' => (∃ y3 y4 y5 y6, σ = [some (.int sz), some (.int p), some (.ref L), y3, y4, y5, y6]) ∧ Same H H' ∧ ListsAt M H' L sz i)
      ⟨⟨_, _, _, _, rfl⟩, (s1.trans s2).trans s3, _, eL, rfl, fun k hk => ?_⟩ (fun i σ H' hi pz => ?_) (fun σ H' pz => ?_)
    · have : k = 0 := by omega
      subst this
      exact ⟨a, _, rfl, ⟨aL, (hM.gr (Gr.same s1)).out ha⟩, s3 _ _ ea, .one (r1.sx (Sx.same (s2.trans s3))) gr0⟩
    · obtain ⟨⟨y3, y4, y5, y6, rfl⟩, sH, ls, eL', lls, all⟩ := pz
      have hi' : i < 4 := by omega
      obtain ⟨b, xs, hb1, hb2, hb3, rx⟩ := all i (Nat.le_refl _)
      rw [Int.zero_add]
      walk_at "g"
      refine ⟨szK rfl, fun G hG => ?_⟩
      have sG : Same H' (upd H' G (.lst [])) := same_new hG
      have eG : upd H' G (.lst []) G = some (.lst []) := upd_same
      have hG0 : H G = none := sH.free hG
      generalize upd H' G (.lst []) = Hd at sG eG
      have eLd := sG _ _ eL'
      have hb3d := sG _ _ hb3
      have LG : L ≠ G := fun z => by rw [z, hG] at eL'; cases eL'
      have bG : b ≠ G := fun z => by rw [z, hG] at hb3; cases hb3
      walk_at "g"
      refine ⟨_, _, _, _, rfl, rfl, .inl (.inl eLd), atI_nat hb1, _, rfl, ⟨_, .inl (.inl hb3d)⟩, ?_⟩
      have rxd := rx.sx (Sx.same sG)
      refine for_list (K := K) (a := b) (xs := xs) (fun j σ H2 => (∃ y5 y6, σ = [some (.int sz), some (.int p), some (.ref L), some (.int (i : Nat)), some (.ref G), y5, y6]) ∧ (Sx (one G) Hd H2 ∧ Gr Hd H2) ∧ ∃ acc, H2 G = some (.lst acc) ∧ RowsAt goodRow M H2 acc (((lon sz i).take j).flatMap (ext1 sz)))
        ⟨⟨_, _, rfl⟩, ⟨Sx.refl, Gr.refl⟩, _, eG, by rw [List.take_zero]; exact .nil⟩ (fun j σ H2 _ pp => .inl (.inl (pp.2.1.1 _ _ bG hb3d))) (fun j x σ H2 hx pp => ?_) (fun σ H2 pp => ?_)
      · obtain ⟨⟨y5, y6, rfl⟩, ⟨s5, g5⟩, acc, eG2, ra⟩ := pp
        obtain ⟨r, hr, qr, gr⟩ := rxd.get hx
        have rl := List.mem_of_getElem? hr
        have sH2 : Same H' H2 := same_step sG s5 hG
        have qr2 : RowF M H2 x r := by
          obtain ⟨r', hr', qr', _⟩ := rx.get hx
          rw [hr] at hr'
          cases hr'
          exact qr'.sx (Sx.same sH2)
        have hM2 := hM.gr (Gr.same (sH.trans sH2))
        have lu := flat_up hs (k := i) j
        have l4 := pow4 hi'
        have la := ra.1
        walk_at "g"
        refine ⟨.inl ⟨rfl, _, SqL.of eG2⟩, ?_⟩
        walk_at "g"
        refine ⟨by omega, by omega, fun D hD => ?_⟩
        refine rng_loop (lo := 0) (n := (sz : Int).toNat) (fun m H3 => Same H2 H3 ∧ ∃ acc2, H3 D = some (.lst acc2) ∧ RowsAt goodRow M H3 acc2 (extU m r)) ⟨same_new hD, [], upd_same, .nil⟩ (fun m H3 hm p3 => ?_) (fun H3 p3 => ?_)
        · obtain ⟨s6, acc2, eD, ra2⟩ := p3
          have hm' : m < sz := by omega
          have qr3 := qr2.sx (Sx.same s6)
          obtain ⟨c, oc, rfl, nc, hc, oc1, oc2⟩ := id qr3
          have lacc := ra2.1
          have le := extU_len m r
          rw [Int.zero_add]
          refine ⟨rfl, ?_⟩
          walk_at "g"
          refine ⟨c, _, rfl, .inr (.inl (.inr ⟨oc, hc⟩)), rfl, flat_ints r, ?_⟩
          rw [in_ints, extU_step]
          by_cases cm : (m : Int) ∈ r
          · rw [decide_eq_true cm, if_pos cm, List.append_nil]
            walk_at "g"
            exact ⟨s6, acc2, eD, ra2⟩
          · rw [decide_eq_false cm, if_neg cm]
            walk_at "g"
            refine ⟨szK rfl, fun t ot ht ct dt => ?_⟩
            have hM3 := hM2.gr (Gr.same s6)
            have s7 : Same H3 (upd H3 t (.frz ot (.tup [V.int (m : Nat)]))) := same_new ht
            refine cat_row (M := M) (r := r) (x := (m : Int)) (qr3.sx (Sx.same s7)) (row_new (ns := [(m : Int)]) hM3 ht ct dt) (by have := gr.1; omega) (hM3.gr (Gr.same s7)) fun z H4 s8 qz => ?_
            have s9 := s7.trans s8
            have eD4 := s9 _ _ eD
            have kt : KeepT H4 (upd H4 D (.lst (acc2 ++ [z]))) := KeepT.put eD4 (fun _ z => nomatch z) (fun _ _ z => nomatch z)
            exact ⟨acc2, eD4, small1000000 (by omega), same_put (s6.trans s9) hD, _, upd_same, ((ra2.sx (Sx.same s9)).append (.one qz (good_snoc hs rl hi' hm' cm))).keepT kt⟩
        · obtain ⟨s6, acc2, eD, ra2⟩ := p3
          rw [show ((sz : Int).toNat) = sz by omega, extU_all] at ra2
          have le := ext1_len sz r
          have la2 := ra2.1
          have eG3 := s6 _ _ eG2
          walk_at "g"
          refine ⟨G, D, acc, acc2, rfl, rfl, eG3, eD, Nat.le_of_lt (small1000000 (by omega)), ?_⟩
          have kt : KeepT H3 (upd H3 G (.lst (acc ++ acc2))) := KeepT.put eG3 (fun _ z => nomatch z) (fun _ _ z => nomatch z)
          refine ⟨⟨_, _, rfl⟩, ⟨(s5.trans (Sx.same s6)).trans (Sx.put rfl), (g5.trans (Gr.same s6)).trans Gr.upd⟩, _, upd_same, ?_⟩
          rw [flat_step hr]
          exact ((ra.sx (Sx.same s6)).append ra2).keepT kt
      · obtain ⟨⟨y5, y6, rfl⟩, ⟨s5, g5⟩, acc, eG2, ra⟩ := pp
        rw [rx.1, List.take_length] at ra
        have sH2 : Same H' H2 := same_step sG s5 hG
        have eL2 := sH2 _ _ eL'
        walk_at "g"
        refine ⟨.inl ⟨rfl, _, SqL.of eL2⟩, ?_⟩
        walk_at "g"
        refine ⟨L, ls, .ref G, rfl, rfl, eL2, small1000000 (by omega), ?_⟩
        have kt : KeepT H2 (upd H2 L (.lst (ls ++ [.ref G]))) := KeepT.put eL2 (fun _ z => nomatch z) (fun _ _ z => nomatch z)
        refine ⟨⟨_, _, _, _, rfl⟩, same_put (sH.trans sH2) hL0, _, upd_same, by rw [List.length_append, lls]; rfl, fun k hk => ?_⟩
        by_cases ck : k = i + 1
        · subst ck
          refine ⟨G, acc, by rw [← lls, List.getElem?_append_right (Nat.le_refl _), Nat.sub_self]; rfl, ⟨LG.symm, (hM.gr (Gr.same sH)).out hG⟩, by rw [upd_ne LG.symm]; exact eG2, ra.keepT kt⟩
        · obtain ⟨c, zs, h1, h2, h3, h4⟩ := all k (by omega)
          refine ⟨c, zs, by rw [List.getElem?_append_left (by omega)]; exact h1, h2, by rw [upd_ne h2.1]; exact sH2 _ _ h3, (h4.sx (Sx.same sH2)).keepT kt⟩
    · obtain ⟨⟨y3, y4, y5, y6, rfl⟩, sH, hL'⟩ := pz
      rw [Int.toNat_natCast] at hL'
      walk_at "g"
      exact q _ _ sH hL0 hL'
def sp_least : Sp := fun vs H Q _ => ∃ (k : V) (f : Fm) (s p : Nat) (M : Ms), vs = [k, .int s, .int p] ∧ Rp M H k f.enc ∧ goodKey f ∧ s ≤ 4 ∧ p ≤ 4 ∧ Mk M H ∧ ∀ H' l, Same H H' → H l = none → PrRes M H' l (LP f s p) → Q (.ref l) H'
theorem ok_least (T : Txt K mg) : FnOk P w K mg base CX0 10 T.f__law_least T.d__law_least ["_law_form_here", "_law_size", "_law_places"] sp_least := by
  have G__law_all_rows := ok_all (P := P) (w := w) (base := base) T
  have G__law_first_of := ok_fof (P := P) (w := w) (base := base) T
  refine T.F__law_least.ok sc__law_least (fun vs H Q E h => ?_) (fun cdv A outer s H vs Q E hr h => ?_)
  · obtain ⟨_, _, _, _, _, rfl, _⟩ := h
    rfl
  · obtain ⟨k, f, sz, p, M, rfl, hK, hg, hs, hp, hM, q⟩ := h
    refine ⟨_, (pss_cons (ps_set (i := 3) sc__law_least.nd rfl (Or.inl rfl) (pe_call G__law_all_rows (hr.mono (by omega)) (by rfl) T.g__law_all_rows T.F__law_all_rows.kp T.b__law_all_rows .nil pass0 (pa_cons (pv 1) (pa_cons (pv 2) pa_nil))))
      (pss_cons (ps_for PassesOwn.never rfl (pi_range1 (by rfl) T.m_range (pa_cons (pe_op op_add (pe_op op_mul pe_int (pv 2)) pe_int) pa_nil)) (pg_name (i := 4) sc__law_least.nd rfl (Or.inl rfl)) (pss_one (ps_for PassesOwn.never rfl (pi_range1 (by rfl) T.m_range (pa_cons (pe_op op_add (pv 2) pe_int) pa_nil)) (pg_name (i := 5) sc__law_least.nd rfl (Or.inl rfl)) (pss_one (ps_if (PW.pt (pw_and (pt_cmpR op_le pe_int (pe_op op_sub (pv 4) (pv 5)) (nomark _)) (pw_and1 (pt_cmpR op_le (pe_op op_sub (pv 4) (pv 5)) (pv 2) (nomark _))))) (pss_cons (ps_set (i := 6) sc__law_least.nd rfl (Or.inl rfl) (pe_call G__law_first_of (hr.mono (by omega)) (by rfl) T.g__law_first_of T.F__law_first_of.kp T.b__law_first_of .nil pass0 (pa_cons (pv 0) (pa_cons (pe_ix (ix_listK (K := K) rfl) (pv 3) (pv 5) (fun _ _ => rfl)) (pa_cons (pe_ix (ix_listK (K := K) rfl) (pv 3) (pe_op op_sub (pv 4) (pv 5)) (fun _ _ => rfl)) pa_nil)))))
      (pss_one (ps_if (pt_truthK (K := K) rfl (pv 6) (by intro _; rfl)) (pss_one (ps_ret (pv 6))) pss_nil))) pss_nil)))))
      (pss_one (ps_ret (pe_lst pa_nil))))), ?_⟩
    walk_at "g"
    refine ⟨sz, p, M, rfl, hs, hp, hM, fun H1 L s1 nL hLs => ?_⟩
    have hM1 := hM.gr (Gr.same s1)
    obtain ⟨ls, eL, lls, all⟩ := hLs
    walk_at "g"
    refine ⟨by omega, by omega, ?_⟩
    refine for_range (lo := 0) (n := ((2 : Int) * (p : Int) + 1).toNat) (fun t σ H' => (∃ y4 y5 y6, σ = [some k, some (.int sz), some (.int p), some (.ref L), y4, y5, y6]) ∧ Same H1 H' ∧ (List.range t).findSome? (fun t => (List.range (p + 1)).findSome? (LPt f sz p t)) = none)
      ⟨⟨_, _, _, rfl⟩, Same.refl _, rfl⟩ (fun t σ H' ht pz => ?_) (fun σ H' pz => ?_)
    · obtain ⟨⟨y4, y5, y6, rfl⟩, s2, hno⟩ := pz
      have ht' : t < 2 * p + 1 := by omega
      rw [Int.zero_add]
      walk_at "g"
      refine ⟨by omega, by omega, ?_⟩
      refine for_range (lo := 0) (n := ((p : Int) + 1).toNat) (fun l σ H3 => (∃ y5 y6, σ = [some k, some (.int sz), some (.int p), some (.ref L), some (.int (t : Nat)), y5, y6]) ∧ Same H1 H3 ∧ (List.range l).findSome? (LPt f sz p t) = none)
        ⟨⟨_, _, rfl⟩, s2, rfl⟩ (fun l σ H3 hl pz => ?_) (fun σ H3 pz => ?_)
      · obtain ⟨⟨y5, y6, rfl⟩, s3, hno2⟩ := pz
        have hl' : l < p + 1 := by omega
        rw [Int.zero_add]
        have next : LPt f sz p t l = none → (List.range (l + 1)).findSome? (LPt f sz p t) = none := fun e => by
          rw [List.range_succ, List.findSome?_append, hno2, List.findSome?_cons, e]
          rfl
        walk_at "g"
        refine ite2 (fun c => ?_) (fun c => ?_)
        · walk_at "g"
          refine ite2 (fun c2 => ?_) (fun c2 => ?_)
          · have c1' : l ≤ t := by
              have := of_decide_eq_true c
              omega
            have c2' : t - l ≤ p := by
              have : (t : Int) - (l : Int) ≤ (p : Int) := of_decide_eq_true c2
              omega
            have e : (t : Int) - (l : Int) = ((t - l : Nat) : Int) := by omega
            have el : LPt f sz p t l = firstOf f (lon sz l) (lon sz (t - l)) := if_pos ⟨c1', c2'⟩
            obtain ⟨a1, xs1, h1, _, g1, rx1⟩ := all l (by omega)
            obtain ⟨a2, xs2, h2, _, g2, rx2⟩ := all (t - l) c2'
            have ll := lon_len hs (t - l)
            have l4 : (4 : Nat) ^ (t - l) ≤ 4 ^ 4 := Nat.pow_le_pow_right (by decide) (by omega)
            walk_at "g"
            refine ⟨_, _, _, _, rfl, rfl, .inl (.inl (s3 _ _ eL)), atI_nat h1, ?_⟩
            walk_at "g"
            refine ⟨_, _, _, _, rfl, rfl, .inl (.inl (s3 _ _ eL)), (by rw [e]; exact atI_nat h2), ?_⟩
            have hM3 := hM1.gr (Gr.same s3)
            refine ⟨k, a1, a2, f, xs1, xs2, lon sz l, lon sz (t - l), M, rfl, hK.sx (Sx.same (s1.trans s3)), hg, s3 _ _ g1, s3 _ _ g2, rx1.sx (Sx.same s3), rx2.sx (Sx.same s3), Nat.le_trans ll (Nat.le_trans l4 (by decide)), hM3, fun H4 fl s4 nfl res => ?_⟩
            walk_at "g"
            rw [← el] at res
            have s34 := s3.trans s4
            cases e2 : LPt f sz p t l with
            | none =>
              rw [e2] at res
              have r' : H4 fl = some (.lst []) := res
              refine ⟨false, .inl ⟨_, SqL.of r', rfl⟩, ?_⟩
              walk_at "g"
              exact ⟨⟨_, _, rfl⟩, s34, next e2⟩
            | some pr =>
              rw [e2] at res
              obtain ⟨w1, w2, r1, r2, r3⟩ := id res
              refine ⟨true, .inl ⟨_, SqL.of r1, rfl⟩, ?_⟩
              walk_at "g"
              refine q _ fl (s1.trans s34) ((s1.trans s3).free nfl) ?_
              have e3 : (List.range (p + 1)).findSome? (LPt f sz p t) = some pr := rng_some hl' e2 fun u hu => List.findSome?_eq_none_iff.mp hno2 u (List.mem_range.mpr hu)
              rw [show LP f sz p = some pr from rng_some ht' e3 fun u hu => List.findSome?_eq_none_iff.mp hno u (List.mem_range.mpr hu)]
              exact res
          · refine ⟨⟨_, _, rfl⟩, s3, next (if_neg fun z => c2 (decide_eq_true ?_))⟩
            show (t : Int) - (l : Int) ≤ (p : Int)
            omega
        · refine ⟨⟨_, _, rfl⟩, s3, next (if_neg fun z => c (decide_eq_true ?_))⟩
          show (0 : Int) ≤ (t : Int) - (l : Int)
          omega
      · obtain ⟨⟨y5, y6, rfl⟩, s3, hno2⟩ := pz
        rw [show ((p : Int) + 1).toNat = p + 1 by omega] at hno2
        refine ⟨⟨_, _, _, rfl⟩, s3, ?_⟩
        rw [List.range_succ (n := t), List.findSome?_append, hno, List.findSome?_cons, hno2]
        rfl
    · obtain ⟨⟨y4, y5, y6, rfl⟩, s2, hno⟩ := pz
      rw [show ((2 : Int) * (p : Int) + 1).toNat = 2 * p + 1 by omega] at hno
      walk_at "g"
      refine ⟨szK rfl, fun l hl => ?_⟩
      refine q _ l ((s1.trans s2).trans (same_new hl)) ((s1.trans s2).free hl) ?_
      rw [show LP f sz p = none from hno]
      exact upd_same
end
end D

namespace D
open PySem PySem.Spec PyProof.Rows L2
local macro_rules | `(tactic| walk_at "st") => `(tactic| first | exact SqT.of (by assumption) | exact Or.inl (by assumption) | exact SqT.of upd_same | fail "st")
local macro_rules | `(tactic| walk_at "ixt") => `(tactic| refine ⟨_, _, _, _, rfl, rfl, (by walk_at "st" : SqT _ _ _ _), by rfl, ?_⟩)
local macro_rules | `(tactic| walk_at "sq") => `(tactic| first | exact SqL.of (by assumption) | assumption | exact Or.inl (by assumption) | exact SqL.of upd_same | fail "sq")
local macro_rules | `(tactic| walk_at "ix") => `(tactic| refine ⟨_, _, _, _, rfl, rfl, (by walk_at "sq" : SqL _ _ _ _), by rfl, ?_⟩)
local macro_rules | `(tactic| walk_at "set") => `(tactic| refine ⟨_, _, _, _, rfl, rfl, by first | assumption | exact upd_same, by rfl, ?_⟩)
local macro_rules | `(tactic| walk_at "len") => `(tactic| refine ⟨_, _, rfl, Or.inl (by walk_at "sq" : SqL _ _ _ _), ?_⟩)
local macro_rules | `(tactic| walk_at "g") => `(tactic| repeat (first | refine ⟨_, rfl, ?_⟩ | refine ⟨_, _, rfl, rfl, ?_⟩ | refine ⟨Or.inr (by decide), ?_⟩ | refine ⟨Or.inl (by decide), ?_⟩ | refine ⟨(by decide : (0 : Int) < _), ?_⟩ | refine ⟨(⟨by decide, by decide⟩ : CDiv _ _), ?_⟩ | refine ⟨(⟨by decide, by decide, by decide⟩ : CPow _ _), ?_⟩ | refine Or.inl ⟨_, rfl, ?_⟩ | refine ⟨rfl, ?_⟩ | walk_at "ix" | walk_at "ixt" | walk_at "len" | fail "g"))
local macro_rules | `(tactic| walk_at "if") => `(tactic| refine ite2 (fun e => ?_) (fun e => ?_))
section
variable {P : Program} {w : World} {K : PySem.W.Frag} {mg : Str → Option Value} {base : Heap}
def sp_ti2 : Sp := fun vs H Q _ => ∃ (v1 v2 : V) (ns : List Int) (M : Ms), vs = [v1, v2] ∧ RowAt M H v1 ns ∧ RowAt M H v2 ns ∧ ns.length ≤ 5 ∧ Q (.bl true) H
theorem ok_ti2 (T : Txt K mg) : FnOk P w K mg base CX0 2 T.f__law_told_items T.d__law_told_items ["_law_told", "_law_due"] (sp_ti2) := by
  have G__law_number := ok_number (P := P) (w := w) (base := base) T
  refine T.F__law_told_items.ok sc__law_told_items (fun vs H Q E h => ?_) (fun cdv A outer s H vs Q E hr h => ?_)
  · obtain ⟨_, _, _, _, rfl, _⟩ := h
    rfl
  · obtain ⟨v1, v2, ns, M, rfl, h1, h2, h5, q⟩ := h
    obtain ⟨a, rfl, na, ha⟩ := h1
    obtain ⟨b, rfl, nb, hb⟩ := h2
    refine ⟨_, (pss_cons (ps_if (PW.pt (pw_or (pt_not (pt_val (pe_callB (call_isi1K (K := K) rfl) (by rfl) T.m_isinstance (by decide +kernel) (pa_cons (pv 0) (pa_cons (pe_bltn (v := .ty "tuple") (u := .type "tuple") (by rfl) T.m_tuple (by decide +kernel) rfl) pa_nil))))) (pw_or1 (pt_cmpR op_ne (pe_callB (call_lenK (K := K) rfl) (by rfl) T.m_len PySem.boot_len (pa_cons (pv 0) pa_nil)) (pe_callB (call_lenK (K := K) rfl) (by rfl) T.m_len PySem.boot_len (pa_cons (pv 1) pa_nil)) (nomark _))))) (pss_one (ps_ret pe_bl)) pss_nil)
      (pss_cons (ps_for PassesOwn.never rfl (pi_range1 (by rfl) T.m_range (pa_cons (pe_callB (call_lenK (K := K) rfl) (by rfl) T.m_len PySem.boot_len (pa_cons (pv 1) pa_nil)) pa_nil)) (pg_name (i := 2) sc__law_told_items.nd rfl (Or.inl rfl)) (pss_one (ps_if (PW.pt (pw_or (pt_not (pt_val (pe_call G__law_number (hr.mono (by omega)) (by rfl) T.g__law_number T.F__law_number.kp T.b__law_number .nil pass0 (pa_cons (pe_ix (ix_tupK (K := K) rfl) (pv 0) (pv 2) (fun _ _ => rfl)) pa_nil)))) (pw_or1 (pt_cmpR op_ne (pe_ix (ix_tupK (K := K) rfl) (pv 0) (pv 2) (fun _ _ => rfl)) (pe_ix (ix_tupK (K := K) rfl) (pv 1) (pv 2) (fun _ _ => rfl)) (nomark _))))) (pss_one (ps_ret pe_bl)) pss_nil)))
      (pss_one (ps_ret pe_bl)))), ?_⟩
    walk_at "g"
    refine ⟨_, _, _, _, true, rfl, .ty _, rd_ty ha, kit_ty (by decide +kernel), ?_⟩
    walk_at "g"
    refine ⟨_, _, rfl, .inr (.inl ha), ?_⟩
    walk_at "g"
    refine ⟨_, _, rfl, .inr (.inl hb), ?_⟩
    walk_at "g"
    rw [decide_eq_true (show V.int ((ns.map V.int).length : Int) = V.int ((ns.map V.int).length : Int) from rfl)]
    have hl : (ns.map V.int).length = ns.length := List.length_map _
    walk_at "g"
    refine ⟨_, _, rfl, .inr (.inl hb), ?_⟩
    walk_at "g"
    refine ⟨by omega, by omega, ?_⟩
    refine for_range (lo := 0) (n := ((ns.map V.int).length : Int).toNat) (fun i σ H' => (∃ y2, σ = [some (.ref a), some (.ref b), y2]) ∧ H' = H) ⟨⟨_, rfl⟩, rfl⟩ (fun i σ H' hi p => ?_) (fun σ H' p => ?_)
    · obtain ⟨⟨y2, rfl⟩, rfl⟩ := p
      have hi' : i < ns.length := by omega
      have at0 : atI (ns.map V.int) (i : Int) = some (.int ns[i]) := atI_nat (by rw [List.getElem?_map, List.getElem?_eq_getElem hi']; rfl)
      rw [Int.zero_add]
      walk_at "g"
      refine ⟨_, _, _, _, rfl, rfl, .inl ha, at0, ?_⟩
      walk_at "g"
      refine ⟨_, _, _, _, rfl, rfl, .inl ha, at0, ?_⟩
      walk_at "g"
      refine ⟨_, _, _, _, rfl, rfl, .inl hb, at0, ?_⟩
      walk_at "g"
      rw [decide_eq_true (show V.int ns[i] = V.int ns[i] from rfl)]
      walk_at "g"
      exact ⟨⟨_, rfl⟩, rfl⟩
    · obtain ⟨⟨y2, rfl⟩, rfl⟩ := p
      walk_at "g"
      exact q
def sp_plain : Sp := fun vs H Q _ => ∃ (k : V) (f : Fm) (s p : Nat) (M : Ms), vs = [k, .int s, .int p] ∧ Rp M H k f.enc ∧ goodKey f ∧ s ≤ 4 ∧ p ≤ 4 ∧ Mk M H ∧ ∀ H' b, Same H H' → (b = true ↔ Plain f s p) → Q (.bl b) H'
theorem ok_plain (T : Txt K mg) : FnOk P w K mg base CX0 7 T.f__law_plain T.d__law_plain ["_law_form_here", "_law_size", "_law_places"] sp_plain := by
  have G__law_value := ok_law_value (P := P) (w := w) (base := base) T 5
  refine T.F__law_plain.ok sc__law_plain (fun vs H Q E h => ?_) (fun cdv A outer s H vs Q E hr h => ?_)
  · obtain ⟨_, _, _, _, _, rfl, _⟩ := h
    rfl
  · obtain ⟨k, f, sz, p, M, rfl, hK, hg, hs, hp, hM, q⟩ := h
    refine ⟨_, (pss_cons (ps_set (i := 3) sc__law_plain.nd rfl (Or.inl rfl) (pe_ifExp (pt_cmpR op_lt (pv 2) (pv 1) (nomark _)) (pv 2) (pv 1)))
      (pss_cons (ps_set (i := 4) sc__law_plain.nd rfl (Or.inl rfl) (pe_lst pa_nil))
      (pss_cons (ps_for PassesOwn.never rfl (pi_range1 (by rfl) T.m_range (pa_cons (pv 1) pa_nil)) (pg_name (i := 5) sc__law_plain.nd rfl (Or.inl rfl)) (pss_cons (ps_set (i := 6) sc__law_plain.nd rfl (Or.inl rfl) (pe_call G__law_value (hr.mono (by omega)) (by rfl) T.g__law_value T.F__law_value.kp T.b__law_value .nil pass0 (pa_cons (pv 0) (pa_cons (pe_disp (pps_cons pe_str (pv 5) (pps_cons pe_str pe_int pps_nil)) (by rfl) (by rfl) (fun z => by cases z) (by decide)) pa_nil))))
      (pss_cons (ps_for PassesOwn.never rfl (pi_range1 (by rfl) T.m_range (pa_cons (pv 3) pa_nil)) (pg_name (i := 7) sc__law_plain.nd rfl (Or.inl rfl)) (pss_one (ps_if (pt_cmpR op_ne (pe_call G__law_value (hr.mono (by omega)) (by rfl) T.g__law_value T.F__law_value.kp T.b__law_value .nil pass0 (pa_cons (pv 0) (pa_cons (pe_disp (pps_cons pe_str (pv 5) (pps_cons pe_str (pv 7) pps_nil)) (by rfl) (by rfl) (fun z => by cases z) (by decide)) pa_nil))) (pv 6) (nomark _)) (pss_one (ps_ret pe_bl)) pss_nil)))
      (pss_cons (ps_if (pt_cmpR (op_in_seqK (K := K) rfl) (pv 6) (pv 4) (by rfl)) (pss_one (ps_ret pe_bl)) pss_nil)
      (pss_one (ps_expr (pe_bmK2 (K := K) rfl PySem.F.plainAttrs_list PySem.F.slot_list_append PySem.F.type_list_append mt_append (pv 4) (pa_cons (pv 6) pa_nil))))))))
      (pss_one (ps_ret pe_bl))))), ?_⟩
    let mst : Nat := if p < sz then p else sz
    with_reducible refine seq_join (fun σ H' => σ = [some k, some (.int sz), some (.int p), some (.int mst), none, none, none, none] ∧ H' = H) (fun hN => ?_) (fun σ H' c => ?_)
    · walk_at "g"
      refine ite2 (fun c => ?_) (fun c => ?_)
      · refine ⟨_, rfl, hN _ _ ⟨?_, rfl⟩⟩
        have : p < sz := by have := of_decide_eq_true c; omega
        show _ = [some k, some (.int sz), some (.int p), some (.int ((if p < sz then p else sz : Nat) : Int)), none, none, none, none]
        rw [if_pos this]
        rfl
      · refine ⟨_, rfl, hN _ _ ⟨?_, rfl⟩⟩
        have : ¬ p < sz := fun z => c (decide_eq_true (by omega))
        show _ = [some k, some (.int sz), some (.int p), some (.int ((if p < sz then p else sz : Nat) : Int)), none, none, none, none]
        rw [if_neg this]
        rfl
    obtain ⟨rfl, eh⟩ := c
    have eh := eh.symm
    subst eh
    have lm : mst ≤ 4 := by
      show (if p < sz then p else sz) ≤ 4
      split <;> omega
    have PL : Plain f sz p = ((∀ (x : Nat) (a : Nat), x < sz → a < mst → kval f (x : Int) (a : Nat) = kval f (x : Int) 0) ∧ ∀ x y : Nat, x < sz → y < x → kval f (y : Int) 0 ≠ kval f (x : Int) 0) := rfl
    generalize mst = m at *
    walk_at "g"
    refine ⟨szK rfl, fun L hL => ?_⟩
    walk_at "g"
    refine ⟨by omega, by omega, ?_⟩
    let ws : Nat → List Int := fun i => (List.range i).map fun (x : Nat) => kval f (x : Int) 0
    refine for_range (lo := 0) (n := (sz : Int).toNat) (fun i σ H' => (∃ y5 y6 y7, σ = [some k, some (.int sz), some (.int p), some (.int m), some (.ref L), y5, y6, y7]) ∧ Same H' H' ∧ Same H H' ∧ H' L = some (.lst ((ws i).map V.int)) ∧ (∀ (x : Nat) (a : Nat), x < i → a < m → kval f (x : Int) (a : Nat) = kval f (x : Int) 0) ∧ ∀ x y : Nat, x < i → y < x → kval f (y : Int) 0 ≠ kval f (x : Int) 0)
      ⟨⟨_, _, _, rfl⟩, Same.refl _, same_new hL, upd_same, fun x a h => absurd h (by omega), fun x y h => absurd h (by omega)⟩ (fun i σ H2 hi pz => ?_) (fun σ H2 pz => ?_)
    · obtain ⟨⟨y5, y6, y7, rfl⟩, _, s1, eL, h1, h2⟩ := pz
      have hi' : i < sz := by omega
      rw [Int.zero_add]
      walk_at "g"
      intro d hd
      walk_at "g"
      refine ⟨upd_same, [(Sum.inr sItem, .int (i : Nat)), (Sum.inr sAt, .int 0)], rfl, (by show 2 ≤ 15; decide), ?_⟩
      rw [upd_upd]
      have s2 := same_new (o := .dK (mergeK [] [((Sum.inr sItem : Key), V.int (i : Nat)), (Sum.inr sAt, V.int 0)])) hd
      refine ⟨k, d, f, M, _, rho (i : Nat) 0, isKN, rfl, hK.sx (Sx.same (s1.trans s2)), hg.1, hg.2, upd_same, env_kvs (i : Nat) 0, ?_⟩
      have eL2 := s2 _ _ eL
      have s12 := s1.trans s2
      generalize upd H2 d _ = H3 at s2 eL2 s12
      walk_at "g"
      refine ⟨by omega, by omega, ?_⟩
      refine for_range (lo := 0) (n := (m : Int).toNat) (fun j σ H4 => (∃ y7, σ = [some k, some (.int sz), some (.int p), some (.int m), some (.ref L), some (.int (i : Nat)), some (.int (kval f (i : Int) 0)), y7]) ∧ Same H3 H4 ∧ ∀ a : Nat, a < j → kval f (i : Int) (a : Nat) = kval f (i : Int) 0)
        ⟨⟨_, rfl⟩, Same.refl _, fun a h => absurd h (by omega)⟩ (fun j σ H4 hj pz => ?_) (fun σ H4 pz => ?_)
      · obtain ⟨⟨y7, rfl⟩, s3, h3⟩ := pz
        have hj' : j < m := by omega
        rw [Int.zero_add]
        walk_at "g"
        intro d2 hd2
        walk_at "g"
        refine ⟨upd_same, [(Sum.inr sItem, .int (i : Nat)), (Sum.inr sAt, .int (j : Nat))], rfl, (by show 2 ≤ 15; decide), ?_⟩
        rw [upd_upd]
        have s4 := same_new (o := .dK (mergeK [] [((Sum.inr sItem : Key), V.int (i : Nat)), (Sum.inr sAt, V.int (j : Nat))])) hd2
        refine ⟨k, d2, f, M, _, rho (i : Nat) (j : Nat), isKN, rfl, hK.sx (Sx.same ((s12.trans s3).trans s4)), hg.1, hg.2, upd_same, env_kvs (i : Nat) (j : Nat), ?_⟩
        have s34 := s3.trans s4
        generalize upd H4 d2 _ = H5 at s34
        walk_at "g"
        refine ite2 (fun c => ?_) (fun c => ?_)
        · walk_at "g"
          refine q _ _ (s12.trans s34) ?_
          rw [PL]
          constructor
          · intro z; cases z
          · rintro ⟨z, _⟩
            have zz := z i j hi' hj'
            have zz' : Fm.val (rho (i : Int) (j : Int)) f = kval f (i : Int) 0 := zz
            rw [zz'] at c
            simp at c
        · refine ⟨⟨_, rfl⟩, s34, fun a ha => ?_⟩
          by_cases ca : a = j
          · subst ca
            by_cases z : kval f (i : Int) (a : Nat) = kval f (i : Int) 0
            · exact z
            · exfalso
              apply c
              have z' : ¬ V.int (Fm.val (rho (i : Int) (a : Int)) f) = V.int (kval f (i : Int) 0) := fun y => z (V.int.inj y)
              rw [decide_eq_false z']
              rfl
          · exact h3 a (by omega)
      · obtain ⟨⟨y7, rfl⟩, s3, h3⟩ := pz
        rw [Int.toNat_natCast] at h3
        have eL4 := s3 _ _ eL2
        walk_at "g"
        refine ⟨flat_ints _, ?_⟩
        rw [in_ints]
        by_cases cm : kval f (i : Int) 0 ∈ ws i
        · rw [decide_eq_true cm]
          walk_at "g"
          refine q _ _ (s12.trans s3) ?_
          rw [PL]
          constructor
          · intro z; cases z
          · rintro ⟨_, z⟩
            obtain ⟨y, hy, e⟩ := List.mem_map.mp cm
            exact absurd e (z i y hi' (List.mem_range.mp hy))
        · have c' : kval f (i : Int) 0 ∉ ws i := cm
          rw [decide_eq_false cm]
          walk_at "g"
          refine ⟨.inl ⟨rfl, _, SqL.of eL4⟩, ?_⟩
          walk_at "g"
          refine ⟨L, _, .int (kval f (i : Int) 0), rfl, rfl, eL4, small1000000 (by rw [List.length_map]; show (List.map _ _).length ≤ _; rw [List.length_map, List.length_range]; omega), ?_⟩
          refine ⟨⟨_, _, _, rfl⟩, Same.refl _, same_put (s12.trans s3) hL, ?_, fun x a hx ha => ?_, fun x y hx hy => ?_⟩
          · rw [upd_same]
            show _ = some (HO.lst (List.map V.int (List.map _ (List.range (i + 1)))))
            rw [List.range_succ, List.map_append, List.map_append]
            rfl
          · by_cases cx : x = i
            · subst cx
              exact h3 a ha
            · exact h1 x a (by omega) ha
          · by_cases cx : x = i
            · subst cx
              intro z
              exact c' (List.mem_map.mpr ⟨y, List.mem_range.mpr hy, z⟩)
            · exact h2 x y (by omega) hy
    · obtain ⟨⟨y5, y6, y7, rfl⟩, _, s1, eL, h1, h2⟩ := pz
      rw [Int.toNat_natCast] at h1 h2
      walk_at "g"
      refine q _ _ s1 ?_
      rw [PL]
      exact ⟨fun _ => ⟨h1, h2⟩, fun _ => rfl⟩
end
end D

namespace D
open PySem PySem.Spec PyProof.Rows L2
local macro_rules | `(tactic| walk_at "st") => `(tactic| first | exact SqT.of (by assumption) | exact Or.inl (by assumption) | exact SqT.of upd_same | fail "st")
local macro_rules | `(tactic| walk_at "ixt") => `(tactic| refine ⟨_, _, _, _, rfl, rfl, (by walk_at "st" : SqT _ _ _ _), by rfl, ?_⟩)
local macro_rules | `(tactic| walk_at "sq") => `(tactic| first | exact SqL.of (by assumption) | assumption | exact Or.inl (by assumption) | exact SqL.of upd_same | fail "sq")
local macro_rules | `(tactic| walk_at "ix") => `(tactic| refine ⟨_, _, _, _, rfl, rfl, (by walk_at "sq" : SqL _ _ _ _), by rfl, ?_⟩)
local macro_rules | `(tactic| walk_at "set") => `(tactic| refine ⟨_, _, _, _, rfl, rfl, by first | assumption | exact upd_same, by rfl, ?_⟩)
local macro_rules | `(tactic| walk_at "len") => `(tactic| refine ⟨_, _, rfl, Or.inl (by walk_at "sq" : SqL _ _ _ _), ?_⟩)
local macro_rules | `(tactic| walk_at "g") => `(tactic| repeat (first | refine ⟨_, rfl, ?_⟩ | refine ⟨_, _, rfl, rfl, ?_⟩ | refine ⟨Or.inr (by decide), ?_⟩ | refine ⟨Or.inl (by decide), ?_⟩ | refine ⟨(by decide : (0 : Int) < _), ?_⟩ | refine ⟨(⟨by decide, by decide⟩ : CDiv _ _), ?_⟩ | refine ⟨(⟨by decide, by decide, by decide⟩ : CPow _ _), ?_⟩ | refine Or.inl ⟨_, rfl, ?_⟩ | refine ⟨rfl, ?_⟩ | walk_at "ix" | walk_at "ixt" | walk_at "len" | fail "g"))
local macro_rules | `(tactic| walk_at "if") => `(tactic| refine ite2 (fun e => ?_) (fun e => ?_))
section
variable {P : Program} {w : World} {K : PySem.W.Frag} {mg : Str → Option Value} {base : Heap}
def firstPr (f : Fm) (nss : List (List Int)) : Option RR := nss.findSome? fun o => nss.findSome? fun n => if badF f (o, n) = true then some (o, n) else none
theorem parted_iff {mark : IP} {x : Int} {N : List IP} {n : List Int} (l : N.length = n.length) : parted mark x N n = true ↔ ∃ (j : Nat) (p : IP) (y : Int), N[j]? = some p ∧ n[j]? = some y ∧ decide (p = mark) ≠ decide (y = x) := by
  unfold parted
  rw [decide_eq_true_iff]
  constructor
  · intro h
    by_cases c : ∃ (j : Nat) (p : IP) (y : Int), N[j]? = some p ∧ n[j]? = some y ∧ decide (p = mark) ≠ decide (y = x)
    · exact c
    · refine absurd (List.ext_getElem? fun j => ?_) h
      rw [List.getElem?_map, List.getElem?_map]
      by_cases hj : j < n.length
      · have en : n[j]? = some n[j] := List.getElem?_eq_getElem hj
        have eN : N[j]? = some (N[j]'(by omega)) := List.getElem?_eq_getElem _
        rw [en, eN]
        show some _ = some _
        congr 1
        by_cases d : decide (N[j]'(by omega) = mark) = decide (n[j] = x)
        · exact d
        · exact absurd ⟨j, _, _, eN, en, d⟩ c
      · rw [List.getElem?_eq_none (by omega), List.getElem?_eq_none (by omega)]
        rfl
  · rintro ⟨j, p, y, h1, h2, h3⟩ z
    have := congrArg (fun l => l[j]?) z
    rw [List.getElem?_map, List.getElem?_map, h1, h2] at this
    exact h3 (Option.some.inj this)
theorem pr_eq (f : Fm) (nss : List (List Int)) : firstBad f nss = firstPr f nss := by
  unfold firstBad firstPr cross
  rw [find_flat]
  congr 1
  funext o
  exact find_pair f o nss
theorem fs_map {α β γ : Type} {F : α → Option β} {G : α → Option γ} {g : β → γ} : ∀ {l : List α}, (∀ x ∈ l, (F x).map g = G x) → (l.findSome? F).map g = l.findSome? G
  | [], _ => rfl
  | x :: l, h => by
    rw [List.findSome?_cons, List.findSome?_cons]
    have hx := h x List.mem_cons_self
    have hl := fs_map (l := l) fun y hy => h y (List.mem_cons_of_mem _ hy)
    cases e : F x with
    | none =>
      rw [e] at hx
      rw [← hx]
      exact hl
    | some b =>
      rw [e] at hx
      rw [← hx]
      rfl
theorem tri1_spec {f : Fm} {o n : List Int} {t : Tri} (h : tri1 f o n = some t) : ∃ (i : Nat) (x : Int) (mark : IP), o[i]? = some x ∧ (ids f o)[i]? = some mark ∧ parted mark x (ids f n) n = true ∧ t = (o, x, n) := by
  obtain ⟨a, ha, e⟩ := List.exists_of_findSome?_eq_some h
  obtain ⟨i, hi⟩ := List.mem_iff_getElem?.mp ha
  rw [List.getElem?_zip_eq_some] at hi
  unfold tri0 at e
  by_cases c : parted a.2 a.1 (ids f n) n = true
  · rw [if_pos c] at e
    exact ⟨i, a.1, a.2, hi.1, hi.2, c, (Option.some.inj e).symm⟩
  · rw [if_neg c] at e
    cases e
theorem tri1_pr {f : Fm} {o n : List Int} (go : goodRow o) : (tri1 f o n).map (fun t => (t.1, t.2.2)) = if badF f (o, n) = true then some (o, n) else none := by
  have iff := bad_iff (N := ids f n) (n := n) go.2.1 (idp_nodup _ : (ids f o).Nodup) (ids_len f o) (ids_len f n)
  cases e : tri1 f o n with
  | none =>
    have c : ¬ badF f (o, n) = true := fun z => by
      obtain ⟨i, j, x, y, u, v, h1, h2, h3, h4, h5⟩ := iff.mp z
      have pp : parted u x (ids f n) n = true := (parted_iff (ids_len f n)).mpr ⟨j, v, y, h4, h2, fun w => h5 (by
        rw [decide_eq_decide] at w ⊢
        exact ⟨fun q => (w.mp q.symm).symm, fun q => (w.mpr q.symm).symm⟩)⟩
      have hm : (x, u) ∈ o.zip (ids f o) := List.mem_of_getElem? (zip_at h1 h3)
      have := List.findSome?_eq_none_iff.mp e _ hm
      rw [show tri0 f o n (x, u) = some (o, x, n) from if_pos pp] at this
      cases this
    rw [if_neg c]
    rfl
  | some t =>
    obtain ⟨i, x, mark, h1, h2, h3, rfl⟩ := tri1_spec e
    obtain ⟨j, p, y, h4, h5, h6⟩ := (parted_iff (ids_len f n)).mp h3
    have c : badF f (o, n) = true := iff.mpr ⟨i, j, x, y, mark, p, h1, h5, h2, h4, fun w => h6 (by
      rw [decide_eq_decide] at w ⊢
      exact ⟨fun q => (w.mp q.symm).symm, fun q => (w.mpr q.symm).symm⟩)⟩
    rw [if_pos c]
    rfl
theorem tri_pr {f : Fm} {nss : List (List Int)} (g : ∀ o ∈ nss, goodRow o) : (firstTri f nss).map (fun t => (t.1, t.2.2)) = firstPr f nss := by
  unfold firstTri firstPr
  exact fs_map fun o ho => fs_map fun n _ => tri1_pr (g o ho)
theorem KeyAt.less {C : Addr} {M N : Ms} {H : Hp} {k : V} {f : Fm} (h : KeyAt C M H k f) (g : ∀ a, N a → M a) : KeyAt C N H k f := by
  obtain ⟨a, dx, u, e, n, h1, h2, h3⟩ := h
  exact ⟨a, dx, u, e, fun z => n (g _ z), h1, h2.less g, h3⟩
theorem MenuAt.less {M N : Ms} {H : Hp} {v : V} {nss : List (List Int)} (h : MenuAt M H v nss) (g : ∀ a, N a → M a) : MenuAt N H v nss := by
  obtain ⟨m, xs, e, n, r, l, l8, z⟩ := h
  refine ⟨m, xs, e, fun y => n (g _ y), r, l, l8, fun i ns hi => ?_⟩
  obtain ⟨w, hw, q, gg⟩ := z i ns hi
  exact ⟨w, hw, q.less g, gg⟩
def M0 : Ms := fun _ => False
theorem mk0 {H : Hp} : Mk M0 H := fun _ h => h.elim
theorem le0 {M : Ms} : ∀ a, M0 a → M a := fun _ h => h.elim
theorem szK2 {o n : List Int} : [o, n].length ≤ 8 := by show 2 ≤ 8; decide
theorem pair_menu {M : Ms} {H : Hp} {t : Addr} {w1 w2 : V} {o n : List Int} (nt : ¬ M t) (ht : H t = some (.tup [w1, w2])) (q1 : RowF M H w1 o) (q2 : RowF M H w2 n) (go : goodRow o) (gn : goodRow n) : MenuAt M H (.ref t) [o, n] := by
  refine ⟨t, [w1, w2], rfl, nt, .inl ht, rfl, szK2, fun i ns hi => ?_⟩
  match i, hi with
  | 0, hi => cases hi; exact ⟨w1, rfl, q1, go⟩
  | 1, hi => cases hi; exact ⟨w2, rfl, q2, gn⟩
  | i + 2, hi => simp at hi
theorem up_good {s p : Nat} {n : List Int} (hs : s ≤ 4) (hp : p ≤ 4) (h : n ∈ rowsUp s p) : goodRow n := by
  obtain ⟨h1, h2, h3⟩ := mem_rowsUp.mp h
  exact ⟨by omega, h2, fun x hx => by have := h3 x hx; omega⟩
theorem none_menu {f : Fm} {s p : Nat} {nss : List (List Int)} (h : LP f s p = none) (hn : ∀ n ∈ nss, n ∈ rowsUp s p) : firstPr f nss = none := by
  unfold firstPr
  refine List.findSome?_eq_none_iff.mpr fun o ho => List.findSome?_eq_none_iff.mpr fun n hn2 => ?_
  have := LP_none h (hn o ho) (hn n hn2)
  exact if_neg (by rw [this]; exact Bool.false_ne_true)
theorem pair_first {f : Fm} {o n : List Int} (h1 : badF f (o, o) = false) (h2 : badF f (o, n) = true) : firstBad f [o, n] = some (o, n) := by
  unfold firstBad cross
  show List.find? (badF f) [(o, o), (o, n), (n, o), (n, n)] = _
  rw [List.find?_cons, h1, List.find?_cons, h2]
def sp_right28 (T : Txt K mg) : Sp := fun vs H Q _ => ∃ (kv k mv : V) (f : Fm) (s p : Nat) (nss : List (List Int)) (M : Ms), vs = [kv, k, .int s, .int p, mv] ∧ KeyAt T.C_Key M H kv f ∧ Rp M H k f.enc ∧ goodKey f ∧ 1 ≤ s ∧ s ≤ 4 ∧ 1 ≤ p ∧ p ≤ 4 ∧ MenuAt M H mv nss ∧ (∀ n ∈ nss, n ∈ rowsUp s p) ∧ ∀ H', Same H H' → Q (.bl true) H'
theorem ok_right28 (T : Txt K mg) : FnOk P w K mg base CX0 16 T.f__law_right T.d__law_right ["_law_key", "_law_form_here", "_law_size", "_law_places", "_law_menu"] (sp_right28 T) := by
  have G__law_least := ok_least (P := P) (w := w) (base := base) T
  have G_least_pair := ok_lpair (P := P) (w := w) (base := base) T
  have G__law_plain := ok_plain (P := P) (w := w) (base := base) T
  have G_faithful := ok_faithful (P := P) (w := w) (base := base) T
  have G_least_parting := ok_lp (P := P) (w := w) (base := base) T
  have G__law_told_items := ok_ti2 (P := P) (w := w) (base := base) T
  refine T.F__law_right.ok sc__law_right (fun vs H Q E h => ?_) (fun cdv A outer s H vs Q E hr h => ?_)
  · obtain ⟨_, _, _, _, _, _, _, _, rfl, _⟩ := h
    rfl
  · obtain ⟨kv, k, mv, f, sz, p, nss, M, rfl, hKey, hK, hg, hs1, hs, hp1, hp, hMe, hin, q⟩ := h
    have hKey := hKey.less (N := M0) le0
    have hK := hK.less (N := M0) le0
    have hMe := hMe.less (N := M0) le0
    refine ⟨_, (pss_cons (ps_set (i := 5) sc__law_right.nd rfl (Or.inl rfl) (pe_call G__law_least (hr.mono (by omega)) (by rfl) T.g__law_least T.F__law_least.kp T.b__law_least .nil pass0 (pa_cons (pv 1) (pa_cons (pv 2) (pa_cons (pv 3) pa_nil)))))
      (pss_cons (ps_set (i := 6) sc__law_right.nd rfl (Or.inl rfl) (pe_call G_least_pair (hr.mono (by omega)) (by rfl) T.g_least_pair T.F_least_pair.kp T.b_least_pair .nil pass0 (pa_cons (pv 0) (pa_cons (pv 2) (pa_cons (pv 3) pa_nil)))))
      (pss_cons (ps_if (pt_cmpR op_ne (pe_cmpR op_isN (pv 6) pe_non (nomark _)) (pe_call G__law_plain (hr.mono (by omega)) (by rfl) T.g__law_plain T.F__law_plain.kp T.b__law_plain .nil pass0 (pa_cons (pv 1) (pa_cons (pv 2) (pa_cons (pv 3) pa_nil)))) (nomark _)) (pss_one (ps_ret pe_bl)) pss_nil)
      (pss_cons (ps_if (pt_cmpR op_isN (pv 6) pe_non (nomark _)) (pss_one (ps_ret (pe_and (pe_notTK (K := K) rfl (pv 5)) (pe_and (pe_cmpR op_isN (pe_call G_faithful (hr.mono (by omega)) (by rfl) T.g_faithful T.F_faithful.kp T.b_faithful .nil pass0 (pa_cons (pv 0) (pa_cons (pv 4) pa_nil))) pe_non (nomark _)) (pe_one (pe_cmpR op_isN (pe_call G_least_parting (hr.mono (by omega)) (by rfl) T.g_least_parting T.F_least_parting.kp T.b_least_parting .nil pass0 (pa_cons (pv 0) (pa_cons (pv 4) pa_nil))) pe_non (nomark _))))))) pss_nil)
      (pss_cons (ps_if (PW.pt (pw_or (pt_not (pt_truthK (K := K) rfl (pv 5) (by intro _; rfl))) (pw_or (pt_not (pt_val (pe_callB (call_isi1K (K := K) rfl) (by rfl) T.m_isinstance (by decide +kernel) (pa_cons (pv 6) (pa_cons (pe_bltn (v := .ty "tuple") (u := .type "tuple") (by rfl) T.m_tuple (by decide +kernel) rfl) pa_nil))))) (pw_or (pt_cmpR op_ne (pe_callB (call_lenK (K := K) rfl) (by rfl) T.m_len PySem.boot_len (pa_cons (pv 6) pa_nil)) pe_int (nomark _)) (pw_or1 (pt_cmpR op_ne (pe_callB (call_lenK (K := K) rfl) (by rfl) T.m_len PySem.boot_len (pa_cons (pe_ix (ix_listK (K := K) rfl) (pv 5) pe_int (fun _ _ => rfl)) pa_nil)) pe_int (nomark _))))))) (pss_one (ps_ret pe_bl)) pss_nil)
      (pss_cons (ps_if (PW.pt (pw_or (pt_not (pt_val (pe_call G__law_told_items (hr.mono (by omega)) (by rfl) T.g__law_told_items T.F__law_told_items.kp T.b__law_told_items .nil pass0 (pa_cons (pe_ix (ix_tupK (K := K) rfl) (pv 6) pe_int (fun _ _ => rfl)) (pa_cons (pe_ix (ix_listK (K := K) rfl) (pv 5) pe_int (fun _ _ => rfl)) pa_nil))))) (pw_or1 (pt_not (pt_val (pe_call G__law_told_items (hr.mono (by omega)) (by rfl) T.g__law_told_items T.F__law_told_items.kp T.b__law_told_items .nil pass0 (pa_cons (pe_ix (ix_tupK (K := K) rfl) (pv 6) pe_int (fun _ _ => rfl)) (pa_cons (pe_ix (ix_listK (K := K) rfl) (pv 5) pe_int (fun _ _ => rfl)) pa_nil)))))))) (pss_one (ps_ret pe_bl)) pss_nil)
      (pss_cons (ps_set (i := 7) sc__law_right.nd rfl (Or.inl rfl) (pe_call G_faithful (hr.mono (by omega)) (by rfl) T.g_faithful T.F_faithful.kp T.b_faithful .nil pass0 (pa_cons (pv 0) (pa_cons (pv 6) pa_nil))))
      (pss_cons (ps_if (PW.pt (pw_or (pt_not (pt_val (pe_callB (call_isi1K (K := K) rfl) (by rfl) T.m_isinstance (by decide +kernel) (pa_cons (pv 7) (pa_cons (pe_bltn (v := .ty "tuple") (u := .type "tuple") (by rfl) T.m_tuple (by decide +kernel) rfl) pa_nil))))) (pw_or1 (pt_cmpR op_ne (pe_callB (call_lenK (K := K) rfl) (by rfl) T.m_len PySem.boot_len (pa_cons (pv 7) pa_nil)) pe_int (nomark _))))) (pss_one (ps_ret pe_bl)) pss_nil)
      (pss_one (ps_ret (pe_and (pe_call G__law_told_items (hr.mono (by omega)) (by rfl) T.g__law_told_items T.F__law_told_items.kp T.b__law_told_items .nil pass0 (pa_cons (pe_ix (ix_tupK (K := K) rfl) (pv 7) pe_int (fun _ _ => rfl)) (pa_cons (pe_ix (ix_listK (K := K) rfl) (pv 5) pe_int (fun _ _ => rfl)) pa_nil))) (pe_one (pe_call G__law_told_items (hr.mono (by omega)) (by rfl) T.g__law_told_items T.F__law_told_items.kp T.b__law_told_items .nil pass0 (pa_cons (pe_ix (ix_tupK (K := K) rfl) (pv 7) pe_int (fun _ _ => rfl)) (pa_cons (pe_ix (ix_listK (K := K) rfl) (pv 5) pe_int (fun _ _ => rfl)) pa_nil))))))))))))))), ?_⟩
    walk_at "g"
    refine ⟨k, f, sz, p, M0, rfl, hK, hg, hs, hp, mk0, fun H1 l s1 nl res1 => ?_⟩
    walk_at "g"
    refine ⟨kv, f, sz, p, M0, rfl, hKey.sx (Sx.same s1), hs, hp, mk0, fun tv H2 s2 res2 => ?_⟩
    have s12 := s1.trans s2
    have nl0 : ¬ M0 l := fun z => z
    have pl := LP_plain (f := f) (s := sz) hp1
    cases e : LP f sz p with
    | none =>
      rw [e] at res1 res2
      cases (show tv = .non from res2)
      have el : H1 l = some (.lst []) := res1
      walk_at "g"
      refine ⟨k, f, sz, p, M0, rfl, hK.sx (Sx.same s12), hg, hs, hp, mk0, fun H3 b s3 hb => ?_⟩
      have hb' : b = true := hb.mpr (pl.mp e)
      subst hb'
      walk_at "g"
      refine ⟨false, .inl ⟨_, SqL.of (s3 _ _ (s2 _ _ el)), rfl⟩, ?_⟩
      walk_at "g"
      have s13 := s12.trans s3
      have goods : ∀ o ∈ nss, goodRow o := fun o ho => up_good hs hp (hin o ho)
      have ef := none_menu e hin
      have et : firstTri f nss = none := by
        have tp := tri_pr (f := f) goods
        rw [ef] at tp
        cases e3 : firstTri f nss with
        | none => rfl
        | some _ => rw [e3] at tp; cases tp
      refine ⟨kv, mv, f, nss, M0, rfl, hKey.sx (Sx.same s13), hMe.sx (Sx.same s13), mk0, fun v4 H4 s4 r4 => ?_⟩
      rw [pr_eq, ef] at r4
      cases (show v4 = .non from r4)
      have s14 := s13.trans s4
      walk_at "g"
      refine ⟨kv, mv, f, nss, M0, rfl, hKey.sx (Sx.same s14), hMe.sx (Sx.same s14), mk0, fun v5 H5 s5 r5 => ?_⟩
      rw [et] at r5
      cases (show v5 = .non from r5)
      walk_at "g"
      exact q _ (s14.trans s5)
    | some pr =>
      obtain ⟨o, n⟩ := pr
      rw [e] at res1 res2
      obtain ⟨u1, u2, el, r1, r2⟩ := res1
      obtain ⟨t, w1, w2, rfl, et, r3, r4⟩ := res2
      obtain ⟨ho, hn, hbad, _⟩ := LP_some e
      have lo := LP_one e
      have go := up_good hs hp ho
      have gn := up_good hs hp hn
      walk_at "g"
      refine ⟨k, f, sz, p, M0, rfl, hK.sx (Sx.same s12), hg, hs, hp, mk0, fun H3 b s3 hb => ?_⟩
      have hb' : b = false := by
        cases b with
        | false => rfl
        | true => rw [pl.mpr (hb.mp rfl)] at e; cases e
      subst hb'
      have s13 := s12.trans s3
      have el3 := s3 _ _ (s2 _ _ el)
      have et3 := s3 _ _ et
      have r1' := r1.sx (Sx.same (s2.trans s3))
      have r2' := r2.sx (Sx.same (s2.trans s3))
      have r3' := r3.sx (Sx.same s3)
      have r4' := r4.sx (Sx.same s3)
      obtain ⟨ou, oo, eu, _, hu, _⟩ := id r1'
      subst eu
      have i0 : atI [w1, w2] (0 : Int) = some w1 := rfl
      have i1 : atI [w1, w2] (1 : Int) = some w2 := rfl
      have j0 : atI [V.ref ou, u2] (0 : Int) = some (.ref ou) := rfl
      have j1 : atI [V.ref ou, u2] (1 : Int) = some u2 := rfl
      walk_at "g"
      refine ⟨true, .inl ⟨_, SqL.of el3, rfl⟩, ?_⟩
      walk_at "g"
      refine ⟨_, _, _, _, true, rfl, .ty _, rd_ty (.inl et3), kit_ty (by decide +kernel), ?_⟩
      walk_at "g"
      refine ⟨_, _, rfl, .inr (.inl (.inl et3)), ?_⟩
      walk_at "g"
      refine ⟨_, _, rfl, .inr (.inl (.inr ⟨oo, hu⟩)), ?_⟩
      walk_at "g"
      rw [show ((o, n).fst.map V.int).length = 1 by rw [List.length_map]; exact lo]
      walk_at "g"
      refine ⟨w1, .ref ou, o, M0, rfl, r3'.row, r1'.row, go.1, ?_⟩
      refine ⟨_, rfl, ?_⟩
      walk_at "g"
      refine ⟨w2, u2, n, M0, rfl, r4'.row, r2'.row, gn.1, ?_⟩
      refine ⟨_, rfl, ?_⟩
      walk_at "g"
      refine ⟨kv, .ref t, f, [o, n], M0, rfl, hKey.sx (Sx.same s13), pair_menu (fun z => z) et3 r3' r4' go gn, mk0, fun v4 H4 s4 r4 => ?_⟩
      have bo : badF f (o, o) = false := by
        obtain ⟨x, rfl⟩ : ∃ x, o = [x] := List.length_eq_one_iff.mp lo
        exact single_ok
      rw [pair_first bo hbad] at r4
      obtain ⟨t2, w3, w4, rfl, et4, r5, r6⟩ := r4
      have m0 : atI [w3, w4] (0 : Int) = some w3 := rfl
      have m1 : atI [w3, w4] (1 : Int) = some w4 := rfl
      have el4 := s4 _ _ el3
      walk_at "g"
      refine ⟨_, _, _, _, true, rfl, .ty _, rd_ty (.inl et4), kit_ty (by decide +kernel), ?_⟩
      walk_at "g"
      refine ⟨_, _, rfl, .inr (.inl (.inl et4)), ?_⟩
      walk_at "g"
      refine ⟨w3, .ref ou, o, M0, rfl, r5.row, (r1'.sx (Sx.same s4)).row, go.1, ?_⟩
      refine ⟨_, rfl, ?_⟩
      walk_at "g"
      refine ⟨w4, u2, n, M0, rfl, r6.row, (r2'.sx (Sx.same s4)).row, gn.1, ?_⟩
      exact q _ (s13.trans s4)
end
end D

namespace D
open PySem PySem.Spec PyProof.Rows L2
local macro_rules | `(tactic| walk_at "st") => `(tactic| first | exact SqT.of (by assumption) | exact Or.inl (by assumption) | exact SqT.of upd_same | fail "st")
local macro_rules | `(tactic| walk_at "ixt") => `(tactic| refine ⟨_, _, _, _, rfl, rfl, (by walk_at "st" : SqT _ _ _ _), by rfl, ?_⟩)
local macro_rules | `(tactic| walk_at "sq") => `(tactic| first | exact SqL.of (by assumption) | assumption | exact Or.inl (by assumption) | exact SqL.of upd_same | fail "sq")
local macro_rules | `(tactic| walk_at "ix") => `(tactic| refine ⟨_, _, _, _, rfl, rfl, (by walk_at "sq" : SqL _ _ _ _), by rfl, ?_⟩)
local macro_rules | `(tactic| walk_at "set") => `(tactic| refine ⟨_, _, _, _, rfl, rfl, by first | assumption | exact upd_same, by rfl, ?_⟩)
local macro_rules | `(tactic| walk_at "len") => `(tactic| refine ⟨_, _, rfl, Or.inl (by walk_at "sq" : SqL _ _ _ _), ?_⟩)
local macro_rules | `(tactic| walk_at "g") => `(tactic| repeat (first | refine ⟨_, rfl, ?_⟩ | refine ⟨_, _, rfl, rfl, ?_⟩ | refine ⟨Or.inr (by decide), ?_⟩ | refine ⟨Or.inl (by decide), ?_⟩ | refine ⟨(by decide : (0 : Int) < _), ?_⟩ | refine ⟨(⟨by decide, by decide⟩ : CDiv _ _), ?_⟩ | refine ⟨(⟨by decide, by decide, by decide⟩ : CPow _ _), ?_⟩ | refine Or.inl ⟨_, rfl, ?_⟩ | refine ⟨rfl, ?_⟩ | walk_at "ix" | walk_at "ixt" | walk_at "len" | fail "g"))
local macro_rules | `(tactic| walk_at "if") => `(tactic| refine ite2 (fun e => ?_) (fun e => ?_))
section
variable {P : Program} {w : World} {K : PySem.W.Frag} {mg : Str → Option Value} {base : Heap}
def sp_menu28 (K : PySem.W.Frag) : Sp := fun vs H Q _ => ∃ (b : Addr) (s p : Nat) (M : Ms), vs = [.ref b, .int s, .int p] ∧ Bag K M H b ∧ Mk M H ∧ s ≤ 4 ∧ p ≤ 4 ∧ ∀ v H' nss, Sx (one b) H H' → Gr H H' → Bag K M H' b → MenuAt M H' v nss → (∀ n ∈ nss, n ∈ rowsUp s p) → Q v H'
theorem ok_menu28 (T : Txt K mg) : FnOk P w K mg base CX0 5 T.f__law_menu_of T.d__law_menu_of ["_law_bag_here", "_law_size", "_law_places"] (sp_menu28 K) := by
  have G__law_all_rows := ok_all (P := P) (w := w) (base := base) T
  have G__law_pick := ok_pick (P := P) (w := w) (base := base) T
  have G__law_choice := ok_choice (P := P) (w := w) (base := base) T
  refine T.F__law_menu_of.ok sc__law_menu_of (fun vs H Q E h => ?_) (fun cdv A outer s H vs Q E hr h => ?_)
  · obtain ⟨_, _, _, _, rfl, _⟩ := h
    rfl
  · obtain ⟨b, sz, p, M, rfl, hB, hM, hs, hp, q⟩ := h
    refine ⟨_, (pss_cons (ps_set (i := 3) sc__law_menu_of.nd rfl (Or.inr rfl) (pe_lst pa_nil))
      (pss_cons (ps_for PassesOwn.never rfl (pi_listK (K := K) rfl (pe_call G__law_all_rows (hr.mono (by omega)) (by rfl) T.g__law_all_rows T.F__law_all_rows.kp T.b__law_all_rows .nil pass0 (pa_cons (pv 1) (pa_cons (pv 2) pa_nil)))) (pg_name (i := 4) sc__law_menu_of.nd rfl (Or.inl rfl)) (pss_one (ps_expr (pe_bmK2 (K := K) rfl PySem.F.plainAttrs_list PySem.F.slot_list_extend PySem.F.type_list_extend mt_extend (pv 3) (pa_cons (pv 4) pa_nil)))))
      (pss_one (ps_ret (pe_callTy (call_tupleK (K := K) rfl) (by rfl) T.m_tuple (by decide +kernel) (pa_cons (pe_lc (own := [("_law_step", 5)]) (g := gName 5) (tt := tYes) (by rfl) sc__law_menu_of.nd (pi_range1 (by rfl) T.m_range (pa_cons (pe_op op_add pe_int (pe_call G__law_pick (hr.mono (by omega)) (by rfl) T.g__law_pick T.F__law_pick.kp T.b__law_pick .nil pass0 (pa_cons (pv 0) (pa_cons pe_int pa_nil)))) pa_nil)) (blkOk_by (own := [("_law_step", 5)]) (N := ["_law_bag_here", "_law_size", "_law_places", "_law_rows", "_law_length", "_law_step"]) (sc := defScope s__law_menu_of) (by decide +kernel)) (fun _ _ _ _ _ => (pg_name (i := 5) sc__law_menu_of.nd rfl (Or.inl rfl))) (fun _ _ _ _ _ => pts_nil) (fun _ _ _ _ _ => (pe_call G__law_choice (hr.mono (by omega)) (by rfl) T.g__law_choice T.F__law_choice.kp T.b__law_choice .nil pass0 (pa_cons (pv 0) (pa_cons (pv 3) pa_nil))))) pa_nil)))))), ?_⟩
    walk_at "g"
    refine ⟨szK rfl, fun R hR => ?_⟩
    have s1 : Same H (upd H R (.lst [])) := same_new hR
    have eR : upd H R (.lst []) R = some (.lst []) := upd_same
    have hB1 : Bag K (also M R) (upd H R (.lst [])) b := (hB.more hR).same s1
    have hM1 : Mk (also M R) (upd H R (.lst [])) := (hM.gr (Gr.same s1)).also (ne_none eR)
    have bR : b ≠ R := fun z => hB.there (by rw [z]; exact hR)
    generalize upd H R (.lst []) = H1 at s1 eR hB1 hM1
    walk_at "g"
    refine ⟨sz, p, also M R, rfl, hs, hp, hM1, fun H2 L s2 nL hLs => ?_⟩
    obtain ⟨ls, eL, lls, all⟩ := hLs
    have hB2 := hB1.same s2
    have hM2 := hM1.gr (Gr.same s2)
    have eR2 := s2 _ _ eR
    have s12 := s1.trans s2
    have LR : L ≠ R := fun z => by rw [z, eR] at nL; cases nL
    refine ⟨_, rfl, ⟨_, .inl (.inl eL)⟩, ?_⟩
    refine for_list (K := K) (a := L) (xs := ls) (fun i σ H' => (∃ y4 y5, σ = [some (.ref b), some (.int sz), some (.int p), some (.ref R), y4, y5]) ∧ (Sx (one R) H2 H' ∧ Gr H2 H') ∧ ∃ acc, H' R = some (.lst acc) ∧ RowsAt goodRow (also M R) H' acc ((List.range i).flatMap (lon sz)))
      ⟨⟨_, _, rfl⟩, ⟨Sx.refl, Gr.refl⟩, _, eR2, .nil⟩ (fun i σ H' _ pp => .inl (.inl (pp.2.1.1 _ _ LR eL))) (fun i x σ H' hx pp => ?_) (fun σ H' pp => ?_)
    · obtain ⟨⟨y4, y5, rfl⟩, ⟨s3, g3⟩, acc, eR3, ra⟩ := pp
      have hi : i < p + 1 := by rw [← lls]; exact (List.getElem?_eq_some_iff.mp hx).1
      obtain ⟨a, xs, h1, h2, h3, rx⟩ := all i (by omega)
      rw [hx] at h1
      cases h1
      have aR : a ≠ R := fun z => h2.2 (.inr z)
      have la := ra.1
      have lx := rx.1
      have l1 : ((List.range i).flatMap (lon sz)).length ≤ i * 256 := by
        have := flat_len (lon sz) 256 (List.range i) fun x hx => Nat.le_trans (lon_len hs x) (by
          have := List.mem_range.mp hx
          exact Nat.le_trans (Nat.pow_le_pow_right (by decide) (show x ≤ 4 by omega)) (by decide))
        rw [List.length_range] at this
        exact this
      have l2 : (lon sz i).length ≤ 256 := Nat.le_trans (lon_len hs i) (Nat.le_trans (Nat.pow_le_pow_right (by decide) (show i ≤ 4 by omega)) (by decide))
      walk_at "g"
      refine ⟨.inl ⟨rfl, _, SqL.of eR3⟩, ?_⟩
      walk_at "g"
      refine ⟨R, a, acc, xs, rfl, rfl, eR3, s3 _ _ aR h3, Nat.le_of_lt (small1000000 (by omega)), ?_⟩
      have sp : Sx (also M R) H' (upd H' R (.lst (acc ++ xs))) := Sx.put (.inr rfl)
      refine ⟨⟨_, _, rfl⟩, ⟨s3.trans (Sx.put rfl), g3.trans Gr.upd⟩, _, upd_same, ?_⟩
      rw [List.range_succ, List.flatMap_append]
      refine (ra.append ?_).sx sp
      have e : List.flatMap (lon sz) [i] = lon sz i := by simp
      rw [e]
      exact rx.sx (s3.le fun c z => .inr z)
    · obtain ⟨⟨y4, y5, rfl⟩, ⟨s3, g3⟩, acc, eR3, ra⟩ := pp
      rw [lls] at ra
      have ra : RowsAt goodRow (also M R) H' acc (rowsUp sz p) := ra
      have hB3 : Bag K (also M R) H' b := hB2.keep s3 bR (fun c z => .inr z)
      have hM3 := hM2.gr g3
      have lup := up_len hs hp
      have la := ra.1
      have apos : 0 < acc.length := by
        rw [la]
        exact List.length_pos_of_mem (mem_rowsUp.mpr ⟨Nat.zero_le _, List.nodup_nil, fun _ h => nomatch h⟩ : [] ∈ rowsUp sz p)
      have s03 : Sx (one R) H H' := (Sx.same s12).trans s3
      have g03 := (Gr.same s12).trans g3
      walk_at "g"
      refine ⟨b, _, also M R, rfl, hB3, by decide, by decide, fun wv H4 h0 h1 hA hB4 => ?_⟩
      have s4 := hA.sx
      have g4 := At.gr hA hB4.there
      have eR4 := s4 _ _ bR.symm eR3
      have ra4 := ra.sx (s4.le (one_le hB3.w))
      have hM4 := hM3.gr g4
      walk_at "g"
      refine ⟨by omega, by omega, fun D hD => ?_⟩
      have RD : R ≠ D := fun z => by rw [z, hD] at eR4; cases eR4
      have bD : b ≠ D := fun z => hB4.there (by rw [z]; exact hD)
      refine rng_loop (lo := 0) (n := ((1 : Int) + wv).toNat) (fun i H5 => (Sx (also (one b) D) H4 H5 ∧ Gr H4 H5) ∧ Bag K (also (also M R) D) H5 b ∧ ∃ xs nss, H5 D = some (.lst xs) ∧ xs.length = i ∧ RowsAt (fun ns => goodRow ns ∧ ns ∈ rowsUp sz p) (also (also M R) D) H5 xs nss)
        ⟨⟨Sx.same (same_new hD), Gr.upd⟩, (hB4.more hD).same (same_new hD), [], [], upd_same, rfl, .nil⟩ (fun i H5 hi pz => ?_) (fun H5 pz => ?_)
      · obtain ⟨⟨s5, g5⟩, hB5, xs, nss, eD, lx, rx⟩ := pz
        have eR5 := s5 _ _ (fun z => z.elim (fun z => bR z.symm) (fun z => RD z)) eR4
        have ra5 : RowsAt goodRow (also (also M R) D) H5 acc (rowsUp sz p) := (ra4.fresh hD).sx (s5.le fun c z => z.elim (fun z => .inl (one_le hB4.w c z)) .inr)
        refine ⟨rfl, ?_⟩
        walk_at "g"
        refine ⟨b, R, acc, also (also M R) D, rfl, hB5, SqL.of eR5, bR.symm, apos, by omega, fun v H6 hv hA6 hB6 => ?_⟩
        have s6 := hA6.sx
        obtain ⟨ns, hns, qn, gn⟩ := ra5.mem hv
        have eD6 := s6 _ _ bD.symm eD
        have s6M : Sx (also (also M R) D) H5 H6 := s6.le (one_le hB5.w)
        have sp : Sx (also (also M R) D) H6 (upd H6 D (.lst (xs ++ [v]))) := Sx.put (.inr rfl)
        refine ⟨xs, eD6, small1000000 (by omega), ⟨(s5.trans (s6.le fun c z => .inl z)).trans (Sx.put (.inr rfl)), (g5.trans (At.gr hA6 hB6.there)).trans Gr.upd⟩, ?_, _, nss ++ [ns], upd_same, by rw [List.length_append, lx]; rfl, ((rx.sx s6M).append (.one (qn.sx s6M) ⟨gn, hns⟩)).sx sp⟩
        exact hB6.keep (N := one D) (Sx.put rfl) bD (fun c z => .inr z)
      · obtain ⟨⟨s5, g5⟩, hB5, xs, nss, eD, lx, rx⟩ := pz
        have hM5 := hM4.gr g5
        have hMd : Mk (also (also M R) D) H5 := hM5.also (ne_none eD)
        have lxx := rx.1
        walk_at "g"
        refine ⟨D, xs, rfl, .inl ⟨SqL.of eD, fun m hm => ?_⟩⟩
        have s7 : Same H5 (upd H5 m (.tup xs)) := same_new hm
        have leM : ∀ a, M a → also (also M R) D a := fun a z => .inl (.inl z)
        have sall : Sx (one b) H (upd H5 m (.tup xs)) := by
          refine Sx.trans ?_ (Sx.same s7)
          have a1 : Sx (also (one b) R) H H4 := (s03.le fun c z => .inr z).trans (s4.le fun c z => .inl z)
          have a2 : Sx (also (also (one b) R) D) H H5 := (a1.le fun c z => .inl z).trans (s5.le fun c z => z.elim (fun z => .inl (.inl z)) .inr)
          have hD0 : H D = none := none_gr (g03.trans g4) hD
          exact (a2.cut hD0).cut hR
        refine q _ _ nss sall (((g03.trans g4).trans g5).trans (Gr.same s7)) ((hB5.same s7).less hB.w leM) ⟨m, xs, rfl, fun z => hMd.out hm (leM _ z), .inl upd_same, lxx, ?_, fun i ns hi => ?_⟩ (fun n hn => ?_)
        · rw [← lxx, lx]
          omega
        · obtain ⟨w1, e1, q1, g1, _⟩ := rx.2 i ns hi
          exact ⟨w1, e1, (q1.less leM).sx (Sx.same s7), g1⟩
        · obtain ⟨i, hi⟩ := List.mem_iff_getElem?.mp hn
          obtain ⟨_, _, _, _, g2⟩ := rx.2 i n hi
          exact g2
end
end D

namespace D
open PySem PySem.Spec PyProof.Rows L2
local macro_rules | `(tactic| walk_at "st") => `(tactic| first | exact SqT.of (by assumption) | exact Or.inl (by assumption) | exact SqT.of upd_same | fail "st")
local macro_rules | `(tactic| walk_at "ixt") => `(tactic| refine ⟨_, _, _, _, rfl, rfl, (by walk_at "st" : SqT _ _ _ _), by rfl, ?_⟩)
local macro_rules | `(tactic| walk_at "sq") => `(tactic| first | exact SqL.of (by assumption) | assumption | exact Or.inl (by assumption) | exact SqL.of upd_same | fail "sq")
local macro_rules | `(tactic| walk_at "ix") => `(tactic| refine ⟨_, _, _, _, rfl, rfl, (by walk_at "sq" : SqL _ _ _ _), by rfl, ?_⟩)
local macro_rules | `(tactic| walk_at "set") => `(tactic| refine ⟨_, _, _, _, rfl, rfl, by first | assumption | exact upd_same, by rfl, ?_⟩)
local macro_rules | `(tactic| walk_at "len") => `(tactic| refine ⟨_, _, rfl, Or.inl (by walk_at "sq" : SqL _ _ _ _), ?_⟩)
local macro_rules | `(tactic| walk_at "g") => `(tactic| repeat (first | refine ⟨_, rfl, ?_⟩ | refine ⟨_, _, rfl, rfl, ?_⟩ | refine ⟨Or.inr (by decide), ?_⟩ | refine ⟨Or.inl (by decide), ?_⟩ | refine ⟨(by decide : (0 : Int) < _), ?_⟩ | refine ⟨(⟨by decide, by decide⟩ : CDiv _ _), ?_⟩ | refine ⟨(⟨by decide, by decide, by decide⟩ : CPow _ _), ?_⟩ | refine Or.inl ⟨_, rfl, ?_⟩ | refine ⟨rfl, ?_⟩ | walk_at "ix" | walk_at "ixt" | walk_at "len" | fail "g"))
local macro_rules | `(tactic| walk_at "if") => `(tactic| refine ite2 (fun e => ?_) (fun e => ?_))
section
variable {P : Program} {w : World} {K : PySem.W.Frag} {mg : Str → Option Value} {base : Heap}
def KeysAt (C : Addr) (M : Ms) (H : Hp) (xs : List V) (fs : List Fm) : Prop := xs.length = fs.length ∧ ∀ (i : Nat) (f : Fm), fs[i]? = some f → ∃ w, xs[i]? = some w ∧ KeyAt C M H w f
theorem KeysAt.two {C : Addr} {M : Ms} {H : Hp} {xs : List V} {f g : Fm} (h : KeysAt C M H xs [f, g]) : ∃ k1 k2, xs = [k1, k2] ∧ KeyAt C M H k1 f ∧ KeyAt C M H k2 g := by
  obtain ⟨l, z⟩ := h
  match xs, l with
  | [k1, k2], _ =>
    obtain ⟨w1, e1, q1⟩ := z 0 f rfl
    obtain ⟨w2, e2, q2⟩ := z 1 g rfl
    cases e1
    cases e2
    exact ⟨k1, k2, rfl, q1, q2⟩
theorem KeysAt.sx {C : Addr} {M : Ms} {H H' : Hp} {xs : List V} {fs : List Fm} (h : KeysAt C M H xs fs) (s : Sx M H H') : KeysAt C M H' xs fs := ⟨h.1, fun i f e => by
  obtain ⟨w, e1, q⟩ := h.2 i f e
  exact ⟨w, e1, q.sx s⟩⟩
theorem KeysAt.snoc {C : Addr} {M : Ms} {H : Hp} {xs : List V} {fs : List Fm} {k : V} {f : Fm} (h : KeysAt C M H xs fs) (q : KeyAt C M H k f) : KeysAt C M H (xs ++ [k]) (fs ++ [f]) := by
  refine ⟨by rw [List.length_append, List.length_append, h.1]; rfl, fun i g e => ?_⟩
  by_cases c : i < fs.length
  · rw [List.getElem?_append_left c] at e
    rw [List.getElem?_append_left (by rw [h.1]; exact c)]
    exact h.2 i g e
  · rw [List.getElem?_append_right (by omega)] at e
    rw [List.getElem?_append_right (by rw [h.1]; omega), h.1]
    have hi : i - fs.length = 0 := by
      have := (List.getElem?_eq_some_iff.mp e).1
      simpa using this
    rw [hi] at e ⊢
    cases e
    exact ⟨k, rfl, q⟩
def sp_law (K : PySem.W.Frag) : Sp := fun vs H Q _ => ∃ (a : Addr) (ns : List Int), vs = [.ref a] ∧ SqL K H a (ns.map V.int) ∧ ns.length ≤ 63 ∧ ∀ H', Q (.bl true) H'
theorem ok_law (T : Txt K mg) (U : TMany K mg w) : FnOk P w K mg base CX0 17 T.f_law T.d_law ["_law_script"] (sp_law K) := by
  have G__law_bag := ok_bag (P := P) (w := w) (base := base) T
  have G__law_pick := ok_pick (P := P) (w := w) (base := base) T
  have G__law_any_key := ok_anyKey (P := P) (w := w) (base := base) T
  have G__law_menu_of := ok_menu28 (P := P) (w := w) (base := base) T
  have G__law_right := ok_right28 (P := P) (w := w) (base := base) T
  have G_Key___init__ := ok_init (P := P) (w := w) (base := base) T U
  refine T.F_law.ok sc_law (fun vs H Q E h => ?_) (fun cdv A outer s H vs Q E hr h => ?_)
  · obtain ⟨_, _, rfl, _⟩ := h
    rfl
  · obtain ⟨a, ns, rfl, hS, hl, q⟩ := h
    refine ⟨_, (pss_cons (ps_set (i := 1) sc_law.nd rfl (Or.inl rfl) (pe_call G__law_bag (hr.mono (by omega)) (by rfl) T.g__law_bag T.F__law_bag.kp T.b__law_bag .nil pass0 (pa_cons (pv 0) pa_nil)))
      (pss_cons (ps_set (i := 2) sc_law.nd rfl (Or.inl rfl) (pe_lst (pa_cons (pe_call G__law_any_key (hr.mono (by omega)) (by rfl) T.g__law_any_key T.F__law_any_key.kp T.b__law_any_key .nil pass0 (pa_cons (pv 1) pa_nil)) (pa_cons (pe_call G__law_any_key (hr.mono (by omega)) (by rfl) T.g__law_any_key T.F__law_any_key.kp T.b__law_any_key .nil pass0 (pa_cons (pv 1) pa_nil)) pa_nil))))
      (pss_cons (ps_setLc (i := 3) (own := [("_law_form_here", 10)]) (g := gName 10) (tt := tYes) (by rfl) sc_law.nd rfl rfl (sw_true rfl rfl rfl (by decide +kernel)) (pi_listK (K := K) rfl (pv 2)) (blkOk_by (own := [("_law_form_here", 10)]) (N := ["_law_script", "_law_bag_here", "_law_forms", "_law_both", "_law_size", "_law_places", "_law_menu", "_law_less", "_law_fewer", "_law_other", "_law_form_here"]) (sc := defScope s_law) (by decide +kernel)) (fun _ _ _ _ _ => (pg_name (i := 10) sc_law.nd rfl (Or.inl rfl))) (fun _ _ _ _ _ => pts_nil) (fun _ _ _ _ _ => (pe_make ⟨T.mk_Key, T.a_Key___init__, T.i_Key___init__, T.kc_Key⟩ G_Key___init__ (hr.mono (by omega)) (by rfl) T.g_Key T.b_Key___init__ .nil pass0 (pa_cons (pv 10) pa_nil))))
      (pss_cons (ps_set (i := 4) sc_law.nd rfl (Or.inl rfl) (pe_op op_add pe_int (pe_call G__law_pick (hr.mono (by omega)) (by rfl) T.g__law_pick T.F__law_pick.kp T.b__law_pick .nil pass0 (pa_cons (pv 1) (pa_cons pe_int pa_nil)))))
      (pss_cons (ps_set (i := 5) sc_law.nd rfl (Or.inl rfl) (pe_op op_add pe_int (pe_call G__law_pick (hr.mono (by omega)) (by rfl) T.g__law_pick T.F__law_pick.kp T.b__law_pick .nil pass0 (pa_cons (pv 1) (pa_cons pe_int pa_nil)))))
      (pss_cons (ps_set (i := 6) sc_law.nd rfl (Or.inl rfl) (pe_call G__law_menu_of (hr.mono (by omega)) (by rfl) T.g__law_menu_of T.F__law_menu_of.kp T.b__law_menu_of .nil pass0 (pa_cons (pv 1) (pa_cons (pv 4) (pa_cons (pv 5) pa_nil)))))
      (pss_cons (ps_if (pt_not (pt_val (pe_call G__law_right (hr.mono (by omega)) (by rfl) T.g__law_right T.F__law_right.kp T.b__law_right .nil pass0 (pa_cons (pe_ix (ix_listK (K := K) rfl) (pv 3) pe_int (fun _ _ => rfl)) (pa_cons (pe_ix (ix_listK (K := K) rfl) (pv 2) pe_int (fun _ _ => rfl)) (pa_cons (pv 4) (pa_cons (pv 5) (pa_cons (pv 6) pa_nil)))))))) (pss_one (ps_ret pe_bl)) pss_nil)
      (pss_cons (ps_set (i := 7) sc_law.nd rfl (Or.inl rfl) (pe_op op_add pe_int (pe_call G__law_pick (hr.mono (by omega)) (by rfl) T.g__law_pick T.F__law_pick.kp T.b__law_pick .nil pass0 (pa_cons (pv 1) (pa_cons pe_int pa_nil)))))
      (pss_cons (ps_set (i := 8) sc_law.nd rfl (Or.inl rfl) (pe_op op_add pe_int (pe_call G__law_pick (hr.mono (by omega)) (by rfl) T.g__law_pick T.F__law_pick.kp T.b__law_pick .nil pass0 (pa_cons (pv 1) (pa_cons pe_int pa_nil)))))
      (pss_cons (ps_set (i := 9) sc_law.nd rfl (Or.inl rfl) (pe_call G__law_menu_of (hr.mono (by omega)) (by rfl) T.g__law_menu_of T.F__law_menu_of.kp T.b__law_menu_of .nil pass0 (pa_cons (pv 1) (pa_cons (pv 7) (pa_cons (pv 8) pa_nil)))))
      (pss_cons (ps_if (pt_not (pt_val (pe_call G__law_right (hr.mono (by omega)) (by rfl) T.g__law_right T.F__law_right.kp T.b__law_right .nil pass0 (pa_cons (pe_ix (ix_listK (K := K) rfl) (pv 3) pe_int (fun _ _ => rfl)) (pa_cons (pe_ix (ix_listK (K := K) rfl) (pv 2) pe_int (fun _ _ => rfl)) (pa_cons (pv 7) (pa_cons (pv 8) (pa_cons (pv 9) pa_nil)))))))) (pss_one (ps_ret pe_bl)) pss_nil)
      (pss_one (ps_ret (pe_call G__law_right (hr.mono (by omega)) (by rfl) T.g__law_right T.F__law_right.kp T.b__law_right .nil pass0 (pa_cons (pe_ix (ix_listK (K := K) rfl) (pv 3) pe_int (fun _ _ => rfl)) (pa_cons (pe_ix (ix_listK (K := K) rfl) (pv 2) pe_int (fun _ _ => rfl)) (pa_cons (pv 7) (pa_cons (pv 8) (pa_cons (pv 9) pa_nil))))))))))))))))))), ?_⟩
    walk_at "g"
    refine ⟨a, ns, rfl, hS, hl, fun b H1 s1 nb hB1 => ?_⟩
    walk_at "g"
    have hM1 : Mk (one b) H1 := fun c z => by rw [show c = b from z]; exact hB1.there
    refine ⟨b, one b, rfl, hB1, hM1, fun v1 H2 d1 s2 g2 hB2 r1 hd => ?_⟩
    obtain ⟨f1, rfl, kf1⟩ := hd
    have hM2 := hM1.gr g2
    walk_at "g"
    refine ⟨b, one b, rfl, hB2, hM2, fun v2 H3 d2 s3 g3 hB3 r2 hd => ?_⟩
    obtain ⟨f2, rfl, kf2⟩ := hd
    have hM3 := hM2.gr g3
    have r1 := r1.sx s3
    walk_at "g"
    refine ⟨szK rfl, fun Lf hLf => ?_⟩
    have sL : Same H3 (upd H3 Lf (.lst [v1, v2])) := same_new hLf
    have eLf : upd H3 Lf (.lst [v1, v2]) Lf = some (.lst [v1, v2]) := upd_same
    have hB4 := hB3.same sL
    have hM4 := hM3.gr (Gr.same sL)
    have r1 := r1.sx (Sx.same sL)
    have r2 := r2.sx (Sx.same sL)
    generalize upd H3 Lf (.lst [v1, v2]) = H4 at eLf hB4 hM4 r1 r2
    clear hB1 hB2 hB3 hM1 hM2 hM3
    have bLf : Lf ≠ b := fun z => by
      obtain ⟨_, _, _, _, _, _, _, e, _⟩ := hB4
      rw [z, e] at eLf
      cases eLf
    walk_at "g"
    refine ⟨⟨_, .inl (.inl eLf)⟩, fun D hD => ?_⟩
    refine list_loop (xs := [v1, v2]) (fun i H' => Same H4 H' ∧ ∃ acc, H' D = some (.lst acc) ∧ KeysAt T.C_Key (also (one b) D) H' acc ([f1, f2].take i)) ⟨same_new hD, [], upd_same, rfl, fun i f e => by simp at e⟩ (fun i H' _ p => .inl (.inl (p.1 _ _ eLf))) (fun i x H' hx p => ?_) (fun H5 p => ?_)
    · obtain ⟨s5, acc, eD, ka⟩ := p
      obtain ⟨f, ef, rf, kf⟩ : ∃ f, [f1, f2][i]? = some f ∧ Rp (one b) H4 x f.enc ∧ goodKey f := by
        match i, hx with
        | 0, hx => cases hx; exact ⟨f1, rfl, r1, kf1⟩
        | 1, hx => cases hx; exact ⟨f2, rfl, r2, kf2⟩
        | i + 2, hx => simp at hx
      have rf5 := (rf.fresh hD).sx (Sx.same s5)
      have hM5 : Mk (also (one b) D) H' := (hM4.gr (Gr.same s5)).also (ne_none eD)
      have hacc : acc.length ≤ 2 := by
        have := ka.1
        rw [List.length_take] at this
        have e2 : [f1, f2].length = 2 := rfl
        omega
      refine ⟨rfl, ?_⟩
      walk_at "g"
      intro xa dx hxa hdx hne
      have hx2 : upd H' dx (.own xa) xa = none := by rw [upd_ne (fun z => hne z.symm)]; exact hxa
      have sA : Same H' (upd (upd H' dx (.own xa)) xa (.ins T.C_Key dx [])) := (same_new hdx).trans (same_new hx2)
      refine ⟨xa, dx, x, f, also (one b) D, rfl, upd_same, rf5.sx (Sx.same sA), hM5.gr (Gr.same sA), kf, fun H8 s8 => ?_⟩
      have s9 : Same H' (upd H8 xa (.ins T.C_Key dx [(sParts, x)])) := same_put (sA.trans s8) hxa
      have hKey : KeyAt T.C_Key (also (one b) D) (upd H8 xa (.ins T.C_Key dx [(sParts, x)])) (.ref xa) f := ⟨xa, dx, x, rfl, fun z => hM5.out hxa z, upd_same, rf5.sx (Sx.same s9), kf⟩
      generalize upd H8 xa (.ins T.C_Key dx [(sParts, x)]) = H9 at s9 hKey
      have eD9 := s9 _ _ eD
      have sp : Sx (also (one b) D) H9 (upd H9 D (.lst (acc ++ [.ref xa]))) := Sx.put (.inr rfl)
      refine ⟨rfl, acc, eD9, small1000000 (by omega), same_put (s5.trans s9) hD, _, upd_same, ?_⟩
      rw [List.take_add_one, ef]
      exact ((ka.sx (Sx.same s9)).snoc hKey).sx sp
    obtain ⟨s5, acc, eD, ka⟩ := p
    obtain ⟨k1, k2, rfl, hk1, hk2⟩ := KeysAt.two ka
    have hk1 := hk1.less (N := one b) also_le
    have hk2 := hk2.less (N := one b) also_le
    have hB5 := hB4.same s5
    have hM5 := hM4.gr (Gr.same s5)
    have r1 := r1.sx (Sx.same s5)
    have r2 := r2.sx (Sx.same s5)
    have eLf5 := s5 _ _ eLf
    have bD : D ≠ b := fun z => hB4.there (by rw [← z]; exact hD)
    clear hB4 hM4
    walk_at "g"
    refine ⟨b, _, one b, rfl, hB5, by decide, by decide, fun z1 H6 z10 z11 hA6 hB6 => ?_⟩
    walk_at "g"
    refine ⟨b, _, one b, rfl, hB6, by decide, by decide, fun z2 H7 z20 z21 hA7 hB7 => ?_⟩
    have s57 : Sx (one b) H5 H7 := hA6.sx.trans hA7.sx
    have g57 : Gr H5 H7 := (At.gr hA6 hB6.there).trans (At.gr hA7 hB7.there)
    obtain ⟨sz, rfl⟩ : ∃ n : Nat, z1 = ((n : Nat) : Int) := ⟨z1.toNat, by omega⟩
    obtain ⟨pl, rfl⟩ : ∃ n : Nat, z2 = ((n : Nat) : Int) := ⟨z2.toNat, by omega⟩
    have c1 : (1 : Int) + (sz : Int) = ((1 + sz : Nat) : Int) := by omega
    have c2 : (1 : Int) + (pl : Int) = ((1 + pl : Nat) : Int) := by omega
    walk_at "g"
    refine ⟨b, 1 + sz, 1 + pl, one b, by rw [← c1, ← c2]; rfl, hB7, hM5.gr g57, by omega, by omega, fun m1 H8 nss s8 g8 hB8 hMe hin => ?_⟩
    have s58 := s57.trans s8
    have g58 := g57.trans g8
    have eD8 := s58 _ _ bD eD
    have eLf8 := s58 _ _ bLf eLf5
    have i0 : atI [k1, k2] (0 : Int) = some k1 := rfl
    have j0 : atI [v1, v2] (0 : Int) = some v1 := rfl
    have i1 : atI [k1, k2] (1 : Int) = some k2 := rfl
    have j1 : atI [v1, v2] (1 : Int) = some v2 := rfl
    walk_at "g"
    refine ⟨k1, v1, m1, f1, 1 + sz, 1 + pl, nss, one b, by rw [← c1, ← c2]; rfl, hk1.sx s58, r1.sx s58, kf1, by omega, by omega, by omega, by omega, hMe, hin, fun H9 s9 => ?_⟩
    have hB9 := hB8.same s9
    have s59 := s58.trans (Sx.same s9)
    have g59 := g58.trans (Gr.same s9)
    walk_at "g"
    refine ⟨b, _, one b, rfl, hB9, by decide, by decide, fun z3 HA z30 z31 hAA hBA => ?_⟩
    walk_at "g"
    refine ⟨b, _, one b, rfl, hBA, by decide, by decide, fun z4 HB z40 z41 hAB hBB => ?_⟩
    have s5B := (s59.trans hAA.sx).trans hAB.sx
    have g5B := (g59.trans (At.gr hAA hBA.there)).trans (At.gr hAB hBB.there)
    obtain ⟨sy, rfl⟩ : ∃ n : Nat, z3 = ((n : Nat) : Int) := ⟨z3.toNat, by omega⟩
    obtain ⟨py, rfl⟩ : ∃ n : Nat, z4 = ((n : Nat) : Int) := ⟨z4.toNat, by omega⟩
    have c3 : (1 : Int) + (sy : Int) = ((1 + sy : Nat) : Int) := by omega
    have c4 : (1 : Int) + (py : Int) = ((1 + py : Nat) : Int) := by omega
    walk_at "g"
    refine ⟨b, 1 + sy, 1 + py, one b, by rw [← c3, ← c4]; rfl, hBB, hM5.gr g5B, by omega, by omega, fun m2 HC mss sC gC hBC hMe2 hin2 => ?_⟩
    have s5C := s5B.trans sC
    have g5C := g5B.trans gC
    have eDC := s5C _ _ bD eD
    have eLfC := s5C _ _ bLf eLf5
    walk_at "g"
    refine ⟨k2, v2, m2, f2, 1 + sy, 1 + py, mss, one b, by rw [← c3, ← c4]; rfl, hk2.sx s5C, r2.sx s5C, kf2, by omega, by omega, by omega, by omega, hMe2, hin2, fun HD sD => ?_⟩
    have s5D := s5C.trans (Sx.same sD)
    have eDD := s5D _ _ bD eD
    have eLfD := s5D _ _ bLf eLf5
    walk_at "g"
    refine ⟨k1, v1, m2, f1, 1 + sy, 1 + py, mss, one b, by rw [← c3, ← c4]; rfl, hk1.sx s5D, r1.sx s5D, kf1, by omega, by omega, by omega, by omega, hMe2.sx (Sx.same sD), hin2, fun HE sE => ?_⟩
    exact q _
end
end D

namespace D
open PySem PySem.Spec PyProof.Rows L2
theorem all_mk {l : PySem.W.OpenLaw} {w : World} {K : PySem.W.Frag} {h : Heap} {mg : Str → Option Value} {fa : Addr} {f_is_whole f_is_value f_is_name f_inner_forms f__well_made f_check_form f_value_of f_names_in f_is_row f_check_rows f__key_value f__idents f__matches f__slipped f__lost f__first_parted f_faithful f__rows_of f_least_pair f__differ f_least_parting f__law_mixed f__law_bag f__law_pick f__law_choice f__law_number f__law_form f__law_value f__law_idents f__law_any_key f__law_told_items f__law_all_rows f__law_unlike_rows f__law_first_of f__law_least f__law_plain f__law_right f__law_menu_of f_law C_Key f_Key___init__ f_Key_parts p_Key_parts f_Key___call__ f_Key___le__ f_Key_idents C_Known f_Known___init__ f_Known___getitem__ f_Known___setitem__ f_Known___iter__ f_Known_show C_Things f_Things___init__ f_Things___getitem__ f_Things___setitem__ f_Things___iter__ f_Things_show : Addr} (X : K.In h) (G : h.Ns mainGlobals mg) (hfa : mg "law" = some (.ref fa))
    {od_is_whole an_is_whole : Option Addr} {sl_is_whole : Array (Option Value)} {oc_is_whole kV_is_whole dc_is_whole pm_is_whole cd_is_whole ct_is_whole : Value}
    (a_is_whole : PySem.W.nsIn K mainGlobals "is_whole" = some (some (.ref f_is_whole))) (l_is_whole : K.lookup f_is_whole = some ⟨oc_is_whole, od_is_whole, .func (PySem.W.fnOf "is_whole" "is_whole" (defArgs s_is_whole) (defBody s_is_whole) (defScope s_is_whole) .none kV_is_whole dc_is_whole pm_is_whole an_is_whole cd_is_whole ct_is_whole), sl_is_whole⟩) (c_is_whole : PySem.W.codeIn K cd_is_whole "is_whole" = true) (k_is_whole : PySem.W.keepIn K (.ref f_is_whole) = true)
    {od_is_value an_is_value : Option Addr} {sl_is_value : Array (Option Value)} {oc_is_value kV_is_value dc_is_value pm_is_value cd_is_value ct_is_value : Value}
    (a_is_value : PySem.W.nsIn K mainGlobals "is_value" = some (some (.ref f_is_value))) (l_is_value : K.lookup f_is_value = some ⟨oc_is_value, od_is_value, .func (PySem.W.fnOf "is_value" "is_value" (defArgs s_is_value) (defBody s_is_value) (defScope s_is_value) .none kV_is_value dc_is_value pm_is_value an_is_value cd_is_value ct_is_value), sl_is_value⟩) (c_is_value : PySem.W.codeIn K cd_is_value "is_value" = true) (k_is_value : PySem.W.keepIn K (.ref f_is_value) = true)
    {od_is_name an_is_name : Option Addr} {sl_is_name : Array (Option Value)} {oc_is_name kV_is_name dc_is_name pm_is_name cd_is_name ct_is_name : Value}
    (a_is_name : PySem.W.nsIn K mainGlobals "is_name" = some (some (.ref f_is_name))) (l_is_name : K.lookup f_is_name = some ⟨oc_is_name, od_is_name, .func (PySem.W.fnOf "is_name" "is_name" (defArgs s_is_name) (defBody s_is_name) (defScope s_is_name) .none kV_is_name dc_is_name pm_is_name an_is_name cd_is_name ct_is_name), sl_is_name⟩) (c_is_name : PySem.W.codeIn K cd_is_name "is_name" = true) (k_is_name : PySem.W.keepIn K (.ref f_is_name) = true)
    {od_inner_forms an_inner_forms : Option Addr} {sl_inner_forms : Array (Option Value)} {oc_inner_forms kV_inner_forms dc_inner_forms pm_inner_forms cd_inner_forms ct_inner_forms : Value}
    (a_inner_forms : PySem.W.nsIn K mainGlobals "inner_forms" = some (some (.ref f_inner_forms))) (l_inner_forms : K.lookup f_inner_forms = some ⟨oc_inner_forms, od_inner_forms, .func (PySem.W.fnOf "inner_forms" "inner_forms" (defArgs s_inner_forms) (defBody s_inner_forms) (defScope s_inner_forms) .none kV_inner_forms dc_inner_forms pm_inner_forms an_inner_forms cd_inner_forms ct_inner_forms), sl_inner_forms⟩) (c_inner_forms : PySem.W.codeIn K cd_inner_forms "inner_forms" = true) (k_inner_forms : PySem.W.keepIn K (.ref f_inner_forms) = true)
    {od__well_made an__well_made : Option Addr} {sl__well_made : Array (Option Value)} {oc__well_made kV__well_made dc__well_made pm__well_made cd__well_made ct__well_made : Value}
    (a__well_made : PySem.W.nsIn K mainGlobals "_well_made" = some (some (.ref f__well_made))) (l__well_made : K.lookup f__well_made = some ⟨oc__well_made, od__well_made, .func (PySem.W.fnOf "_well_made" "_well_made" (defArgs s__well_made) (defBody s__well_made) (defScope s__well_made) .none kV__well_made dc__well_made pm__well_made an__well_made cd__well_made ct__well_made), sl__well_made⟩) (c__well_made : PySem.W.codeIn K cd__well_made "_well_made" = true) (k__well_made : PySem.W.keepIn K (.ref f__well_made) = true)
    {od_check_form an_check_form : Option Addr} {sl_check_form : Array (Option Value)} {oc_check_form kV_check_form dc_check_form pm_check_form cd_check_form ct_check_form : Value}
    (a_check_form : PySem.W.nsIn K mainGlobals "check_form" = some (some (.ref f_check_form))) (l_check_form : K.lookup f_check_form = some ⟨oc_check_form, od_check_form, .func (PySem.W.fnOf "check_form" "check_form" (defArgs s_check_form) (defBody s_check_form) (defScope s_check_form) .none kV_check_form dc_check_form pm_check_form an_check_form cd_check_form ct_check_form), sl_check_form⟩) (c_check_form : PySem.W.codeIn K cd_check_form "check_form" = true) (k_check_form : PySem.W.keepIn K (.ref f_check_form) = true)
    {od_value_of an_value_of : Option Addr} {sl_value_of : Array (Option Value)} {oc_value_of kV_value_of dc_value_of pm_value_of cd_value_of ct_value_of : Value}
    (a_value_of : PySem.W.nsIn K mainGlobals "value_of" = some (some (.ref f_value_of))) (l_value_of : K.lookup f_value_of = some ⟨oc_value_of, od_value_of, .func (PySem.W.fnOf "value_of" "value_of" (defArgs s_value_of) (defBody s_value_of) (defScope s_value_of) .none kV_value_of dc_value_of pm_value_of an_value_of cd_value_of ct_value_of), sl_value_of⟩) (c_value_of : PySem.W.codeIn K cd_value_of "value_of" = true) (k_value_of : PySem.W.keepIn K (.ref f_value_of) = true)
    {od_names_in an_names_in : Option Addr} {sl_names_in : Array (Option Value)} {oc_names_in kV_names_in dc_names_in pm_names_in cd_names_in ct_names_in : Value}
    (a_names_in : PySem.W.nsIn K mainGlobals "names_in" = some (some (.ref f_names_in))) (l_names_in : K.lookup f_names_in = some ⟨oc_names_in, od_names_in, .func (PySem.W.fnOf "names_in" "names_in" (defArgs s_names_in) (defBody s_names_in) (defScope s_names_in) .none kV_names_in dc_names_in pm_names_in an_names_in cd_names_in ct_names_in), sl_names_in⟩) (c_names_in : PySem.W.codeIn K cd_names_in "names_in" = true) (k_names_in : PySem.W.keepIn K (.ref f_names_in) = true)
    {od_is_row an_is_row : Option Addr} {sl_is_row : Array (Option Value)} {oc_is_row kV_is_row dc_is_row pm_is_row cd_is_row ct_is_row : Value}
    (a_is_row : PySem.W.nsIn K mainGlobals "is_row" = some (some (.ref f_is_row))) (l_is_row : K.lookup f_is_row = some ⟨oc_is_row, od_is_row, .func (PySem.W.fnOf "is_row" "is_row" (defArgs s_is_row) (defBody s_is_row) (defScope s_is_row) .none kV_is_row dc_is_row pm_is_row an_is_row cd_is_row ct_is_row), sl_is_row⟩) (c_is_row : PySem.W.codeIn K cd_is_row "is_row" = true) (k_is_row : PySem.W.keepIn K (.ref f_is_row) = true)
    {od_check_rows an_check_rows : Option Addr} {sl_check_rows : Array (Option Value)} {oc_check_rows kV_check_rows dc_check_rows pm_check_rows cd_check_rows ct_check_rows : Value}
    (a_check_rows : PySem.W.nsIn K mainGlobals "check_rows" = some (some (.ref f_check_rows))) (l_check_rows : K.lookup f_check_rows = some ⟨oc_check_rows, od_check_rows, .func (PySem.W.fnOf "check_rows" "check_rows" (defArgs s_check_rows) (defBody s_check_rows) (defScope s_check_rows) .none kV_check_rows dc_check_rows pm_check_rows an_check_rows cd_check_rows ct_check_rows), sl_check_rows⟩) (c_check_rows : PySem.W.codeIn K cd_check_rows "check_rows" = true) (k_check_rows : PySem.W.keepIn K (.ref f_check_rows) = true)
    {od__key_value an__key_value : Option Addr} {sl__key_value : Array (Option Value)} {oc__key_value kV__key_value dc__key_value pm__key_value cd__key_value ct__key_value : Value}
    (a__key_value : PySem.W.nsIn K mainGlobals "_key_value" = some (some (.ref f__key_value))) (l__key_value : K.lookup f__key_value = some ⟨oc__key_value, od__key_value, .func (PySem.W.fnOf "_key_value" "_key_value" (defArgs s__key_value) (defBody s__key_value) (defScope s__key_value) .none kV__key_value dc__key_value pm__key_value an__key_value cd__key_value ct__key_value), sl__key_value⟩) (c__key_value : PySem.W.codeIn K cd__key_value "_key_value" = true) (k__key_value : PySem.W.keepIn K (.ref f__key_value) = true)
    {od__idents an__idents : Option Addr} {sl__idents : Array (Option Value)} {oc__idents kV__idents dc__idents pm__idents cd__idents ct__idents : Value}
    (a__idents : PySem.W.nsIn K mainGlobals "_idents" = some (some (.ref f__idents))) (l__idents : K.lookup f__idents = some ⟨oc__idents, od__idents, .func (PySem.W.fnOf "_idents" "_idents" (defArgs s__idents) (defBody s__idents) (defScope s__idents) .none kV__idents dc__idents pm__idents an__idents cd__idents ct__idents), sl__idents⟩) (c__idents : PySem.W.codeIn K cd__idents "_idents" = true) (k__idents : PySem.W.keepIn K (.ref f__idents) = true)
    {od__matches an__matches : Option Addr} {sl__matches : Array (Option Value)} {oc__matches kV__matches dc__matches pm__matches cd__matches ct__matches : Value}
    (a__matches : PySem.W.nsIn K mainGlobals "_matches" = some (some (.ref f__matches))) (l__matches : K.lookup f__matches = some ⟨oc__matches, od__matches, .func (PySem.W.fnOf "_matches" "_matches" (defArgs s__matches) (defBody s__matches) (defScope s__matches) .none kV__matches dc__matches pm__matches an__matches cd__matches ct__matches), sl__matches⟩) (c__matches : PySem.W.codeIn K cd__matches "_matches" = true) (k__matches : PySem.W.keepIn K (.ref f__matches) = true)
    {od__slipped an__slipped : Option Addr} {sl__slipped : Array (Option Value)} {oc__slipped kV__slipped dc__slipped pm__slipped cd__slipped ct__slipped : Value}
    (a__slipped : PySem.W.nsIn K mainGlobals "_slipped" = some (some (.ref f__slipped))) (l__slipped : K.lookup f__slipped = some ⟨oc__slipped, od__slipped, .func (PySem.W.fnOf "_slipped" "_slipped" (defArgs s__slipped) (defBody s__slipped) (defScope s__slipped) .none kV__slipped dc__slipped pm__slipped an__slipped cd__slipped ct__slipped), sl__slipped⟩) (c__slipped : PySem.W.codeIn K cd__slipped "_slipped" = true) (k__slipped : PySem.W.keepIn K (.ref f__slipped) = true)
    {od__lost an__lost : Option Addr} {sl__lost : Array (Option Value)} {oc__lost kV__lost dc__lost pm__lost cd__lost ct__lost : Value}
    (a__lost : PySem.W.nsIn K mainGlobals "_lost" = some (some (.ref f__lost))) (l__lost : K.lookup f__lost = some ⟨oc__lost, od__lost, .func (PySem.W.fnOf "_lost" "_lost" (defArgs s__lost) (defBody s__lost) (defScope s__lost) .none kV__lost dc__lost pm__lost an__lost cd__lost ct__lost), sl__lost⟩) (c__lost : PySem.W.codeIn K cd__lost "_lost" = true) (k__lost : PySem.W.keepIn K (.ref f__lost) = true)
    {od__first_parted an__first_parted : Option Addr} {sl__first_parted : Array (Option Value)} {oc__first_parted kV__first_parted dc__first_parted pm__first_parted cd__first_parted ct__first_parted : Value}
    (a__first_parted : PySem.W.nsIn K mainGlobals "_first_parted" = some (some (.ref f__first_parted))) (l__first_parted : K.lookup f__first_parted = some ⟨oc__first_parted, od__first_parted, .func (PySem.W.fnOf "_first_parted" "_first_parted" (defArgs s__first_parted) (defBody s__first_parted) (defScope s__first_parted) .none kV__first_parted dc__first_parted pm__first_parted an__first_parted cd__first_parted ct__first_parted), sl__first_parted⟩) (c__first_parted : PySem.W.codeIn K cd__first_parted "_first_parted" = true) (k__first_parted : PySem.W.keepIn K (.ref f__first_parted) = true)
    {od_faithful an_faithful : Option Addr} {sl_faithful : Array (Option Value)} {oc_faithful kV_faithful dc_faithful pm_faithful cd_faithful ct_faithful : Value}
    (a_faithful : PySem.W.nsIn K mainGlobals "faithful" = some (some (.ref f_faithful))) (l_faithful : K.lookup f_faithful = some ⟨oc_faithful, od_faithful, .func (PySem.W.fnOf "faithful" "faithful" (defArgs s_faithful) (defBody s_faithful) (defScope s_faithful) .none kV_faithful dc_faithful pm_faithful an_faithful cd_faithful ct_faithful), sl_faithful⟩) (c_faithful : PySem.W.codeIn K cd_faithful "faithful" = true) (k_faithful : PySem.W.keepIn K (.ref f_faithful) = true)
    {od__rows_of an__rows_of : Option Addr} {sl__rows_of : Array (Option Value)} {oc__rows_of kV__rows_of dc__rows_of pm__rows_of cd__rows_of ct__rows_of : Value}
    (a__rows_of : PySem.W.nsIn K mainGlobals "_rows_of" = some (some (.ref f__rows_of))) (l__rows_of : K.lookup f__rows_of = some ⟨oc__rows_of, od__rows_of, .func (PySem.W.fnOf "_rows_of" "_rows_of" (defArgs s__rows_of) (defBody s__rows_of) (defScope s__rows_of) .none kV__rows_of dc__rows_of pm__rows_of an__rows_of cd__rows_of ct__rows_of), sl__rows_of⟩) (c__rows_of : PySem.W.codeIn K cd__rows_of "_rows_of" = true) (k__rows_of : PySem.W.keepIn K (.ref f__rows_of) = true)
    {od_least_pair an_least_pair : Option Addr} {sl_least_pair : Array (Option Value)} {oc_least_pair kV_least_pair dc_least_pair pm_least_pair cd_least_pair ct_least_pair : Value}
    (a_least_pair : PySem.W.nsIn K mainGlobals "least_pair" = some (some (.ref f_least_pair))) (l_least_pair : K.lookup f_least_pair = some ⟨oc_least_pair, od_least_pair, .func (PySem.W.fnOf "least_pair" "least_pair" (defArgs s_least_pair) (defBody s_least_pair) (defScope s_least_pair) .none kV_least_pair dc_least_pair pm_least_pair an_least_pair cd_least_pair ct_least_pair), sl_least_pair⟩) (c_least_pair : PySem.W.codeIn K cd_least_pair "least_pair" = true) (k_least_pair : PySem.W.keepIn K (.ref f_least_pair) = true)
    {od__differ an__differ : Option Addr} {sl__differ : Array (Option Value)} {oc__differ kV__differ dc__differ pm__differ cd__differ ct__differ : Value}
    (a__differ : PySem.W.nsIn K mainGlobals "_differ" = some (some (.ref f__differ))) (l__differ : K.lookup f__differ = some ⟨oc__differ, od__differ, .func (PySem.W.fnOf "_differ" "_differ" (defArgs s__differ) (defBody s__differ) (defScope s__differ) .none kV__differ dc__differ pm__differ an__differ cd__differ ct__differ), sl__differ⟩) (c__differ : PySem.W.codeIn K cd__differ "_differ" = true) (k__differ : PySem.W.keepIn K (.ref f__differ) = true)
    {od_least_parting an_least_parting : Option Addr} {sl_least_parting : Array (Option Value)} {oc_least_parting kV_least_parting dc_least_parting pm_least_parting cd_least_parting ct_least_parting : Value}
    (a_least_parting : PySem.W.nsIn K mainGlobals "least_parting" = some (some (.ref f_least_parting))) (l_least_parting : K.lookup f_least_parting = some ⟨oc_least_parting, od_least_parting, .func (PySem.W.fnOf "least_parting" "least_parting" (defArgs s_least_parting) (defBody s_least_parting) (defScope s_least_parting) .none kV_least_parting dc_least_parting pm_least_parting an_least_parting cd_least_parting ct_least_parting), sl_least_parting⟩) (c_least_parting : PySem.W.codeIn K cd_least_parting "least_parting" = true) (k_least_parting : PySem.W.keepIn K (.ref f_least_parting) = true)
    {od__law_mixed an__law_mixed : Option Addr} {sl__law_mixed : Array (Option Value)} {oc__law_mixed kV__law_mixed dc__law_mixed pm__law_mixed cd__law_mixed ct__law_mixed : Value}
    (a__law_mixed : PySem.W.nsIn K mainGlobals "_law_mixed" = some (some (.ref f__law_mixed))) (l__law_mixed : K.lookup f__law_mixed = some ⟨oc__law_mixed, od__law_mixed, .func (PySem.W.fnOf "_law_mixed" "_law_mixed" (defArgs s__law_mixed) (defBody s__law_mixed) (defScope s__law_mixed) .none kV__law_mixed dc__law_mixed pm__law_mixed an__law_mixed cd__law_mixed ct__law_mixed), sl__law_mixed⟩) (c__law_mixed : PySem.W.codeIn K cd__law_mixed "_law_mixed" = true) (k__law_mixed : PySem.W.keepIn K (.ref f__law_mixed) = true)
    {od__law_bag an__law_bag : Option Addr} {sl__law_bag : Array (Option Value)} {oc__law_bag kV__law_bag dc__law_bag pm__law_bag cd__law_bag ct__law_bag : Value}
    (a__law_bag : PySem.W.nsIn K mainGlobals "_law_bag" = some (some (.ref f__law_bag))) (l__law_bag : K.lookup f__law_bag = some ⟨oc__law_bag, od__law_bag, .func (PySem.W.fnOf "_law_bag" "_law_bag" (defArgs s__law_bag) (defBody s__law_bag) (defScope s__law_bag) .none kV__law_bag dc__law_bag pm__law_bag an__law_bag cd__law_bag ct__law_bag), sl__law_bag⟩) (c__law_bag : PySem.W.codeIn K cd__law_bag "_law_bag" = true) (k__law_bag : PySem.W.keepIn K (.ref f__law_bag) = true)
    {od__law_pick an__law_pick : Option Addr} {sl__law_pick : Array (Option Value)} {oc__law_pick kV__law_pick dc__law_pick pm__law_pick cd__law_pick ct__law_pick : Value}
    (a__law_pick : PySem.W.nsIn K mainGlobals "_law_pick" = some (some (.ref f__law_pick))) (l__law_pick : K.lookup f__law_pick = some ⟨oc__law_pick, od__law_pick, .func (PySem.W.fnOf "_law_pick" "_law_pick" (defArgs s__law_pick) (defBody s__law_pick) (defScope s__law_pick) .none kV__law_pick dc__law_pick pm__law_pick an__law_pick cd__law_pick ct__law_pick), sl__law_pick⟩) (c__law_pick : PySem.W.codeIn K cd__law_pick "_law_pick" = true) (k__law_pick : PySem.W.keepIn K (.ref f__law_pick) = true)
    {od__law_choice an__law_choice : Option Addr} {sl__law_choice : Array (Option Value)} {oc__law_choice kV__law_choice dc__law_choice pm__law_choice cd__law_choice ct__law_choice : Value}
    (a__law_choice : PySem.W.nsIn K mainGlobals "_law_choice" = some (some (.ref f__law_choice))) (l__law_choice : K.lookup f__law_choice = some ⟨oc__law_choice, od__law_choice, .func (PySem.W.fnOf "_law_choice" "_law_choice" (defArgs s__law_choice) (defBody s__law_choice) (defScope s__law_choice) .none kV__law_choice dc__law_choice pm__law_choice an__law_choice cd__law_choice ct__law_choice), sl__law_choice⟩) (c__law_choice : PySem.W.codeIn K cd__law_choice "_law_choice" = true) (k__law_choice : PySem.W.keepIn K (.ref f__law_choice) = true)
    {od__law_number an__law_number : Option Addr} {sl__law_number : Array (Option Value)} {oc__law_number kV__law_number dc__law_number pm__law_number cd__law_number ct__law_number : Value}
    (a__law_number : PySem.W.nsIn K mainGlobals "_law_number" = some (some (.ref f__law_number))) (l__law_number : K.lookup f__law_number = some ⟨oc__law_number, od__law_number, .func (PySem.W.fnOf "_law_number" "_law_number" (defArgs s__law_number) (defBody s__law_number) (defScope s__law_number) .none kV__law_number dc__law_number pm__law_number an__law_number cd__law_number ct__law_number), sl__law_number⟩) (c__law_number : PySem.W.codeIn K cd__law_number "_law_number" = true) (k__law_number : PySem.W.keepIn K (.ref f__law_number) = true)
    {od__law_form an__law_form : Option Addr} {sl__law_form : Array (Option Value)} {oc__law_form kV__law_form dc__law_form pm__law_form cd__law_form ct__law_form : Value}
    (a__law_form : PySem.W.nsIn K mainGlobals "_law_form" = some (some (.ref f__law_form))) (l__law_form : K.lookup f__law_form = some ⟨oc__law_form, od__law_form, .func (PySem.W.fnOf "_law_form" "_law_form" (defArgs s__law_form) (defBody s__law_form) (defScope s__law_form) .none kV__law_form dc__law_form pm__law_form an__law_form cd__law_form ct__law_form), sl__law_form⟩) (c__law_form : PySem.W.codeIn K cd__law_form "_law_form" = true) (k__law_form : PySem.W.keepIn K (.ref f__law_form) = true)
    {od__law_value an__law_value : Option Addr} {sl__law_value : Array (Option Value)} {oc__law_value kV__law_value dc__law_value pm__law_value cd__law_value ct__law_value : Value}
    (a__law_value : PySem.W.nsIn K mainGlobals "_law_value" = some (some (.ref f__law_value))) (l__law_value : K.lookup f__law_value = some ⟨oc__law_value, od__law_value, .func (PySem.W.fnOf "_law_value" "_law_value" (defArgs s__law_value) (defBody s__law_value) (defScope s__law_value) .none kV__law_value dc__law_value pm__law_value an__law_value cd__law_value ct__law_value), sl__law_value⟩) (c__law_value : PySem.W.codeIn K cd__law_value "_law_value" = true) (k__law_value : PySem.W.keepIn K (.ref f__law_value) = true)
    {od__law_idents an__law_idents : Option Addr} {sl__law_idents : Array (Option Value)} {oc__law_idents kV__law_idents dc__law_idents pm__law_idents cd__law_idents ct__law_idents : Value}
    (a__law_idents : PySem.W.nsIn K mainGlobals "_law_idents" = some (some (.ref f__law_idents))) (l__law_idents : K.lookup f__law_idents = some ⟨oc__law_idents, od__law_idents, .func (PySem.W.fnOf "_law_idents" "_law_idents" (defArgs s__law_idents) (defBody s__law_idents) (defScope s__law_idents) .none kV__law_idents dc__law_idents pm__law_idents an__law_idents cd__law_idents ct__law_idents), sl__law_idents⟩) (c__law_idents : PySem.W.codeIn K cd__law_idents "_law_idents" = true) (k__law_idents : PySem.W.keepIn K (.ref f__law_idents) = true)
    {od__law_any_key an__law_any_key : Option Addr} {sl__law_any_key : Array (Option Value)} {oc__law_any_key kV__law_any_key dc__law_any_key pm__law_any_key cd__law_any_key ct__law_any_key : Value}
    (a__law_any_key : PySem.W.nsIn K mainGlobals "_law_any_key" = some (some (.ref f__law_any_key))) (l__law_any_key : K.lookup f__law_any_key = some ⟨oc__law_any_key, od__law_any_key, .func (PySem.W.fnOf "_law_any_key" "_law_any_key" (defArgs s__law_any_key) (defBody s__law_any_key) (defScope s__law_any_key) .none kV__law_any_key dc__law_any_key pm__law_any_key an__law_any_key cd__law_any_key ct__law_any_key), sl__law_any_key⟩) (c__law_any_key : PySem.W.codeIn K cd__law_any_key "_law_any_key" = true) (k__law_any_key : PySem.W.keepIn K (.ref f__law_any_key) = true)
    {od__law_told_items an__law_told_items : Option Addr} {sl__law_told_items : Array (Option Value)} {oc__law_told_items kV__law_told_items dc__law_told_items pm__law_told_items cd__law_told_items ct__law_told_items : Value}
    (a__law_told_items : PySem.W.nsIn K mainGlobals "_law_told_items" = some (some (.ref f__law_told_items))) (l__law_told_items : K.lookup f__law_told_items = some ⟨oc__law_told_items, od__law_told_items, .func (PySem.W.fnOf "_law_told_items" "_law_told_items" (defArgs s__law_told_items) (defBody s__law_told_items) (defScope s__law_told_items) .none kV__law_told_items dc__law_told_items pm__law_told_items an__law_told_items cd__law_told_items ct__law_told_items), sl__law_told_items⟩) (c__law_told_items : PySem.W.codeIn K cd__law_told_items "_law_told_items" = true) (k__law_told_items : PySem.W.keepIn K (.ref f__law_told_items) = true)
    {od__law_all_rows an__law_all_rows : Option Addr} {sl__law_all_rows : Array (Option Value)} {oc__law_all_rows kV__law_all_rows dc__law_all_rows pm__law_all_rows cd__law_all_rows ct__law_all_rows : Value}
    (a__law_all_rows : PySem.W.nsIn K mainGlobals "_law_all_rows" = some (some (.ref f__law_all_rows))) (l__law_all_rows : K.lookup f__law_all_rows = some ⟨oc__law_all_rows, od__law_all_rows, .func (PySem.W.fnOf "_law_all_rows" "_law_all_rows" (defArgs s__law_all_rows) (defBody s__law_all_rows) (defScope s__law_all_rows) .none kV__law_all_rows dc__law_all_rows pm__law_all_rows an__law_all_rows cd__law_all_rows ct__law_all_rows), sl__law_all_rows⟩) (c__law_all_rows : PySem.W.codeIn K cd__law_all_rows "_law_all_rows" = true) (k__law_all_rows : PySem.W.keepIn K (.ref f__law_all_rows) = true)
    {od__law_unlike_rows an__law_unlike_rows : Option Addr} {sl__law_unlike_rows : Array (Option Value)} {oc__law_unlike_rows kV__law_unlike_rows dc__law_unlike_rows pm__law_unlike_rows cd__law_unlike_rows ct__law_unlike_rows : Value}
    (a__law_unlike_rows : PySem.W.nsIn K mainGlobals "_law_unlike_rows" = some (some (.ref f__law_unlike_rows))) (l__law_unlike_rows : K.lookup f__law_unlike_rows = some ⟨oc__law_unlike_rows, od__law_unlike_rows, .func (PySem.W.fnOf "_law_unlike_rows" "_law_unlike_rows" (defArgs s__law_unlike_rows) (defBody s__law_unlike_rows) (defScope s__law_unlike_rows) .none kV__law_unlike_rows dc__law_unlike_rows pm__law_unlike_rows an__law_unlike_rows cd__law_unlike_rows ct__law_unlike_rows), sl__law_unlike_rows⟩) (c__law_unlike_rows : PySem.W.codeIn K cd__law_unlike_rows "_law_unlike_rows" = true) (k__law_unlike_rows : PySem.W.keepIn K (.ref f__law_unlike_rows) = true)
    {od__law_first_of an__law_first_of : Option Addr} {sl__law_first_of : Array (Option Value)} {oc__law_first_of kV__law_first_of dc__law_first_of pm__law_first_of cd__law_first_of ct__law_first_of : Value}
    (a__law_first_of : PySem.W.nsIn K mainGlobals "_law_first_of" = some (some (.ref f__law_first_of))) (l__law_first_of : K.lookup f__law_first_of = some ⟨oc__law_first_of, od__law_first_of, .func (PySem.W.fnOf "_law_first_of" "_law_first_of" (defArgs s__law_first_of) (defBody s__law_first_of) (defScope s__law_first_of) .none kV__law_first_of dc__law_first_of pm__law_first_of an__law_first_of cd__law_first_of ct__law_first_of), sl__law_first_of⟩) (c__law_first_of : PySem.W.codeIn K cd__law_first_of "_law_first_of" = true) (k__law_first_of : PySem.W.keepIn K (.ref f__law_first_of) = true)
    {od__law_least an__law_least : Option Addr} {sl__law_least : Array (Option Value)} {oc__law_least kV__law_least dc__law_least pm__law_least cd__law_least ct__law_least : Value}
    (a__law_least : PySem.W.nsIn K mainGlobals "_law_least" = some (some (.ref f__law_least))) (l__law_least : K.lookup f__law_least = some ⟨oc__law_least, od__law_least, .func (PySem.W.fnOf "_law_least" "_law_least" (defArgs s__law_least) (defBody s__law_least) (defScope s__law_least) .none kV__law_least dc__law_least pm__law_least an__law_least cd__law_least ct__law_least), sl__law_least⟩) (c__law_least : PySem.W.codeIn K cd__law_least "_law_least" = true) (k__law_least : PySem.W.keepIn K (.ref f__law_least) = true)
    {od__law_plain an__law_plain : Option Addr} {sl__law_plain : Array (Option Value)} {oc__law_plain kV__law_plain dc__law_plain pm__law_plain cd__law_plain ct__law_plain : Value}
    (a__law_plain : PySem.W.nsIn K mainGlobals "_law_plain" = some (some (.ref f__law_plain))) (l__law_plain : K.lookup f__law_plain = some ⟨oc__law_plain, od__law_plain, .func (PySem.W.fnOf "_law_plain" "_law_plain" (defArgs s__law_plain) (defBody s__law_plain) (defScope s__law_plain) .none kV__law_plain dc__law_plain pm__law_plain an__law_plain cd__law_plain ct__law_plain), sl__law_plain⟩) (c__law_plain : PySem.W.codeIn K cd__law_plain "_law_plain" = true) (k__law_plain : PySem.W.keepIn K (.ref f__law_plain) = true)
    {od__law_right an__law_right : Option Addr} {sl__law_right : Array (Option Value)} {oc__law_right kV__law_right dc__law_right pm__law_right cd__law_right ct__law_right : Value}
    (a__law_right : PySem.W.nsIn K mainGlobals "_law_right" = some (some (.ref f__law_right))) (l__law_right : K.lookup f__law_right = some ⟨oc__law_right, od__law_right, .func (PySem.W.fnOf "_law_right" "_law_right" (defArgs s__law_right) (defBody s__law_right) (defScope s__law_right) .none kV__law_right dc__law_right pm__law_right an__law_right cd__law_right ct__law_right), sl__law_right⟩) (c__law_right : PySem.W.codeIn K cd__law_right "_law_right" = true) (k__law_right : PySem.W.keepIn K (.ref f__law_right) = true)
    {od__law_menu_of an__law_menu_of : Option Addr} {sl__law_menu_of : Array (Option Value)} {oc__law_menu_of kV__law_menu_of dc__law_menu_of pm__law_menu_of cd__law_menu_of ct__law_menu_of : Value}
    (a__law_menu_of : PySem.W.nsIn K mainGlobals "_law_menu_of" = some (some (.ref f__law_menu_of))) (l__law_menu_of : K.lookup f__law_menu_of = some ⟨oc__law_menu_of, od__law_menu_of, .func (PySem.W.fnOf "_law_menu_of" "_law_menu_of" (defArgs s__law_menu_of) (defBody s__law_menu_of) (defScope s__law_menu_of) .none kV__law_menu_of dc__law_menu_of pm__law_menu_of an__law_menu_of cd__law_menu_of ct__law_menu_of), sl__law_menu_of⟩) (c__law_menu_of : PySem.W.codeIn K cd__law_menu_of "_law_menu_of" = true) (k__law_menu_of : PySem.W.keepIn K (.ref f__law_menu_of) = true)
    {od_law an_law : Option Addr} {sl_law : Array (Option Value)} {oc_law kV_law dc_law pm_law cd_law ct_law : Value}
    (a_law : PySem.W.nsIn K mainGlobals "law" = some (some (.ref f_law))) (l_law : K.lookup f_law = some ⟨oc_law, od_law, .func (PySem.W.fnOf "law" "law" (defArgs s_law) (defBody s_law) (defScope s_law) .none kV_law dc_law pm_law an_law cd_law ct_law), sl_law⟩) (c_law : PySem.W.codeIn K cd_law "law" = true) (k_law : PySem.W.keepIn K (.ref f_law) = true)
    (aC_Key : PySem.W.nsIn K mainGlobals "Key" = some (some (.ref C_Key))) (pg_Key : PySem.W.plainGet K C_Key Str.empty = true) (hd_Key : PySem.W.hasDictIn K C_Key = true) (po_Key : PySem.W.plainOver K C_Key = true) (sa_Key : PySem.W.findIn K (.ref C_Key) "__setattr__" = some (some (.builtin "object.__setattr__"))) (mk_Key : PySem.W.makesIn K C_Key = true) (kc_Key : PySem.W.keepIn K (.ref C_Key) = true) (nf_Key : PySem.W.notFirst K C_Key (.ref C_Key) = true) (ih_Key : PySem.W.findIn K (.ref C_Key) "__class__" = some (some (.builtin "object.__class__"))) (ig_Key : PySem.W.specialIn K (.builtin "object.__class__") "__get__" = some (some (.builtin "getset_descriptor.__get__"))) (it_Key : PySem.W.takesIn K (.builtin "object.__class__") = some true) (io_Key : PySem.W.mroIn K C_Key (.type "object") = some true) (ik_Key : PySem.W.kitOne K (.ref C_Key) (.ref C_Key) = some true)
    (nA_Key__parts : PySem.W.findIn K (.ref C_Key) "_parts" = some none)
    {od_Key___init__ an_Key___init__ : Option Addr} {sl_Key___init__ : Array (Option Value)} {oc_Key___init__ kV_Key___init__ dc_Key___init__ pm_Key___init__ cd_Key___init__ ct_Key___init__ : Value}
    (a_Key___init__ : PySem.W.findIn K (.ref C_Key) "__init__" = some (some (.ref f_Key___init__))) (i_Key___init__ : PySem.W.isFn K (.ref f_Key___init__) = true) (n_Key___init__ : PySem.W.fnIn K f_Key___init__ = true)
    (l_Key___init__ : K.lookup f_Key___init__ = some ⟨oc_Key___init__, od_Key___init__, .func (PySem.W.fnOf "__init__" "Key.__init__" (defArgs s_Key___init__) (defBody s_Key___init__) (defScope s_Key___init__) .none kV_Key___init__ dc_Key___init__ pm_Key___init__ an_Key___init__ cd_Key___init__ ct_Key___init__), sl_Key___init__⟩) (c_Key___init__ : PySem.W.codeIn K cd_Key___init__ "Key.__init__" = true) (k_Key___init__ : PySem.W.keepIn K (.ref f_Key___init__) = true)
    {od_Key_parts an_Key_parts : Option Addr} {sl_Key_parts : Array (Option Value)} {oc_Key_parts kV_Key_parts dc_Key_parts pm_Key_parts cd_Key_parts ct_Key_parts : Value}
    {re_Key_parts : List Value} (a_Key_parts : PySem.W.findIn K (.ref C_Key) "parts" = some (some (.ref p_Key_parts))) (ge_Key_parts : PySem.W.specialIn K (.ref p_Key_parts) "__get__" = some (some (.builtin "property.__get__"))) (ta_Key_parts : PySem.W.takesIn K (.ref p_Key_parts) = some true) (re1_Key_parts : PySem.W.recIn K p_Key_parts "property" = some (.ref f_Key_parts :: re_Key_parts))
    (l_Key_parts : K.lookup f_Key_parts = some ⟨oc_Key_parts, od_Key_parts, .func (PySem.W.fnOf "parts" "Key.parts" (defArgs s_Key_parts) (defBody s_Key_parts) (defScope s_Key_parts) .none kV_Key_parts dc_Key_parts pm_Key_parts an_Key_parts cd_Key_parts ct_Key_parts), sl_Key_parts⟩) (c_Key_parts : PySem.W.codeIn K cd_Key_parts "Key.parts" = true) (k_Key_parts : PySem.W.keepIn K (.ref f_Key_parts) = true)
    {od_Key___call__ an_Key___call__ : Option Addr} {sl_Key___call__ : Array (Option Value)} {oc_Key___call__ kV_Key___call__ dc_Key___call__ pm_Key___call__ cd_Key___call__ ct_Key___call__ : Value}
    (a_Key___call__ : PySem.W.findIn K (.ref C_Key) "__call__" = some (some (.ref f_Key___call__))) (i_Key___call__ : PySem.W.isFn K (.ref f_Key___call__) = true) (n_Key___call__ : PySem.W.fnIn K f_Key___call__ = true)
    (l_Key___call__ : K.lookup f_Key___call__ = some ⟨oc_Key___call__, od_Key___call__, .func (PySem.W.fnOf "__call__" "Key.__call__" (defArgs s_Key___call__) (defBody s_Key___call__) (defScope s_Key___call__) .none kV_Key___call__ dc_Key___call__ pm_Key___call__ an_Key___call__ cd_Key___call__ ct_Key___call__), sl_Key___call__⟩) (c_Key___call__ : PySem.W.codeIn K cd_Key___call__ "Key.__call__" = true) (k_Key___call__ : PySem.W.keepIn K (.ref f_Key___call__) = true)
    {od_Key___le__ an_Key___le__ : Option Addr} {sl_Key___le__ : Array (Option Value)} {oc_Key___le__ kV_Key___le__ dc_Key___le__ pm_Key___le__ cd_Key___le__ ct_Key___le__ : Value}
    (a_Key___le__ : PySem.W.findIn K (.ref C_Key) "__le__" = some (some (.ref f_Key___le__))) (i_Key___le__ : PySem.W.isFn K (.ref f_Key___le__) = true) (n_Key___le__ : PySem.W.fnIn K f_Key___le__ = true)
    (l_Key___le__ : K.lookup f_Key___le__ = some ⟨oc_Key___le__, od_Key___le__, .func (PySem.W.fnOf "__le__" "Key.__le__" (defArgs s_Key___le__) (defBody s_Key___le__) (defScope s_Key___le__) .none kV_Key___le__ dc_Key___le__ pm_Key___le__ an_Key___le__ cd_Key___le__ ct_Key___le__), sl_Key___le__⟩) (c_Key___le__ : PySem.W.codeIn K cd_Key___le__ "Key.__le__" = true) (k_Key___le__ : PySem.W.keepIn K (.ref f_Key___le__) = true)
    {od_Key_idents an_Key_idents : Option Addr} {sl_Key_idents : Array (Option Value)} {oc_Key_idents kV_Key_idents dc_Key_idents pm_Key_idents cd_Key_idents ct_Key_idents : Value}
    (a_Key_idents : PySem.W.findIn K (.ref C_Key) "idents" = some (some (.ref f_Key_idents))) (i_Key_idents : PySem.W.isFn K (.ref f_Key_idents) = true) (n_Key_idents : PySem.W.fnIn K f_Key_idents = true)
    (l_Key_idents : K.lookup f_Key_idents = some ⟨oc_Key_idents, od_Key_idents, .func (PySem.W.fnOf "idents" "Key.idents" (defArgs s_Key_idents) (defBody s_Key_idents) (defScope s_Key_idents) .none kV_Key_idents dc_Key_idents pm_Key_idents an_Key_idents cd_Key_idents ct_Key_idents), sl_Key_idents⟩) (c_Key_idents : PySem.W.codeIn K cd_Key_idents "Key.idents" = true) (k_Key_idents : PySem.W.keepIn K (.ref f_Key_idents) = true)
    (aC_Known : PySem.W.nsIn K mainGlobals "Known" = some (some (.ref C_Known))) (pg_Known : PySem.W.plainGet K C_Known Str.empty = true) (hd_Known : PySem.W.hasDictIn K C_Known = true) (po_Known : PySem.W.plainOver K C_Known = true) (sa_Known : PySem.W.findIn K (.ref C_Known) "__setattr__" = some (some (.builtin "object.__setattr__"))) (mk_Known : PySem.W.makesIn K C_Known = true) (kc_Known : PySem.W.keepIn K (.ref C_Known) = true) (nf_Known : PySem.W.notFirst K C_Known (.ref C_Known) = true) (ih_Known : PySem.W.findIn K (.ref C_Known) "__class__" = some (some (.builtin "object.__class__"))) (ig_Known : PySem.W.specialIn K (.builtin "object.__class__") "__get__" = some (some (.builtin "getset_descriptor.__get__"))) (it_Known : PySem.W.takesIn K (.builtin "object.__class__") = some true) (io_Known : PySem.W.mroIn K C_Known (.type "object") = some true) (ik_Known : PySem.W.kitOne K (.ref C_Known) (.ref C_Known) = some true)
    (ns_Known : PySem.W.noSeq K C_Known = true)
    (nA_Known__idents : PySem.W.findIn K (.ref C_Known) "_idents" = some none)
    (nA_Known__key : PySem.W.findIn K (.ref C_Known) "_key" = some none)
    (nA_Known__numbers : PySem.W.findIn K (.ref C_Known) "_numbers" = some none)
    (nA_Known_row : PySem.W.findIn K (.ref C_Known) "row" = some none)
    {od_Known___init__ an_Known___init__ : Option Addr} {sl_Known___init__ : Array (Option Value)} {oc_Known___init__ kV_Known___init__ dc_Known___init__ pm_Known___init__ cd_Known___init__ ct_Known___init__ : Value}
    (a_Known___init__ : PySem.W.findIn K (.ref C_Known) "__init__" = some (some (.ref f_Known___init__))) (i_Known___init__ : PySem.W.isFn K (.ref f_Known___init__) = true) (n_Known___init__ : PySem.W.fnIn K f_Known___init__ = true)
    (l_Known___init__ : K.lookup f_Known___init__ = some ⟨oc_Known___init__, od_Known___init__, .func (PySem.W.fnOf "__init__" "Known.__init__" (defArgs s_Known___init__) (defBody s_Known___init__) (defScope s_Known___init__) .none kV_Known___init__ dc_Known___init__ pm_Known___init__ an_Known___init__ cd_Known___init__ ct_Known___init__), sl_Known___init__⟩) (c_Known___init__ : PySem.W.codeIn K cd_Known___init__ "Known.__init__" = true) (k_Known___init__ : PySem.W.keepIn K (.ref f_Known___init__) = true)
    {od_Known___getitem__ an_Known___getitem__ : Option Addr} {sl_Known___getitem__ : Array (Option Value)} {oc_Known___getitem__ kV_Known___getitem__ dc_Known___getitem__ pm_Known___getitem__ cd_Known___getitem__ ct_Known___getitem__ : Value}
    (a_Known___getitem__ : PySem.W.findIn K (.ref C_Known) "__getitem__" = some (some (.ref f_Known___getitem__))) (i_Known___getitem__ : PySem.W.isFn K (.ref f_Known___getitem__) = true) (n_Known___getitem__ : PySem.W.fnIn K f_Known___getitem__ = true)
    (l_Known___getitem__ : K.lookup f_Known___getitem__ = some ⟨oc_Known___getitem__, od_Known___getitem__, .func (PySem.W.fnOf "__getitem__" "Known.__getitem__" (defArgs s_Known___getitem__) (defBody s_Known___getitem__) (defScope s_Known___getitem__) .none kV_Known___getitem__ dc_Known___getitem__ pm_Known___getitem__ an_Known___getitem__ cd_Known___getitem__ ct_Known___getitem__), sl_Known___getitem__⟩) (c_Known___getitem__ : PySem.W.codeIn K cd_Known___getitem__ "Known.__getitem__" = true) (k_Known___getitem__ : PySem.W.keepIn K (.ref f_Known___getitem__) = true)
    {od_Known___setitem__ an_Known___setitem__ : Option Addr} {sl_Known___setitem__ : Array (Option Value)} {oc_Known___setitem__ kV_Known___setitem__ dc_Known___setitem__ pm_Known___setitem__ cd_Known___setitem__ ct_Known___setitem__ : Value}
    (a_Known___setitem__ : PySem.W.findIn K (.ref C_Known) "__setitem__" = some (some (.ref f_Known___setitem__))) (i_Known___setitem__ : PySem.W.isFn K (.ref f_Known___setitem__) = true) (n_Known___setitem__ : PySem.W.fnIn K f_Known___setitem__ = true)
    (l_Known___setitem__ : K.lookup f_Known___setitem__ = some ⟨oc_Known___setitem__, od_Known___setitem__, .func (PySem.W.fnOf "__setitem__" "Known.__setitem__" (defArgs s_Known___setitem__) (defBody s_Known___setitem__) (defScope s_Known___setitem__) .none kV_Known___setitem__ dc_Known___setitem__ pm_Known___setitem__ an_Known___setitem__ cd_Known___setitem__ ct_Known___setitem__), sl_Known___setitem__⟩) (c_Known___setitem__ : PySem.W.codeIn K cd_Known___setitem__ "Known.__setitem__" = true) (k_Known___setitem__ : PySem.W.keepIn K (.ref f_Known___setitem__) = true)
    {od_Known___iter__ an_Known___iter__ : Option Addr} {sl_Known___iter__ : Array (Option Value)} {oc_Known___iter__ kV_Known___iter__ dc_Known___iter__ pm_Known___iter__ cd_Known___iter__ ct_Known___iter__ : Value}
    (a_Known___iter__ : PySem.W.findIn K (.ref C_Known) "__iter__" = some (some (.ref f_Known___iter__))) (i_Known___iter__ : PySem.W.isFn K (.ref f_Known___iter__) = true) (n_Known___iter__ : PySem.W.fnIn K f_Known___iter__ = true)
    (l_Known___iter__ : K.lookup f_Known___iter__ = some ⟨oc_Known___iter__, od_Known___iter__, .func (PySem.W.fnOf "__iter__" "Known.__iter__" (defArgs s_Known___iter__) (defBody s_Known___iter__) (defScope s_Known___iter__) .none kV_Known___iter__ dc_Known___iter__ pm_Known___iter__ an_Known___iter__ cd_Known___iter__ ct_Known___iter__), sl_Known___iter__⟩) (c_Known___iter__ : PySem.W.codeIn K cd_Known___iter__ "Known.__iter__" = true) (k_Known___iter__ : PySem.W.keepIn K (.ref f_Known___iter__) = true)
    {od_Known_show an_Known_show : Option Addr} {sl_Known_show : Array (Option Value)} {oc_Known_show kV_Known_show dc_Known_show pm_Known_show cd_Known_show ct_Known_show : Value}
    (a_Known_show : PySem.W.findIn K (.ref C_Known) "show" = some (some (.ref f_Known_show))) (i_Known_show : PySem.W.isFn K (.ref f_Known_show) = true) (n_Known_show : PySem.W.fnIn K f_Known_show = true)
    (l_Known_show : K.lookup f_Known_show = some ⟨oc_Known_show, od_Known_show, .func (PySem.W.fnOf "show" "Known.show" (defArgs s_Known_show) (defBody s_Known_show) (defScope s_Known_show) .none kV_Known_show dc_Known_show pm_Known_show an_Known_show cd_Known_show ct_Known_show), sl_Known_show⟩) (c_Known_show : PySem.W.codeIn K cd_Known_show "Known.show" = true) (k_Known_show : PySem.W.keepIn K (.ref f_Known_show) = true)
    (aC_Things : PySem.W.nsIn K mainGlobals "Things" = some (some (.ref C_Things))) (pg_Things : PySem.W.plainGet K C_Things Str.empty = true) (hd_Things : PySem.W.hasDictIn K C_Things = true) (po_Things : PySem.W.plainOver K C_Things = true) (sa_Things : PySem.W.findIn K (.ref C_Things) "__setattr__" = some (some (.builtin "object.__setattr__"))) (mk_Things : PySem.W.makesIn K C_Things = true) (kc_Things : PySem.W.keepIn K (.ref C_Things) = true) (nf_Things : PySem.W.notFirst K C_Things (.ref C_Things) = true) (ih_Things : PySem.W.findIn K (.ref C_Things) "__class__" = some (some (.builtin "object.__class__"))) (ig_Things : PySem.W.specialIn K (.builtin "object.__class__") "__get__" = some (some (.builtin "getset_descriptor.__get__"))) (it_Things : PySem.W.takesIn K (.builtin "object.__class__") = some true) (io_Things : PySem.W.mroIn K C_Things (.type "object") = some true) (ik_Things : PySem.W.kitOne K (.ref C_Things) (.ref C_Things) = some true)
    (ns_Things : PySem.W.noSeq K C_Things = true)
    (nA_Things__numbers : PySem.W.findIn K (.ref C_Things) "_numbers" = some none)
    (nA_Things_row : PySem.W.findIn K (.ref C_Things) "row" = some none)
    {od_Things___init__ an_Things___init__ : Option Addr} {sl_Things___init__ : Array (Option Value)} {oc_Things___init__ kV_Things___init__ dc_Things___init__ pm_Things___init__ cd_Things___init__ ct_Things___init__ : Value}
    (a_Things___init__ : PySem.W.findIn K (.ref C_Things) "__init__" = some (some (.ref f_Things___init__))) (i_Things___init__ : PySem.W.isFn K (.ref f_Things___init__) = true) (n_Things___init__ : PySem.W.fnIn K f_Things___init__ = true)
    (l_Things___init__ : K.lookup f_Things___init__ = some ⟨oc_Things___init__, od_Things___init__, .func (PySem.W.fnOf "__init__" "Things.__init__" (defArgs s_Things___init__) (defBody s_Things___init__) (defScope s_Things___init__) .none kV_Things___init__ dc_Things___init__ pm_Things___init__ an_Things___init__ cd_Things___init__ ct_Things___init__), sl_Things___init__⟩) (c_Things___init__ : PySem.W.codeIn K cd_Things___init__ "Things.__init__" = true) (k_Things___init__ : PySem.W.keepIn K (.ref f_Things___init__) = true)
    {od_Things___getitem__ an_Things___getitem__ : Option Addr} {sl_Things___getitem__ : Array (Option Value)} {oc_Things___getitem__ kV_Things___getitem__ dc_Things___getitem__ pm_Things___getitem__ cd_Things___getitem__ ct_Things___getitem__ : Value}
    (a_Things___getitem__ : PySem.W.findIn K (.ref C_Things) "__getitem__" = some (some (.ref f_Things___getitem__))) (i_Things___getitem__ : PySem.W.isFn K (.ref f_Things___getitem__) = true) (n_Things___getitem__ : PySem.W.fnIn K f_Things___getitem__ = true)
    (l_Things___getitem__ : K.lookup f_Things___getitem__ = some ⟨oc_Things___getitem__, od_Things___getitem__, .func (PySem.W.fnOf "__getitem__" "Things.__getitem__" (defArgs s_Things___getitem__) (defBody s_Things___getitem__) (defScope s_Things___getitem__) .none kV_Things___getitem__ dc_Things___getitem__ pm_Things___getitem__ an_Things___getitem__ cd_Things___getitem__ ct_Things___getitem__), sl_Things___getitem__⟩) (c_Things___getitem__ : PySem.W.codeIn K cd_Things___getitem__ "Things.__getitem__" = true) (k_Things___getitem__ : PySem.W.keepIn K (.ref f_Things___getitem__) = true)
    {od_Things___setitem__ an_Things___setitem__ : Option Addr} {sl_Things___setitem__ : Array (Option Value)} {oc_Things___setitem__ kV_Things___setitem__ dc_Things___setitem__ pm_Things___setitem__ cd_Things___setitem__ ct_Things___setitem__ : Value}
    (a_Things___setitem__ : PySem.W.findIn K (.ref C_Things) "__setitem__" = some (some (.ref f_Things___setitem__))) (i_Things___setitem__ : PySem.W.isFn K (.ref f_Things___setitem__) = true) (n_Things___setitem__ : PySem.W.fnIn K f_Things___setitem__ = true)
    (l_Things___setitem__ : K.lookup f_Things___setitem__ = some ⟨oc_Things___setitem__, od_Things___setitem__, .func (PySem.W.fnOf "__setitem__" "Things.__setitem__" (defArgs s_Things___setitem__) (defBody s_Things___setitem__) (defScope s_Things___setitem__) .none kV_Things___setitem__ dc_Things___setitem__ pm_Things___setitem__ an_Things___setitem__ cd_Things___setitem__ ct_Things___setitem__), sl_Things___setitem__⟩) (c_Things___setitem__ : PySem.W.codeIn K cd_Things___setitem__ "Things.__setitem__" = true) (k_Things___setitem__ : PySem.W.keepIn K (.ref f_Things___setitem__) = true)
    {od_Things___iter__ an_Things___iter__ : Option Addr} {sl_Things___iter__ : Array (Option Value)} {oc_Things___iter__ kV_Things___iter__ dc_Things___iter__ pm_Things___iter__ cd_Things___iter__ ct_Things___iter__ : Value}
    (a_Things___iter__ : PySem.W.findIn K (.ref C_Things) "__iter__" = some (some (.ref f_Things___iter__))) (i_Things___iter__ : PySem.W.isFn K (.ref f_Things___iter__) = true) (n_Things___iter__ : PySem.W.fnIn K f_Things___iter__ = true)
    (l_Things___iter__ : K.lookup f_Things___iter__ = some ⟨oc_Things___iter__, od_Things___iter__, .func (PySem.W.fnOf "__iter__" "Things.__iter__" (defArgs s_Things___iter__) (defBody s_Things___iter__) (defScope s_Things___iter__) .none kV_Things___iter__ dc_Things___iter__ pm_Things___iter__ an_Things___iter__ cd_Things___iter__ ct_Things___iter__), sl_Things___iter__⟩) (c_Things___iter__ : PySem.W.codeIn K cd_Things___iter__ "Things.__iter__" = true) (k_Things___iter__ : PySem.W.keepIn K (.ref f_Things___iter__) = true)
    {od_Things_show an_Things_show : Option Addr} {sl_Things_show : Array (Option Value)} {oc_Things_show kV_Things_show dc_Things_show pm_Things_show cd_Things_show ct_Things_show : Value}
    (a_Things_show : PySem.W.findIn K (.ref C_Things) "show" = some (some (.ref f_Things_show))) (i_Things_show : PySem.W.isFn K (.ref f_Things_show) = true) (n_Things_show : PySem.W.fnIn K f_Things_show = true)
    (l_Things_show : K.lookup f_Things_show = some ⟨oc_Things_show, od_Things_show, .func (PySem.W.fnOf "show" "Things.show" (defArgs s_Things_show) (defBody s_Things_show) (defScope s_Things_show) .none kV_Things_show dc_Things_show pm_Things_show an_Things_show cd_Things_show ct_Things_show), sl_Things_show⟩) (c_Things_show : PySem.W.codeIn K cd_Things_show "Things.show" = true) (k_Things_show : PySem.W.keepIn K (.ref f_Things_show) = true)
    {t_MOST_LETTERS : Tok} (z_MOST_LETTERS : PySem.W.nsIn K mainGlobals "MOST_LETTERS" = some (some (.int 8 t_MOST_LETTERS)))
    {t_MOST_LEVELS : Tok} (z_MOST_LEVELS : PySem.W.nsIn K mainGlobals "MOST_LEVELS" = some (some (.int 5 t_MOST_LEVELS)))
    {t_MOST_ITEMS : Tok} (z_MOST_ITEMS : PySem.W.nsIn K mainGlobals "MOST_ITEMS" = some (some (.int 5 t_MOST_ITEMS)))
    (z_ValueError : PySem.W.nsIn K mainGlobals "ValueError" = some none)
    (z_abs : PySem.W.nsIn K mainGlobals "abs" = some none)
    (z_all : PySem.W.nsIn K mainGlobals "all" = some none)
    (z_bool : PySem.W.nsIn K mainGlobals "bool" = some none)
    (z_enumerate : PySem.W.nsIn K mainGlobals "enumerate" = some none)
    (z_int : PySem.W.nsIn K mainGlobals "int" = some none)
    (z_isinstance : PySem.W.nsIn K mainGlobals "isinstance" = some none)
    (z_iter : PySem.W.nsIn K mainGlobals "iter" = some none)
    (z_len : PySem.W.nsIn K mainGlobals "len" = some none)
    (z_range : PySem.W.nsIn K mainGlobals "range" = some none)
    (z_set : PySem.W.nsIn K mainGlobals "set" = some none)
    (z_str : PySem.W.nsIn K mainGlobals "str" = some none)
    (z_tuple : PySem.W.nsIn K mainGlobals "tuple" = some none)
    (z_zip : PySem.W.nsIn K mainGlobals "zip" = some none)
    {pM : Addr} {esM : Array DictEntry} {nM : Nat} {tM1 tM2 tM3 : Tok} (uM : PySem.W.nsIn K mainGlobals "MANY_PARTS" = some (some (.ref pM))) (lM : K.lookup pM = some ⟨.type "dict", none, .dict esM nM, #[]⟩) (kM : PySem.W.KeysLit w.params esM.toList) (oM : (pM == sysModules) = false)
    (i1 : PySem.W.nsIn K pM "is" = some none) (i2 : PySem.W.nsIn K pM "get" = some none) (i3 : PySem.W.nsIn K pM "sum" = some (some (.int 2 tM1))) (i4 : PySem.W.nsIn K pM "same" = some (some (.int 2 tM2))) (i5 : PySem.W.nsIn K pM "pick" = some (some (.int 3 tM3))) :
    ∃ fd : FuncData, (∀ (s : Shared) (v : Value), BindsTo s fd ⟨[v], []⟩ [("_law_script", v)]) ∧ ∀ base : Heap, K.In base → base.Ns mainGlobals mg → FnOk l.prog w K mg base CX0 17 fa fd ["_law_script"] (sp_law K) := by
  have e := hfa.symm.trans (PySem.W.mg_of X G a_law)
  cases e
  let T : Txt K mg := { f_is_whole := f_is_whole, d_is_whole := _, F_is_whole := fun_mk (st := s_is_whole) l_is_whole c_is_whole k_is_whole, b_is_whole := (fun_mk (st := s_is_whole) l_is_whole c_is_whole k_is_whole).binds fun _ _ _ _ _ _ us hl => match us, hl with | [_], _ => rfl, g_is_whole := PySem.W.mg_of X G a_is_whole, f_is_value := f_is_value, d_is_value := _, F_is_value := fun_mk (st := s_is_value) l_is_value c_is_value k_is_value, b_is_value := (fun_mk (st := s_is_value) l_is_value c_is_value k_is_value).binds fun _ _ _ _ _ _ us hl => match us, hl with | [_], _ => rfl, g_is_value := PySem.W.mg_of X G a_is_value, f_is_name := f_is_name, d_is_name := _, F_is_name := fun_mk (st := s_is_name) l_is_name c_is_name k_is_name, b_is_name := (fun_mk (st := s_is_name) l_is_name c_is_name k_is_name).binds fun _ _ _ _ _ _ us hl => match us, hl with | [_], _ => rfl, g_is_name := PySem.W.mg_of X G a_is_name, f_inner_forms := f_inner_forms, d_inner_forms := _, F_inner_forms := fun_mk (st := s_inner_forms) l_inner_forms c_inner_forms k_inner_forms, b_inner_forms := (fun_mk (st := s_inner_forms) l_inner_forms c_inner_forms k_inner_forms).binds fun _ _ _ _ _ _ us hl => match us, hl with | [_], _ => rfl, g_inner_forms := PySem.W.mg_of X G a_inner_forms, f__well_made := f__well_made, d__well_made := _, F__well_made := fun_mk (st := s__well_made) l__well_made c__well_made k__well_made, b__well_made := (fun_mk (st := s__well_made) l__well_made c__well_made k__well_made).binds fun _ _ _ _ _ _ us hl => match us, hl with | [_], _ => rfl, g__well_made := PySem.W.mg_of X G a__well_made, f_check_form := f_check_form, d_check_form := _, F_check_form := fun_mk (st := s_check_form) l_check_form c_check_form k_check_form, b_check_form := (fun_mk (st := s_check_form) l_check_form c_check_form k_check_form).binds fun _ _ _ _ _ _ us hl => match us, hl with | [_], _ => rfl, g_check_form := PySem.W.mg_of X G a_check_form, f_value_of := f_value_of, d_value_of := _, F_value_of := fun_mk (st := s_value_of) l_value_of c_value_of k_value_of, b_value_of := (fun_mk (st := s_value_of) l_value_of c_value_of k_value_of).binds fun _ _ _ _ _ _ us hl => match us, hl with | [_, _], _ => rfl, g_value_of := PySem.W.mg_of X G a_value_of, f_names_in := f_names_in, d_names_in := _, F_names_in := fun_mk (st := s_names_in) l_names_in c_names_in k_names_in, b_names_in := (fun_mk (st := s_names_in) l_names_in c_names_in k_names_in).binds fun _ _ _ _ _ _ us hl => match us, hl with | [_], _ => rfl, g_names_in := PySem.W.mg_of X G a_names_in, f_is_row := f_is_row, d_is_row := _, F_is_row := fun_mk (st := s_is_row) l_is_row c_is_row k_is_row, b_is_row := (fun_mk (st := s_is_row) l_is_row c_is_row k_is_row).binds fun _ _ _ _ _ _ us hl => match us, hl with | [_], _ => rfl, g_is_row := PySem.W.mg_of X G a_is_row, f_check_rows := f_check_rows, d_check_rows := _, F_check_rows := fun_mk (st := s_check_rows) l_check_rows c_check_rows k_check_rows, b_check_rows := (fun_mk (st := s_check_rows) l_check_rows c_check_rows k_check_rows).binds fun _ _ _ _ _ _ us hl => match us, hl with | [_], _ => rfl, g_check_rows := PySem.W.mg_of X G a_check_rows, f__key_value := f__key_value, d__key_value := _, F__key_value := fun_mk (st := s__key_value) l__key_value c__key_value k__key_value, b__key_value := (fun_mk (st := s__key_value) l__key_value c__key_value k__key_value).binds fun _ _ _ _ _ _ us hl => match us, hl with | [_, _, _], _ => rfl, g__key_value := PySem.W.mg_of X G a__key_value, f__idents := f__idents, d__idents := _, F__idents := fun_mk (st := s__idents) l__idents c__idents k__idents, b__idents := (fun_mk (st := s__idents) l__idents c__idents k__idents).binds fun _ _ _ _ _ _ us hl => match us, hl with | [_, _], _ => rfl, g__idents := PySem.W.mg_of X G a__idents, f__matches := f__matches, d__matches := _, F__matches := fun_mk (st := s__matches) l__matches c__matches k__matches, b__matches := (fun_mk (st := s__matches) l__matches c__matches k__matches).binds fun _ _ _ _ _ _ us hl => match us, hl with | [_, _], _ => rfl, g__matches := PySem.W.mg_of X G a__matches, f__slipped := f__slipped, d__slipped := _, F__slipped := fun_mk (st := s__slipped) l__slipped c__slipped k__slipped, b__slipped := (fun_mk (st := s__slipped) l__slipped c__slipped k__slipped).binds fun _ _ _ _ _ _ us hl => match us, hl with | [_, _, _], _ => rfl, g__slipped := PySem.W.mg_of X G a__slipped, f__lost := f__lost, d__lost := _, F__lost := fun_mk (st := s__lost) l__lost c__lost k__lost, b__lost := (fun_mk (st := s__lost) l__lost c__lost k__lost).binds fun _ _ _ _ _ _ us hl => match us, hl with | [_, _, _], _ => rfl, g__lost := PySem.W.mg_of X G a__lost, f__first_parted := f__first_parted, d__first_parted := _, F__first_parted := fun_mk (st := s__first_parted) l__first_parted c__first_parted k__first_parted, b__first_parted := (fun_mk (st := s__first_parted) l__first_parted c__first_parted k__first_parted).binds fun _ _ _ _ _ _ us hl => match us, hl with | [_, _], _ => rfl, g__first_parted := PySem.W.mg_of X G a__first_parted, f_faithful := f_faithful, d_faithful := _, F_faithful := fun_mk (st := s_faithful) l_faithful c_faithful k_faithful, b_faithful := (fun_mk (st := s_faithful) l_faithful c_faithful k_faithful).binds fun _ _ _ _ _ _ us hl => match us, hl with | [_, _], _ => rfl, g_faithful := PySem.W.mg_of X G a_faithful, f__rows_of := f__rows_of, d__rows_of := _, F__rows_of := fun_mk (st := s__rows_of) l__rows_of c__rows_of k__rows_of, b__rows_of := (fun_mk (st := s__rows_of) l__rows_of c__rows_of k__rows_of).binds fun _ _ _ _ _ _ us hl => match us, hl with | [_, _], _ => rfl, g__rows_of := PySem.W.mg_of X G a__rows_of, f_least_pair := f_least_pair, d_least_pair := _, F_least_pair := fun_mk (st := s_least_pair) l_least_pair c_least_pair k_least_pair, b_least_pair := (fun_mk (st := s_least_pair) l_least_pair c_least_pair k_least_pair).binds fun _ _ _ _ _ _ us hl => match us, hl with | [_, _, _], _ => rfl, g_least_pair := PySem.W.mg_of X G a_least_pair, f__differ := f__differ, d__differ := _, F__differ := fun_mk (st := s__differ) l__differ c__differ k__differ, b__differ := (fun_mk (st := s__differ) l__differ c__differ k__differ).binds fun _ _ _ _ _ _ us hl => match us, hl with | [_, _, _, _], _ => rfl, g__differ := PySem.W.mg_of X G a__differ, f_least_parting := f_least_parting, d_least_parting := _, F_least_parting := fun_mk (st := s_least_parting) l_least_parting c_least_parting k_least_parting, b_least_parting := (fun_mk (st := s_least_parting) l_least_parting c_least_parting k_least_parting).binds fun _ _ _ _ _ _ us hl => match us, hl with | [_, _], _ => rfl, g_least_parting := PySem.W.mg_of X G a_least_parting, f__law_mixed := f__law_mixed, d__law_mixed := _, F__law_mixed := fun_mk (st := s__law_mixed) l__law_mixed c__law_mixed k__law_mixed, b__law_mixed := (fun_mk (st := s__law_mixed) l__law_mixed c__law_mixed k__law_mixed).binds fun _ _ _ _ _ _ us hl => match us, hl with | [_, _], _ => rfl, g__law_mixed := PySem.W.mg_of X G a__law_mixed, f__law_bag := f__law_bag, d__law_bag := _, F__law_bag := fun_mk (st := s__law_bag) l__law_bag c__law_bag k__law_bag, b__law_bag := (fun_mk (st := s__law_bag) l__law_bag c__law_bag k__law_bag).binds fun _ _ _ _ _ _ us hl => match us, hl with | [_], _ => rfl, g__law_bag := PySem.W.mg_of X G a__law_bag, f__law_pick := f__law_pick, d__law_pick := _, F__law_pick := fun_mk (st := s__law_pick) l__law_pick c__law_pick k__law_pick, b__law_pick := (fun_mk (st := s__law_pick) l__law_pick c__law_pick k__law_pick).binds fun _ _ _ _ _ _ us hl => match us, hl with | [_, _], _ => rfl, g__law_pick := PySem.W.mg_of X G a__law_pick, f__law_choice := f__law_choice, d__law_choice := _, F__law_choice := fun_mk (st := s__law_choice) l__law_choice c__law_choice k__law_choice, b__law_choice := (fun_mk (st := s__law_choice) l__law_choice c__law_choice k__law_choice).binds fun _ _ _ _ _ _ us hl => match us, hl with | [_, _], _ => rfl, g__law_choice := PySem.W.mg_of X G a__law_choice, f__law_number := f__law_number, d__law_number := _, F__law_number := fun_mk (st := s__law_number) l__law_number c__law_number k__law_number, b__law_number := (fun_mk (st := s__law_number) l__law_number c__law_number k__law_number).binds fun _ _ _ _ _ _ us hl => match us, hl with | [_], _ => rfl, g__law_number := PySem.W.mg_of X G a__law_number, f__law_form := f__law_form, d__law_form := _, F__law_form := fun_mk (st := s__law_form) l__law_form c__law_form k__law_form, b__law_form := (fun_mk (st := s__law_form) l__law_form c__law_form k__law_form).binds fun _ _ _ _ _ _ us hl => match us, hl with | [_, _, _], _ => rfl, g__law_form := PySem.W.mg_of X G a__law_form, f__law_value := f__law_value, d__law_value := _, F__law_value := fun_mk (st := s__law_value) l__law_value c__law_value k__law_value, b__law_value := (fun_mk (st := s__law_value) l__law_value c__law_value k__law_value).binds fun _ _ _ _ _ _ us hl => match us, hl with | [_, _], _ => rfl, g__law_value := PySem.W.mg_of X G a__law_value, f__law_idents := f__law_idents, d__law_idents := _, F__law_idents := fun_mk (st := s__law_idents) l__law_idents c__law_idents k__law_idents, b__law_idents := (fun_mk (st := s__law_idents) l__law_idents c__law_idents k__law_idents).binds fun _ _ _ _ _ _ us hl => match us, hl with | [_, _], _ => rfl, g__law_idents := PySem.W.mg_of X G a__law_idents, f__law_any_key := f__law_any_key, d__law_any_key := _, F__law_any_key := fun_mk (st := s__law_any_key) l__law_any_key c__law_any_key k__law_any_key, b__law_any_key := (fun_mk (st := s__law_any_key) l__law_any_key c__law_any_key k__law_any_key).binds fun _ _ _ _ _ _ us hl => match us, hl with | [_], _ => rfl, g__law_any_key := PySem.W.mg_of X G a__law_any_key, f__law_told_items := f__law_told_items, d__law_told_items := _, F__law_told_items := fun_mk (st := s__law_told_items) l__law_told_items c__law_told_items k__law_told_items, b__law_told_items := (fun_mk (st := s__law_told_items) l__law_told_items c__law_told_items k__law_told_items).binds fun _ _ _ _ _ _ us hl => match us, hl with | [_, _], _ => rfl, g__law_told_items := PySem.W.mg_of X G a__law_told_items, f__law_all_rows := f__law_all_rows, d__law_all_rows := _, F__law_all_rows := fun_mk (st := s__law_all_rows) l__law_all_rows c__law_all_rows k__law_all_rows, b__law_all_rows := (fun_mk (st := s__law_all_rows) l__law_all_rows c__law_all_rows k__law_all_rows).binds fun _ _ _ _ _ _ us hl => match us, hl with | [_, _], _ => rfl, g__law_all_rows := PySem.W.mg_of X G a__law_all_rows, f__law_unlike_rows := f__law_unlike_rows, d__law_unlike_rows := _, F__law_unlike_rows := fun_mk (st := s__law_unlike_rows) l__law_unlike_rows c__law_unlike_rows k__law_unlike_rows, b__law_unlike_rows := (fun_mk (st := s__law_unlike_rows) l__law_unlike_rows c__law_unlike_rows k__law_unlike_rows).binds fun _ _ _ _ _ _ us hl => match us, hl with | [_, _, _, _], _ => rfl, g__law_unlike_rows := PySem.W.mg_of X G a__law_unlike_rows, f__law_first_of := f__law_first_of, d__law_first_of := _, F__law_first_of := fun_mk (st := s__law_first_of) l__law_first_of c__law_first_of k__law_first_of, b__law_first_of := (fun_mk (st := s__law_first_of) l__law_first_of c__law_first_of k__law_first_of).binds fun _ _ _ _ _ _ us hl => match us, hl with | [_, _, _], _ => rfl, g__law_first_of := PySem.W.mg_of X G a__law_first_of, f__law_least := f__law_least, d__law_least := _, F__law_least := fun_mk (st := s__law_least) l__law_least c__law_least k__law_least, b__law_least := (fun_mk (st := s__law_least) l__law_least c__law_least k__law_least).binds fun _ _ _ _ _ _ us hl => match us, hl with | [_, _, _], _ => rfl, g__law_least := PySem.W.mg_of X G a__law_least, f__law_plain := f__law_plain, d__law_plain := _, F__law_plain := fun_mk (st := s__law_plain) l__law_plain c__law_plain k__law_plain, b__law_plain := (fun_mk (st := s__law_plain) l__law_plain c__law_plain k__law_plain).binds fun _ _ _ _ _ _ us hl => match us, hl with | [_, _, _], _ => rfl, g__law_plain := PySem.W.mg_of X G a__law_plain, f__law_right := f__law_right, d__law_right := _, F__law_right := fun_mk (st := s__law_right) l__law_right c__law_right k__law_right, b__law_right := (fun_mk (st := s__law_right) l__law_right c__law_right k__law_right).binds fun _ _ _ _ _ _ us hl => match us, hl with | [_, _, _, _, _], _ => rfl, g__law_right := PySem.W.mg_of X G a__law_right, f__law_menu_of := f__law_menu_of, d__law_menu_of := _, F__law_menu_of := fun_mk (st := s__law_menu_of) l__law_menu_of c__law_menu_of k__law_menu_of, b__law_menu_of := (fun_mk (st := s__law_menu_of) l__law_menu_of c__law_menu_of k__law_menu_of).binds fun _ _ _ _ _ _ us hl => match us, hl with | [_, _, _], _ => rfl, g__law_menu_of := PySem.W.mg_of X G a__law_menu_of, f_law := fa, d_law := _, F_law := fun_mk (st := s_law) l_law c_law k_law, b_law := (fun_mk (st := s_law) l_law c_law k_law).binds fun _ _ _ _ _ _ us hl => match us, hl with | [_], _ => rfl, g_law := PySem.W.mg_of X G a_law, C_Key := C_Key, g_Key := PySem.W.mg_of X G aC_Key, cl_Key := ⟨pg_Key, hd_Key, po_Key, sa_Key⟩, mk_Key := mk_Key, kc_Key := kc_Key, nf_Key := nf_Key, in_Key := ⟨⟨pg_Key, hd_Key, po_Key, sa_Key⟩, ih_Key, ig_Key, it_Key, io_Key, ik_Key⟩, nA_Key__parts := nA_Key__parts, f_Key___init__ := f_Key___init__, d_Key___init__ := _, F_Key___init__ := fun_mk (st := s_Key___init__) l_Key___init__ c_Key___init__ k_Key___init__, b_Key___init__ := (fun_mk (st := s_Key___init__) l_Key___init__ c_Key___init__ k_Key___init__).binds fun _ _ _ _ _ _ us hl => match us, hl with | [_, _], _ => rfl, a_Key___init__ := a_Key___init__, i_Key___init__ := i_Key___init__, n_Key___init__ := n_Key___init__, f_Key_parts := f_Key_parts, d_Key_parts := _, F_Key_parts := fun_mk (st := s_Key_parts) l_Key_parts c_Key_parts k_Key_parts, b_Key_parts := (fun_mk (st := s_Key_parts) l_Key_parts c_Key_parts k_Key_parts).binds fun _ _ _ _ _ _ us hl => match us, hl with | [_], _ => rfl, p_Key_parts := p_Key_parts, P_Key_parts := ⟨a_Key_parts, ge_Key_parts, ta_Key_parts, ⟨_, re1_Key_parts⟩⟩, f_Key___call__ := f_Key___call__, d_Key___call__ := _, F_Key___call__ := fun_mk (st := s_Key___call__) l_Key___call__ c_Key___call__ k_Key___call__, b_Key___call__ := (fun_mk (st := s_Key___call__) l_Key___call__ c_Key___call__ k_Key___call__).binds fun _ _ _ _ _ _ us hl => match us, hl with | [_, _, _], _ => rfl, a_Key___call__ := a_Key___call__, i_Key___call__ := i_Key___call__, n_Key___call__ := n_Key___call__, f_Key___le__ := f_Key___le__, d_Key___le__ := _, F_Key___le__ := fun_mk (st := s_Key___le__) l_Key___le__ c_Key___le__ k_Key___le__, b_Key___le__ := (fun_mk (st := s_Key___le__) l_Key___le__ c_Key___le__ k_Key___le__).binds fun _ _ _ _ _ _ us hl => match us, hl with | [_, _], _ => rfl, a_Key___le__ := a_Key___le__, i_Key___le__ := i_Key___le__, n_Key___le__ := n_Key___le__, f_Key_idents := f_Key_idents, d_Key_idents := _, F_Key_idents := fun_mk (st := s_Key_idents) l_Key_idents c_Key_idents k_Key_idents, b_Key_idents := (fun_mk (st := s_Key_idents) l_Key_idents c_Key_idents k_Key_idents).binds fun _ _ _ _ _ _ us hl => match us, hl with | [_, _], _ => rfl, a_Key_idents := a_Key_idents, i_Key_idents := i_Key_idents, n_Key_idents := n_Key_idents, C_Known := C_Known, g_Known := PySem.W.mg_of X G aC_Known, cl_Known := ⟨pg_Known, hd_Known, po_Known, sa_Known⟩, mk_Known := mk_Known, kc_Known := kc_Known, nf_Known := nf_Known, in_Known := ⟨⟨pg_Known, hd_Known, po_Known, sa_Known⟩, ih_Known, ig_Known, it_Known, io_Known, ik_Known⟩, ns_Known := ns_Known, nA_Known__idents := nA_Known__idents, nA_Known__key := nA_Known__key, nA_Known__numbers := nA_Known__numbers, nA_Known_row := nA_Known_row, f_Known___init__ := f_Known___init__, d_Known___init__ := _, F_Known___init__ := fun_mk (st := s_Known___init__) l_Known___init__ c_Known___init__ k_Known___init__, b_Known___init__ := (fun_mk (st := s_Known___init__) l_Known___init__ c_Known___init__ k_Known___init__).binds fun _ _ _ _ _ _ us hl => match us, hl with | [_, _, _], _ => rfl, a_Known___init__ := a_Known___init__, i_Known___init__ := i_Known___init__, n_Known___init__ := n_Known___init__, f_Known___getitem__ := f_Known___getitem__, d_Known___getitem__ := _, F_Known___getitem__ := fun_mk (st := s_Known___getitem__) l_Known___getitem__ c_Known___getitem__ k_Known___getitem__, b_Known___getitem__ := (fun_mk (st := s_Known___getitem__) l_Known___getitem__ c_Known___getitem__ k_Known___getitem__).binds fun _ _ _ _ _ _ us hl => match us, hl with | [_, _], _ => rfl, a_Known___getitem__ := a_Known___getitem__, i_Known___getitem__ := i_Known___getitem__, n_Known___getitem__ := n_Known___getitem__, f_Known___setitem__ := f_Known___setitem__, d_Known___setitem__ := _, F_Known___setitem__ := fun_mk (st := s_Known___setitem__) l_Known___setitem__ c_Known___setitem__ k_Known___setitem__, b_Known___setitem__ := (fun_mk (st := s_Known___setitem__) l_Known___setitem__ c_Known___setitem__ k_Known___setitem__).binds fun _ _ _ _ _ _ us hl => match us, hl with | [_, _, _], _ => rfl, a_Known___setitem__ := a_Known___setitem__, i_Known___setitem__ := i_Known___setitem__, n_Known___setitem__ := n_Known___setitem__, f_Known___iter__ := f_Known___iter__, d_Known___iter__ := _, F_Known___iter__ := fun_mk (st := s_Known___iter__) l_Known___iter__ c_Known___iter__ k_Known___iter__, b_Known___iter__ := (fun_mk (st := s_Known___iter__) l_Known___iter__ c_Known___iter__ k_Known___iter__).binds fun _ _ _ _ _ _ us hl => match us, hl with | [_], _ => rfl, a_Known___iter__ := a_Known___iter__, i_Known___iter__ := i_Known___iter__, n_Known___iter__ := n_Known___iter__, f_Known_show := f_Known_show, d_Known_show := _, F_Known_show := fun_mk (st := s_Known_show) l_Known_show c_Known_show k_Known_show, b_Known_show := (fun_mk (st := s_Known_show) l_Known_show c_Known_show k_Known_show).binds fun _ _ _ _ _ _ us hl => match us, hl with | [_, _], _ => rfl, a_Known_show := a_Known_show, i_Known_show := i_Known_show, n_Known_show := n_Known_show, C_Things := C_Things, g_Things := PySem.W.mg_of X G aC_Things, cl_Things := ⟨pg_Things, hd_Things, po_Things, sa_Things⟩, mk_Things := mk_Things, kc_Things := kc_Things, nf_Things := nf_Things, in_Things := ⟨⟨pg_Things, hd_Things, po_Things, sa_Things⟩, ih_Things, ig_Things, it_Things, io_Things, ik_Things⟩, ns_Things := ns_Things, nA_Things__numbers := nA_Things__numbers, nA_Things_row := nA_Things_row, f_Things___init__ := f_Things___init__, d_Things___init__ := _, F_Things___init__ := fun_mk (st := s_Things___init__) l_Things___init__ c_Things___init__ k_Things___init__, b_Things___init__ := (fun_mk (st := s_Things___init__) l_Things___init__ c_Things___init__ k_Things___init__).binds fun _ _ _ _ _ _ us hl => match us, hl with | [_, _], _ => rfl, a_Things___init__ := a_Things___init__, i_Things___init__ := i_Things___init__, n_Things___init__ := n_Things___init__, f_Things___getitem__ := f_Things___getitem__, d_Things___getitem__ := _, F_Things___getitem__ := fun_mk (st := s_Things___getitem__) l_Things___getitem__ c_Things___getitem__ k_Things___getitem__, b_Things___getitem__ := (fun_mk (st := s_Things___getitem__) l_Things___getitem__ c_Things___getitem__ k_Things___getitem__).binds fun _ _ _ _ _ _ us hl => match us, hl with | [_, _], _ => rfl, a_Things___getitem__ := a_Things___getitem__, i_Things___getitem__ := i_Things___getitem__, n_Things___getitem__ := n_Things___getitem__, f_Things___setitem__ := f_Things___setitem__, d_Things___setitem__ := _, F_Things___setitem__ := fun_mk (st := s_Things___setitem__) l_Things___setitem__ c_Things___setitem__ k_Things___setitem__, b_Things___setitem__ := (fun_mk (st := s_Things___setitem__) l_Things___setitem__ c_Things___setitem__ k_Things___setitem__).binds fun _ _ _ _ _ _ us hl => match us, hl with | [_, _, _], _ => rfl, a_Things___setitem__ := a_Things___setitem__, i_Things___setitem__ := i_Things___setitem__, n_Things___setitem__ := n_Things___setitem__, f_Things___iter__ := f_Things___iter__, d_Things___iter__ := _, F_Things___iter__ := fun_mk (st := s_Things___iter__) l_Things___iter__ c_Things___iter__ k_Things___iter__, b_Things___iter__ := (fun_mk (st := s_Things___iter__) l_Things___iter__ c_Things___iter__ k_Things___iter__).binds fun _ _ _ _ _ _ us hl => match us, hl with | [_], _ => rfl, a_Things___iter__ := a_Things___iter__, i_Things___iter__ := i_Things___iter__, n_Things___iter__ := n_Things___iter__, f_Things_show := f_Things_show, d_Things_show := _, F_Things_show := fun_mk (st := s_Things_show) l_Things_show c_Things_show k_Things_show, b_Things_show := (fun_mk (st := s_Things_show) l_Things_show c_Things_show k_Things_show).binds fun _ _ _ _ _ _ us hl => match us, hl with | [_, _], _ => rfl, a_Things_show := a_Things_show, i_Things_show := i_Things_show, n_Things_show := n_Things_show, t_MOST_LETTERS := _, c_MOST_LETTERS := PySem.W.mg_of X G z_MOST_LETTERS, t_MOST_LEVELS := _, c_MOST_LEVELS := PySem.W.mg_of X G z_MOST_LEVELS, t_MOST_ITEMS := _, c_MOST_ITEMS := PySem.W.mg_of X G z_MOST_ITEMS, m_ValueError := PySem.W.mg_none_of X G z_ValueError, m_abs := PySem.W.mg_none_of X G z_abs, m_all := PySem.W.mg_none_of X G z_all, m_bool := PySem.W.mg_none_of X G z_bool, m_enumerate := PySem.W.mg_none_of X G z_enumerate, m_int := PySem.W.mg_none_of X G z_int, m_isinstance := PySem.W.mg_none_of X G z_isinstance, m_iter := PySem.W.mg_none_of X G z_iter, m_len := PySem.W.mg_none_of X G z_len, m_range := PySem.W.mg_none_of X G z_range, m_set := PySem.W.mg_none_of X G z_set, m_str := PySem.W.mg_none_of X G z_str, m_tuple := PySem.W.mg_none_of X G z_tuple, m_zip := PySem.W.mg_none_of X G z_zip }
  let U : TMany K mg w := { p := pM, es := esM, n := nM, kd := ⟨lM, kM, oM⟩, g := PySem.W.mg_of X G uM, is := i1, get := i2, sum := ⟨_, i3⟩, same := ⟨_, i4⟩, pick := ⟨_, i5⟩ }
  exact ⟨_, fun s v => .of_eq rfl, fun base _ _ => ok_law (base := base) T U⟩
end D
open PySem PySem.W PyProof.Rows
set_option maxHeartbeats 0 in
theorem PySem.Challenge.cw_drawnanew_k28_whole_least_pair_holds : PySem.Challenge.rw_drawnanew_k28_whole_least_pair.Holds := by
  w_on; o_law; k_head; (case hw => w_witness2)
  k_fill
  refine L2.walk_of (l := PySem.Challenge.rw_drawnanew_k28_whole_least_pair) (n := 63) (k := 17) (x := "_law_script") (CX := fun _ => L2.CX0) (sp := fun w => D.sp_law _) rfl (by decide) rfl ⟨rfl, by decide, by decide⟩ (fun w h Y => PySem.W.kIn_of Y) ?F (fun _ _ a ns hl _ hS => ⟨a, ns, rfl, hS, hl, fun _ => rfl⟩) (fun _ _ _ _ _ h => h)
  case F =>
    intro w mg fa h KX G hmg
    refine' D.all_mk KX G hmg ?a_is_whole ?l_is_whole ?c_is_whole ?k_is_whole ?a_is_value ?l_is_value ?c_is_value ?k_is_value ?a_is_name ?l_is_name ?c_is_name ?k_is_name ?a_inner_forms ?l_inner_forms ?c_inner_forms ?k_inner_forms ?a__well_made ?l__well_made ?c__well_made ?k__well_made ?a_check_form ?l_check_form ?c_check_form ?k_check_form ?a_value_of ?l_value_of ?c_value_of ?k_value_of ?a_names_in ?l_names_in ?c_names_in ?k_names_in ?a_is_row ?l_is_row ?c_is_row ?k_is_row ?a_check_rows ?l_check_rows ?c_check_rows ?k_check_rows ?a__key_value ?l__key_value ?c__key_value ?k__key_value ?a__idents ?l__idents ?c__idents ?k__idents ?a__matches ?l__matches ?c__matches ?k__matches ?a__slipped ?l__slipped ?c__slipped ?k__slipped ?a__lost ?l__lost ?c__lost ?k__lost ?a__first_parted ?l__first_parted ?c__first_parted ?k__first_parted ?a_faithful ?l_faithful ?c_faithful ?k_faithful ?a__rows_of ?l__rows_of ?c__rows_of ?k__rows_of ?a_least_pair ?l_least_pair ?c_least_pair ?k_least_pair ?a__differ ?l__differ ?c__differ ?k__differ ?a_least_parting ?l_least_parting ?c_least_parting ?k_least_parting ?a__law_mixed ?l__law_mixed ?c__law_mixed ?k__law_mixed ?a__law_bag ?l__law_bag ?c__law_bag ?k__law_bag ?a__law_pick ?l__law_pick ?c__law_pick ?k__law_pick ?a__law_choice ?l__law_choice ?c__law_choice ?k__law_choice ?a__law_number ?l__law_number ?c__law_number ?k__law_number ?a__law_form ?l__law_form ?c__law_form ?k__law_form ?a__law_value ?l__law_value ?c__law_value ?k__law_value ?a__law_idents ?l__law_idents ?c__law_idents ?k__law_idents ?a__law_any_key ?l__law_any_key ?c__law_any_key ?k__law_any_key ?a__law_told_items ?l__law_told_items ?c__law_told_items ?k__law_told_items ?a__law_all_rows ?l__law_all_rows ?c__law_all_rows ?k__law_all_rows ?a__law_unlike_rows ?l__law_unlike_rows ?c__law_unlike_rows ?k__law_unlike_rows ?a__law_first_of ?l__law_first_of ?c__law_first_of ?k__law_first_of ?a__law_least ?l__law_least ?c__law_least ?k__law_least ?a__law_plain ?l__law_plain ?c__law_plain ?k__law_plain ?a__law_right ?l__law_right ?c__law_right ?k__law_right ?a__law_menu_of ?l__law_menu_of ?c__law_menu_of ?k__law_menu_of ?a_law ?l_law ?c_law ?k_law ?aC_Key ?pg_Key ?hd_Key ?po_Key ?sa_Key ?mk_Key ?kc_Key ?nf_Key ?ih_Key ?ig_Key ?it_Key ?io_Key ?ik_Key ?nA_Key__parts ?a_Key___init__ ?i_Key___init__ ?n_Key___init__ ?l_Key___init__ ?c_Key___init__ ?k_Key___init__ ?a_Key_parts ?ge_Key_parts ?ta_Key_parts ?re1_Key_parts ?l_Key_parts ?c_Key_parts ?k_Key_parts ?a_Key___call__ ?i_Key___call__ ?n_Key___call__ ?l_Key___call__ ?c_Key___call__ ?k_Key___call__ ?a_Key___le__ ?i_Key___le__ ?n_Key___le__ ?l_Key___le__ ?c_Key___le__ ?k_Key___le__ ?a_Key_idents ?i_Key_idents ?n_Key_idents ?l_Key_idents ?c_Key_idents ?k_Key_idents ?aC_Known ?pg_Known ?hd_Known ?po_Known ?sa_Known ?mk_Known ?kc_Known ?nf_Known ?ih_Known ?ig_Known ?it_Known ?io_Known ?ik_Known ?ns_Known ?nA_Known__idents ?nA_Known__key ?nA_Known__numbers ?nA_Known_row ?a_Known___init__ ?i_Known___init__ ?n_Known___init__ ?l_Known___init__ ?c_Known___init__ ?k_Known___init__ ?a_Known___getitem__ ?i_Known___getitem__ ?n_Known___getitem__ ?l_Known___getitem__ ?c_Known___getitem__ ?k_Known___getitem__ ?a_Known___setitem__ ?i_Known___setitem__ ?n_Known___setitem__ ?l_Known___setitem__ ?c_Known___setitem__ ?k_Known___setitem__ ?a_Known___iter__ ?i_Known___iter__ ?n_Known___iter__ ?l_Known___iter__ ?c_Known___iter__ ?k_Known___iter__ ?a_Known_show ?i_Known_show ?n_Known_show ?l_Known_show ?c_Known_show ?k_Known_show ?aC_Things ?pg_Things ?hd_Things ?po_Things ?sa_Things ?mk_Things ?kc_Things ?nf_Things ?ih_Things ?ig_Things ?it_Things ?io_Things ?ik_Things ?ns_Things ?nA_Things__numbers ?nA_Things_row ?a_Things___init__ ?i_Things___init__ ?n_Things___init__ ?l_Things___init__ ?c_Things___init__ ?k_Things___init__ ?a_Things___getitem__ ?i_Things___getitem__ ?n_Things___getitem__ ?l_Things___getitem__ ?c_Things___getitem__ ?k_Things___getitem__ ?a_Things___setitem__ ?i_Things___setitem__ ?n_Things___setitem__ ?l_Things___setitem__ ?c_Things___setitem__ ?k_Things___setitem__ ?a_Things___iter__ ?i_Things___iter__ ?n_Things___iter__ ?l_Things___iter__ ?c_Things___iter__ ?k_Things___iter__ ?a_Things_show ?i_Things_show ?n_Things_show ?l_Things_show ?c_Things_show ?k_Things_show ?z_MOST_LETTERS ?z_MOST_LEVELS ?z_MOST_ITEMS ?z_ValueError ?z_abs ?z_all ?z_bool ?z_enumerate ?z_int ?z_isinstance ?z_iter ?z_len ?z_range ?z_set ?z_str ?z_tuple ?z_zip ?uM ?lM ?kM ?oM ?i1 ?i2 ?i3 ?i4 ?i5
    (case a_is_whole => k_is); (case l_is_whole => k_is); (case c_is_whole => k_is); (case k_is_whole => k_is); (case a_is_value => k_is); (case l_is_value => k_is); (case c_is_value => k_is); (case k_is_value => k_is); (case a_is_name => k_is); (case l_is_name => k_is); (case c_is_name => k_is); (case k_is_name => k_is); (case a_inner_forms => k_is); (case l_inner_forms => k_is); (case c_inner_forms => k_is); (case k_inner_forms => k_is); (case a__well_made => k_is); (case l__well_made => k_is); (case c__well_made => k_is); (case k__well_made => k_is); (case a_check_form => k_is); (case l_check_form => k_is); (case c_check_form => k_is); (case k_check_form => k_is); (case a_value_of => k_is); (case l_value_of => k_is); (case c_value_of => k_is); (case k_value_of => k_is); (case a_names_in => k_is); (case l_names_in => k_is); (case c_names_in => k_is); (case k_names_in => k_is); (case a_is_row => k_is); (case l_is_row => k_is); (case c_is_row => k_is); (case k_is_row => k_is); (case a_check_rows => k_is); (case l_check_rows => k_is); (case c_check_rows => k_is); (case k_check_rows => k_is); (case a__key_value => k_is); (case l__key_value => k_is); (case c__key_value => k_is); (case k__key_value => k_is); (case a__idents => k_is); (case l__idents => k_is); (case c__idents => k_is); (case k__idents => k_is); (case a__matches => k_is); (case l__matches => k_is); (case c__matches => k_is); (case k__matches => k_is); (case a__slipped => k_is); (case l__slipped => k_is); (case c__slipped => k_is); (case k__slipped => k_is); (case a__lost => k_is); (case l__lost => k_is); (case c__lost => k_is); (case k__lost => k_is); (case a__first_parted => k_is); (case l__first_parted => k_is); (case c__first_parted => k_is); (case k__first_parted => k_is); (case a_faithful => k_is); (case l_faithful => k_is); (case c_faithful => k_is); (case k_faithful => k_is); (case a__rows_of => k_is); (case l__rows_of => k_is); (case c__rows_of => k_is); (case k__rows_of => k_is); (case a_least_pair => k_is); (case l_least_pair => k_is); (case c_least_pair => k_is); (case k_least_pair => k_is); (case a__differ => k_is); (case l__differ => k_is); (case c__differ => k_is); (case k__differ => k_is); (case a_least_parting => k_is); (case l_least_parting => k_is); (case c_least_parting => k_is); (case k_least_parting => k_is); (case a__law_mixed => k_is); (case l__law_mixed => k_is); (case c__law_mixed => k_is); (case k__law_mixed => k_is); (case a__law_bag => k_is); (case l__law_bag => k_is); (case c__law_bag => k_is); (case k__law_bag => k_is); (case a__law_pick => k_is); (case l__law_pick => k_is); (case c__law_pick => k_is); (case k__law_pick => k_is); (case a__law_choice => k_is); (case l__law_choice => k_is); (case c__law_choice => k_is); (case k__law_choice => k_is); (case a__law_number => k_is); (case l__law_number => k_is); (case c__law_number => k_is); (case k__law_number => k_is); (case a__law_form => k_is); (case l__law_form => k_is); (case c__law_form => k_is); (case k__law_form => k_is); (case a__law_value => k_is); (case l__law_value => k_is); (case c__law_value => k_is); (case k__law_value => k_is); (case a__law_idents => k_is); (case l__law_idents => k_is); (case c__law_idents => k_is); (case k__law_idents => k_is); (case a__law_any_key => k_is); (case l__law_any_key => k_is); (case c__law_any_key => k_is); (case k__law_any_key => k_is); (case a__law_told_items => k_is); (case l__law_told_items => k_is); (case c__law_told_items => k_is); (case k__law_told_items => k_is); (case a__law_all_rows => k_is); (case l__law_all_rows => k_is); (case c__law_all_rows => k_is); (case k__law_all_rows => k_is); (case a__law_unlike_rows => k_is); (case l__law_unlike_rows => k_is); (case c__law_unlike_rows => k_is); (case k__law_unlike_rows => k_is); (case a__law_first_of => k_is); (case l__law_first_of => k_is); (case c__law_first_of => k_is); (case k__law_first_of => k_is); (case a__law_least => k_is); (case l__law_least => k_is); (case c__law_least => k_is); (case k__law_least => k_is); (case a__law_plain => k_is); (case l__law_plain => k_is); (case c__law_plain => k_is); (case k__law_plain => k_is); (case a__law_right => k_is); (case l__law_right => k_is); (case c__law_right => k_is); (case k__law_right => k_is); (case a__law_menu_of => k_is); (case l__law_menu_of => k_is); (case c__law_menu_of => k_is); (case k__law_menu_of => k_is); (case a_law => k_is); (case l_law => k_is); (case c_law => k_is); (case k_law => k_is); (case aC_Key => k_is); (case pg_Key => k_is); (case hd_Key => k_is); (case po_Key => k_is); (case sa_Key => k_is); (case mk_Key => k_is); (case kc_Key => k_is); (case nf_Key => k_is); (case ih_Key => k_is); (case ig_Key => k_is); (case it_Key => k_is); (case io_Key => k_is); (case ik_Key => first | exact rfl | decide +kernel | k_is); (case nA_Key__parts => k_is); (case a_Key___init__ => k_is); (case i_Key___init__ => k_is); (case n_Key___init__ => k_is); (case l_Key___init__ => k_is); (case c_Key___init__ => k_is); (case k_Key___init__ => k_is); (case a_Key_parts => k_is); (case ge_Key_parts => k_is); (case ta_Key_parts => k_is); (case re1_Key_parts => k_is); (case l_Key_parts => k_is); (case c_Key_parts => k_is); (case k_Key_parts => k_is); (case a_Key___call__ => k_is); (case i_Key___call__ => k_is); (case n_Key___call__ => k_is); (case l_Key___call__ => k_is); (case c_Key___call__ => k_is); (case k_Key___call__ => k_is); (case a_Key___le__ => k_is); (case i_Key___le__ => k_is); (case n_Key___le__ => k_is); (case l_Key___le__ => k_is); (case c_Key___le__ => k_is); (case k_Key___le__ => k_is); (case a_Key_idents => k_is); (case i_Key_idents => k_is); (case n_Key_idents => k_is); (case l_Key_idents => k_is); (case c_Key_idents => k_is); (case k_Key_idents => k_is); (case aC_Known => k_is); (case pg_Known => k_is); (case hd_Known => k_is); (case po_Known => k_is); (case sa_Known => k_is); (case mk_Known => k_is); (case kc_Known => k_is); (case nf_Known => k_is); (case ih_Known => k_is); (case ig_Known => k_is); (case it_Known => k_is); (case io_Known => k_is); (case ik_Known => first | exact rfl | decide +kernel | k_is); (case ns_Known => k_is); (case nA_Known__idents => k_is); (case nA_Known__key => k_is); (case nA_Known__numbers => k_is); (case nA_Known_row => k_is); (case a_Known___init__ => k_is); (case i_Known___init__ => k_is); (case n_Known___init__ => k_is); (case l_Known___init__ => k_is); (case c_Known___init__ => k_is); (case k_Known___init__ => k_is); (case a_Known___getitem__ => k_is); (case i_Known___getitem__ => k_is); (case n_Known___getitem__ => k_is); (case l_Known___getitem__ => k_is); (case c_Known___getitem__ => k_is); (case k_Known___getitem__ => k_is); (case a_Known___setitem__ => k_is); (case i_Known___setitem__ => k_is); (case n_Known___setitem__ => k_is); (case l_Known___setitem__ => k_is); (case c_Known___setitem__ => k_is); (case k_Known___setitem__ => k_is); (case a_Known___iter__ => k_is); (case i_Known___iter__ => k_is); (case n_Known___iter__ => k_is); (case l_Known___iter__ => k_is); (case c_Known___iter__ => k_is); (case k_Known___iter__ => k_is); (case a_Known_show => k_is); (case i_Known_show => k_is); (case n_Known_show => k_is); (case l_Known_show => k_is); (case c_Known_show => k_is); (case k_Known_show => k_is); (case aC_Things => k_is); (case pg_Things => k_is); (case hd_Things => k_is); (case po_Things => k_is); (case sa_Things => k_is); (case mk_Things => k_is); (case kc_Things => k_is); (case nf_Things => k_is); (case ih_Things => k_is); (case ig_Things => k_is); (case it_Things => k_is); (case io_Things => k_is); (case ik_Things => first | exact rfl | decide +kernel | k_is); (case ns_Things => k_is); (case nA_Things__numbers => k_is); (case nA_Things_row => k_is); (case a_Things___init__ => k_is); (case i_Things___init__ => k_is); (case n_Things___init__ => k_is); (case l_Things___init__ => k_is); (case c_Things___init__ => k_is); (case k_Things___init__ => k_is); (case a_Things___getitem__ => k_is); (case i_Things___getitem__ => k_is); (case n_Things___getitem__ => k_is); (case l_Things___getitem__ => k_is); (case c_Things___getitem__ => k_is); (case k_Things___getitem__ => k_is); (case a_Things___setitem__ => k_is); (case i_Things___setitem__ => k_is); (case n_Things___setitem__ => k_is); (case l_Things___setitem__ => k_is); (case c_Things___setitem__ => k_is); (case k_Things___setitem__ => k_is); (case a_Things___iter__ => k_is); (case i_Things___iter__ => k_is); (case n_Things___iter__ => k_is); (case l_Things___iter__ => k_is); (case c_Things___iter__ => k_is); (case k_Things___iter__ => k_is); (case a_Things_show => k_is); (case i_Things_show => k_is); (case n_Things_show => k_is); (case l_Things_show => k_is); (case c_Things_show => k_is); (case k_Things_show => k_is); (case z_MOST_LETTERS => k_is); (case z_MOST_LEVELS => k_is); (case z_MOST_ITEMS => k_is); (case z_ValueError => k_is); (case z_abs => k_is); (case z_all => k_is); (case z_bool => k_is); (case z_enumerate => k_is); (case z_int => k_is); (case z_isinstance => k_is); (case z_iter => k_is); (case z_len => k_is); (case z_range => k_is); (case z_set => k_is); (case z_str => k_is); (case z_tuple => k_is); (case z_zip => k_is); (case uM => k_is); (case lM => k_is); (case kM => k_keys); (case oM => decide); (case i1 => k_is); (case i2 => k_is); (case i3 => k_is); (case i4 => k_is); (case i5 => k_is)

