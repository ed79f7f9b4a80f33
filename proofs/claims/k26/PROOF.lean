import PyProof.Rows.All
import Wide.All
import OpenK.AllK
import Wide.FinOn
import PyProof.Rows.IntBool
import HandS.ForMost
import HandS.IsInst
import HandS.TupAny
import HandS.Conv
import HandS.More
import HandS.Style
import HandS.Property
import HandS.Star
import HandS.DictComp
import HandS.RaiseMore
import HandS.SetFor
import HandS.SlotsOwn
import HandS.Codes
import KE.GoesEnum
import HandS.Deep
import HandS.Strs
import HandS.ReCall
import HandS.Zip
import HandS.Flow
import HandS.ForExc
import HandS.ExcInit
import HandS.ExcField
import HandS.ExcIs
import KE.KExcIs
import HandS.OwnIter
import HandS.IterNext
import PySem.Challenge.RW_drawnanew_k26_known_numbers
set_option Elab.async false
set_option linter.all false
set_option maxRecDepth 100000
set_option maxHeartbeats 4000000
namespace D
open PySem PySem.Spec PyProof.Rows L2

/-! ### rules that the layer lacks -/
def bI (b : Bool) : Int := if b = true then 1 else 0
theorem op_mul_ib {X : Cx} : OpR X (binaryOp .Mult) (fun x y H Q => ∃ i k, x = .int i ∧ y = .bl k ∧ Q (.int (i * bI k)) H) := by
  intro pins s σ H x y v u Q I rx ry h
  obtain ⟨i, k, rfl, rfl, q⟩ := h
  obtain ⟨t, rfl⟩ := rx
  cases ry
  exact PySem.IntBool.mul_int_bool ⟨.int (i * bI k), H, I.tok _, ⟨_, rfl⟩, q⟩

/-! ### heaps: M the addresses that may be written -/
abbrev Ms := Addr → Prop
def Sx (M : Ms) (H H' : Hp) : Prop := ∀ a o, ¬ M a → H a = some o → H' a = some o
def one (b : Addr) : Ms := fun a => a = b
def also (M : Ms) (b : Addr) : Ms := fun a => M a ∨ a = b
/-- what may be written stands -/
def Mk (M : Ms) (H : Hp) : Prop := ∀ a, M a → H a ≠ none
theorem Sx.refl {M : Ms} {H : Hp} : Sx M H H := fun _ _ _ h => h
theorem Sx.trans {M : Ms} {H H1 H2 : Hp} (a : Sx M H H1) (b : Sx M H1 H2) : Sx M H H2 := fun c o n h => b c o n (a c o n h)
theorem Sx.le {M N : Ms} {H H' : Hp} (s : Sx M H H') (h : ∀ a, M a → N a) : Sx N H H' := fun a o n e => s a o (fun m => n (h a m)) e
theorem Sx.same {M : Ms} {H H' : Hp} (s : Same H H') : Sx M H H' := fun a o _ e => s a o e
theorem Sx.new {M : Ms} {H : Hp} {p : Addr} {o : HO} (h : H p = none) : Sx M H (upd H p o) := fun a u _ e => by
  rw [upd_ne (ne_of_none e h)]
  exact e
theorem Sx.put {M : Ms} {H : Hp} {p : Addr} {o : HO} (h : M p) : Sx M H (upd H p o) := fun a u n e => by
  rw [upd_ne (fun z => n (by rw [z]; exact h))]
  exact e
theorem same_new {H : Hp} {p : Addr} {o : HO} (h : H p = none) : Same H (upd H p o) := fun a u e => by
  rw [upd_ne (ne_of_none e h)]
  exact e
theorem Mk.step {M : Ms} {H H' : Hp} (m : Mk M H) (h : ∀ a, H a ≠ none → H' a ≠ none) : Mk M H' := fun a z => h a (m a z)
theorem there_new {H : Hp} {p a : Addr} {o : HO} (h : H a ≠ none) : upd H p o a ≠ none := by
  by_cases e : a = p
  · subst e
    rw [upd_same]
    exact fun z => nomatch z
  · rw [upd_ne e]
    exact h
/-- nothing goes -/
def Gr (H H' : Hp) : Prop := ∀ a, H a ≠ none → H' a ≠ none
theorem Gr.refl {H : Hp} : Gr H H := fun _ h => h
theorem Gr.trans {H H1 H2 : Hp} (a : Gr H H1) (b : Gr H1 H2) : Gr H H2 := fun c h => b c (a c h)
theorem Gr.upd {H : Hp} {p : Addr} {o : HO} : Gr H (upd H p o) := fun _ h => there_new h
theorem Gr.same {H H' : Hp} (s : Same H H') : Gr H H' := fun a h => by
  cases e : H a with
  | none => exact absurd e h
  | some o =>
    rw [s a o e]
    exact fun z => nomatch z
theorem Mk.gr {M : Ms} {H H' : Hp} (m : Mk M H) (g : Gr H H') : Mk M H' := fun a z => g a (m a z)
theorem Mk.out {M : Ms} {H : Hp} {p : Addr} (m : Mk M H) (h : H p = none) : ¬ M p := fun z => m p z h
theorem Mk.also {M : Ms} {H : Hp} {p : Addr} (m : Mk M H) (h : H p ≠ none) : Mk (also M p) H := fun a z => by
  rcases z with z | rfl
  · exact m a z
  · exact h
theorem ne_none {H : Hp} {p : Addr} {o : HO} (h : H p = some o) : H p ≠ none := by
  rw [h]
  exact fun z => nomatch z
theorem upd_there {H : Hp} {p : Addr} {o : HO} : upd H p o p ≠ none := by
  rw [upd_same]
  exact fun z => nomatch z

/-! ### lists and tuples that are read -/
theorem sx_rd {M : Ms} {H H' : Hp} {a : Addr} {u : HO} (s : Sx M H H') (n : ¬ M a) (h : Rd H a u) : Rd H' a u := by
  rcases h with h | ⟨o, h⟩
  · exact .inl (s a _ n h)
  · exact .inr ⟨o, s a _ n h⟩
theorem sx_l {K : PySem.W.Frag} {M : Ms} {H H' : Hp} {a : Addr} {xs : List V} (s : Sx M H H') (n : ¬ M a) (h : SqL K H a xs) : SqL K H' a xs := by
  rcases h with h | h
  · exact .inl (sx_rd s n h)
  · exact .inr h
theorem sx_t {K : PySem.W.Frag} {M : Ms} {H H' : Hp} {a : Addr} {xs : List V} (s : Sx M H H') (n : ¬ M a) (h : SqT K H a xs) : SqT K H' a xs := by
  rcases h with h | h
  · exact .inl (sx_rd s n h)
  · exact .inr h

/-! ### data -/
/-- a tuple that stands -/
inductive RdT (H : Hp) (a : Addr) (xs : List V) : Prop
  | inl (h : H a = some (.tup xs))
theorem RdT.rd {H : Hp} {a : Addr} {xs : List V} (h : RdT H a xs) : Rd H a (.tup xs) := h.casesOn fun h => .inl h
theorem RdT.at {H : Hp} {a : Addr} {xs : List V} (h : RdT H a xs) : H a = some (.tup xs) := h.casesOn fun h => h
theorem sx_rt {M : Ms} {H H' : Hp} {a : Addr} {u : List V} (s : Sx M H H') (n : ¬ M a) (h : RdT H a u) : RdT H' a u := .inl (s a _ n h.at)
mutual
inductive Rp (M : Ms) (H : Hp) : V → PyData → Prop
  | non : Rp M H .non .none
  | bl (b : Bool) : Rp M H (.bl b) (.bool b)
  | int (i : Int) : Rp M H (.int i) (.int i)
  | str (x : Str) : Rp M H (.str x) (.str x)
  | lst {a : Addr} {xs : List V} {ds : List PyData} : ¬ M a → Rd H a (.lst xs) → RpAll M H xs ds → Rp M H (.ref a) (.list ds)
  | tup {a : Addr} {xs : List V} {ds : List PyData} : ¬ M a → RdT H a xs → RpAll M H xs ds → Rp M H (.ref a) (.tuple ds)
inductive RpAll (M : Ms) (H : Hp) : List V → List PyData → Prop
  | nil : RpAll M H [] []
  | cons {v : V} {vs : List V} {d : PyData} {ds : List PyData} : Rp M H v d → RpAll M H vs ds → RpAll M H (v :: vs) (d :: ds)
end
section
variable {K : PySem.W.Frag} {M N : Ms} {H H' : Hp}
mutual
theorem Rp.imp (f : ∀ a u, ¬ M a → Rd H a u → ¬ N a) (fl : ∀ a u, ¬ M a → Rd H a u → Rd H' a u) (ft : ∀ a xs, ¬ M a → RdT H a xs → RdT H' a xs) : ∀ (d : PyData) (v : V), Rp M H v d → Rp N H' v d
  | .none, _, h => by cases h; exact .non
  | .bool b, _, h => by cases h; exact .bl b
  | .int i, _, h => by cases h; exact .int i
  | .str x, _, h => by cases h; exact .str x
  | .list ds, _, h => by
    cases h with
    | lst n s r => exact .lst (f _ _ n s) (fl _ _ n s) (RpAll.imp f fl ft ds _ r)
  | .tuple ds, _, h => by
    cases h with
    | tup n s r => exact .tup (f _ _ n s.rd) (ft _ _ n s) (RpAll.imp f fl ft ds _ r)
  | .dict _, _, h => by cases h
theorem RpAll.imp (f : ∀ a u, ¬ M a → Rd H a u → ¬ N a) (fl : ∀ a u, ¬ M a → Rd H a u → Rd H' a u) (ft : ∀ a xs, ¬ M a → RdT H a xs → RdT H' a xs) : ∀ (ds : List PyData) (vs : List V), RpAll M H vs ds → RpAll N H' vs ds
  | [], _, h => by cases h; exact .nil
  | d :: ds, _, h => by
    cases h with
    | cons h1 h2 => exact .cons (Rp.imp f fl ft d _ h1) (RpAll.imp f fl ft ds _ h2)
end
theorem Rp.sx {v : V} {d : PyData} (s : Sx M H H') (h : Rp M H v d) : Rp M H' v d := Rp.imp (fun _ _ n _ => n) (fun _ _ n q => sx_rd s n q) (fun _ _ n q => sx_rt s n q) d v h
theorem RpAll.sx {vs : List V} {ds : List PyData} (s : Sx M H H') (h : RpAll M H vs ds) : RpAll M H' vs ds := RpAll.imp (fun _ _ n _ => n) (fun _ _ n q => sx_rd s n q) (fun _ _ n q => sx_rt s n q) ds vs h
/-- fewer that may be written -/
theorem Rp.less {v : V} {d : PyData} (f : ∀ a, N a → M a) (h : Rp M H v d) : Rp N H v d := Rp.imp (fun a _ n _ m => n (f a m)) (fun _ _ _ q => q) (fun _ _ _ q => q) d v h
theorem RpAll.less {vs : List V} {ds : List PyData} (f : ∀ a, N a → M a) (h : RpAll M H vs ds) : RpAll N H vs ds := RpAll.imp (fun a _ n _ m => n (f a m)) (fun _ _ _ q => q) (fun _ _ _ q => q) ds vs h

/-- an address that no datum reads: nothing stands there -/
theorem sql_kept {a p : Addr} {xs : List V} {o : HO} (h : SqL K H a xs) (n : H p = none) : SqL K (upd H p o) a xs := sx_l (M := fun _ => False) (Sx.new n) (fun z => z) h
theorem sqt_kept {a p : Addr} {xs : List V} {o : HO} (h : SqT K H a xs) (n : H p = none) : SqT K (upd H p o) a xs := sx_t (M := fun _ => False) (Sx.new n) (fun z => z) h

mutual
theorem Rp.dp : ∀ (d : PyData) (v : V), Rp M H v d → Dp K H v d
  | .none, _, h => by cases h; exact .non
  | .bool b, _, h => by cases h; exact .bl b
  | .int i, _, h => by cases h; exact .int i
  | .str x, _, h => by cases h; exact .str x
  | .list ds, _, h => by
    cases h with
    | lst n s r => exact .lst (.inl s) (RpAll.dp ds _ r)
  | .tuple ds, _, h => by
    cases h with
    | tup n s r => exact .tup (.inl s.rd) (RpAll.dp ds _ r)
  | .dict _, _, h => by cases h
theorem RpAll.dp : ∀ (ds : List PyData) (vs : List V), RpAll M H vs ds → DpAll K H vs ds
  | [], _, h => by cases h; exact .nil
  | d :: ds, _, h => by
    cases h with
    | cons h1 h2 => exact .cons (Rp.dp d _ h1) (RpAll.dp ds _ h2)
end
theorem RpAll.length : ∀ {ds : List PyData} {vs : List V}, RpAll M H vs ds → vs.length = ds.length
  | [], _, h => by cases h; rfl
  | d :: ds, _, h => by
    cases h with
    | cons _ h2 =>
      rw [List.length_cons, List.length_cons, RpAll.length h2]
theorem RpAll.get : ∀ {ds : List PyData} {vs : List V} {i : Nat} {v : V}, RpAll M H vs ds → vs[i]? = some v → ∃ d, ds[i]? = some d ∧ Rp M H v d
  | [], _, i, v, h, e => by cases h; simp at e
  | d :: ds, _, 0, v, h, e => by
    cases h with
    | cons h1 _ =>
      have e1 := Option.some.inj e
      subst e1
      exact ⟨d, rfl, h1⟩
  | d :: ds, _, i + 1, v, h, e => by
    cases h with
    | cons _ h2 => exact RpAll.get (i := i) h2 e
theorem RpAll.getD : ∀ {ds : List PyData} {vs : List V} {i : Nat} {d : PyData}, RpAll M H vs ds → ds[i]? = some d → ∃ v, vs[i]? = some v ∧ Rp M H v d
  | [], _, i, v, h, e => by simp at e
  | d :: ds, _, 0, v, h, e => by
    cases h with
    | cons h1 _ =>
      have e1 := Option.some.inj e
      subst e1
      exact ⟨_, rfl, h1⟩
  | d :: ds, _, i + 1, v, h, e => by
    cases h with
    | cons _ h2 => exact RpAll.getD (i := i) h2 e
theorem RpAll.append : ∀ {ds es : List PyData} {vs us : List V}, RpAll M H vs ds → RpAll M H us es → RpAll M H (vs ++ us) (ds ++ es)
  | [], _, _, _, h, g => by cases h; exact g
  | d :: ds, _, _, _, h, g => by
    cases h with
    | cons h1 h2 => exact .cons h1 (RpAll.append h2 g)
theorem RpAll.take : ∀ (n : Nat) {ds : List PyData} {vs : List V}, RpAll M H vs ds → RpAll M H (vs.take n) (ds.take n)
  | 0, _, _, _ => .nil
  | n + 1, [], _, h => by cases h; exact .nil
  | n + 1, d :: ds, _, h => by
    cases h with
    | cons h1 h2 => exact .cons h1 (RpAll.take n h2)
theorem RpAll.drop : ∀ (n : Nat) {ds : List PyData} {vs : List V}, RpAll M H vs ds → RpAll M H (vs.drop n) (ds.drop n)
  | 0, _, _, h => h
  | n + 1, [], _, h => by cases h; exact .nil
  | n + 1, d :: ds, _, h => by
    cases h with
    | cons h1 h2 => exact RpAll.drop n h2
theorem RpAll.one {v : V} {d : PyData} (h : Rp M H v d) : RpAll M H [v] [d] := .cons h .nil
theorem RpAll.eraseIdx : ∀ (n : Nat) {ds : List PyData} {vs : List V}, RpAll M H vs ds → RpAll M H (vs.eraseIdx n) (ds.eraseIdx n)
  | _, [], _, h => by cases h; exact .nil
  | 0, d :: ds, _, h => by
    cases h with
    | cons h1 h2 => exact h2
  | n + 1, d :: ds, _, h => by
    cases h with
    | cons h1 h2 => exact .cons h1 (RpAll.eraseIdx n h2)
theorem RpAll.ints : ∀ (ns : List Int), RpAll M H (ns.map V.int) (ns.map PyData.int)
  | [] => .nil
  | n :: r => .cons (.int n) (RpAll.ints r)
theorem RpAll.ofInts : ∀ {ns : List Int} {vs : List V}, RpAll M H vs (ns.map PyData.int) → vs = ns.map V.int
  | [], _, h => by cases h; rfl
  | n :: r, _, h => by
    cases h with
    | cons h1 h2 =>
      cases h1
      rw [RpAll.ofInts h2]
      rfl
end

/-- a fresh address may be written from now on -/
theorem rd_ne {H : Hp} {a p : Addr} {u : HO} (h : Rd H a u) (n : H p = none) : a ≠ p := fun e => by
  subst e
  rcases h with h | ⟨o, h⟩ <;> rw [n] at h <;> cases h
theorem Rp.fresh {M : Ms} {H : Hp} {p : Addr} (hp : H p = none) : ∀ {d : PyData} {v : V}, Rp M H v d → Rp (also M p) H v d := fun {d v} h => Rp.imp (fun a u n r z => z.elim n fun e => rd_ne r hp e) (fun _ _ _ q => q) (fun _ _ _ q => q) d v h
theorem RpAll.fresh {M : Ms} {H : Hp} {p : Addr} (hp : H p = none) {ds : List PyData} {vs : List V} (h : RpAll M H vs ds) : RpAll (also M p) H vs ds := RpAll.imp (fun a u n r z => z.elim n fun e => rd_ne r hp e) (fun _ _ _ q => q) (fun _ _ _ q => q) ds vs h
theorem also_le {M : Ms} {p : Addr} : ∀ a, M a → also M p a := fun _ h => .inl h

/-! ### the bag of a script's numbers -/
structure Bag (K : PySem.W.Frag) (M : Ms) (H : Hp) (b : Addr) : Prop where
  w : M b
  h : ∃ (n : Addr) (ns : List Int) (p r t s : Int), H b = some (.lst [.ref n, .int p, .int r, .int t, .int s]) ∧ ¬ M n ∧ Rd H n (.lst (ns.map V.int)) ∧ 0 ≤ p ∧ 0 ≤ r
/-- only the object at b has changed -/
def At (b : Addr) (H H' : Hp) : Prop := ∀ a, a ≠ b → H' a = H a
theorem At.upd {b : Addr} {H : Hp} {o : HO} : At b H (upd H b o) := fun _ n => upd_ne n
theorem At.sx {b : Addr} {H H' : Hp} (h : At b H H') : Sx (one b) H H' := fun a o n e => (h a n).trans e
theorem Bag.there {K : PySem.W.Frag} {M : Ms} {H : Hp} {b : Addr} (h : Bag K M H b) : H b ≠ none := by
  obtain ⟨_, n, ns, p, r, t, s, e, _⟩ := h
  exact ne_none e
/-- other things are written, new ones made -/
theorem Bag.keep {K : PySem.W.Frag} {M N : Ms} {H H' : Hp} {b : Addr} (h : Bag K M H b) (s : Sx N H H') (nb : ¬ N b) (le : ∀ a, N a → M a) : Bag K M H' b := by
  obtain ⟨w, n, ns, p, r, t, sd, e, hn, rd, q⟩ := h
  exact ⟨w, n, ns, p, r, t, sd, s _ _ nb e, hn, sx_rd s (fun z => hn (le _ z)) rd, q⟩
theorem Bag.more {K : PySem.W.Frag} {M : Ms} {H : Hp} {b p : Addr} (h : Bag K M H b) (hp : H p = none) : Bag K (also M p) H b := by
  obtain ⟨w, n, ns, q, r, t, sd, e, hn, rd, z⟩ := h
  exact ⟨.inl w, n, ns, q, r, t, sd, e, fun m => m.elim hn fun e => rd_ne rd hp e, rd, z⟩
theorem Bag.less {K : PySem.W.Frag} {M N : Ms} {H : Hp} {b : Addr} (h : Bag K M H b) (w : N b) (f : ∀ a, N a → M a) : Bag K N H b := by
  obtain ⟨_, n, ns, q, r, t, sd, e, hn, rd, z⟩ := h
  exact ⟨w, n, ns, q, r, t, sd, e, fun m => hn (f _ m), rd, z⟩
theorem one_le {M : Ms} {b : Addr} (w : M b) : ∀ a, one b a → M a := fun a e => by
  have e' : a = b := e
  rw [e']
  exact w
/-- a draw: behind it the bag stands, all else too -/
def Dr (K : PySem.W.Frag) (M : Ms) (b : Addr) (H : Hp) (R : PyData → Prop) (Q : VK) : Prop := ∀ v H' d, Sx (one b) H H' → Gr H H' → Bag K M H' b → Rp M H' v d → R d → Q v H'
/-- a def that writes nothing -/
def Pu (M : Ms) (H : Hp) (R : PyData → Prop) (Q : VK) : Prop := ∀ v H' d, Same H H' → Rp M H' v d → R d → Q v H'

/-! ### loops that the layer has no short rule for -/
theorem for_enum {K : PySem.W.Frag} {a : Addr} {xs : List V} {g : TG} {tb : TS} {D : Ends} {σ : L2.St} {H : Hp} (Pv : Nat → L2.St → Hp → Prop) (h0 : Pv 0 σ H) (hl : ∀ i σ H, i ≤ xs.length → Pv i σ H → SqL K H a xs)
    (hs : ∀ i x T σ H, xs[i]? = some x → H T = none → Pv i σ H → g (.ref T) σ (upd H T (.tup [.int (i : Nat), x])) fun σ2 H2 => tb { D with nx := Pv (i + 1), ct := Pv (i + 1), bk := D.nx } σ2 H2) (hd : ∀ σ H, Pv xs.length σ H → D.nx σ H) :
    ∃ W : Nat → Nat → L2.St → Hp → Prop, (∃ m, W 0 m σ H) ∧ ∀ i m σ H, W i m σ H →
      ((Ite K a).stop i H ∧ D.nx σ H) ∨ ((Ite K a).go i H ∧ ∃ N : L2.St → Hp → Prop, (∀ σ' H', N σ' H' → ∃ m', m' < m ∧ W (i + 1) m' σ' H') ∧ ∀ x H', (Ite K a).yld i H x H' → g x σ H' fun σ2 H2 => tb { D with nx := N, ct := N, bk := D.nx } σ2 H2) := by
  refine ⟨fun i m σ H => m = xs.length - i ∧ i ≤ xs.length ∧ Pv i σ H, ⟨xs.length, by simp, Nat.zero_le _, h0⟩, ?_⟩
  rintro i m σ H ⟨rfl, hi, p⟩
  have q := hl i σ H hi p
  by_cases hlt : i < xs.length
  · refine .inr ⟨⟨xs, xs[i], q, by simp [hlt]⟩, Pv (i + 1), fun σ' H' p' => ⟨xs.length - (i + 1), by omega, rfl, hlt, p'⟩, fun x H' y => ?_⟩
    obtain ⟨T, z, rfl, hT, rfl, hz⟩ := y
    exact hs i z T σ _ (hz xs q) hT p
  · have e : i = xs.length := by omega
    subst e
    exact .inl ⟨⟨xs, q, Nat.le_refl _⟩, hd σ H p⟩

theorem seqIx {j n : Nat} (h : j < n) : seqIndex? (j : Int) n = some j := by
  unfold seqIndex?
  have h1 : ¬ ((j : Int) < 0) := by omega
  have h2 : (0 : Int) ≤ (j : Int) := by omega
  have h3 : (j : Int) < (n : Int) := by omega
  simp only [if_neg h1, decide_eq_true h2, decide_eq_true h3, Bool.and_self, if_true, Int.toNat_natCast]
theorem small1000000 {n : Nat} (h : n ≤ 1000000) : n < sizeLine := Nat.lt_of_le_of_lt h (by decide)
theorem At.gr {b : Addr} {H H' : Hp} (h : At b H H') (hb : H' b ≠ none) : Gr H H' := fun a n => by
  by_cases e : a = b
  · rw [e]
    exact hb
  · rw [h a e]
    exact n

/-- what did not stand needs no leave -/
theorem Sx.cut {M : Ms} {H H' : Hp} {p : Addr} (s : Sx (also M p) H H') (n : H p = none) : Sx M H H' := fun a o m e => s a o (fun z => z.elim m fun z => by
  rw [z, n] at e
  cases e) e

theorem str_len (x y : Str) : (x ++ y).length = x.length + y.length := by
  show (x.cps ++ y.cps).size = _
  rw [Array.size_append]
  rfl

theorem log2_10 {v : Int} (h0 : 0 ≤ v) (h1 : v < 10) : v.natAbs.log2 < 1920 := Nat.lt_of_le_of_lt (Nat.log2_le_self _) (by omega)
theorem dig_len {v : Int} (h0 : 0 ≤ v) (h1 : v < 10) : (Str.ofString (toString v)).length = 1 := by
  have h : v = 0 ∨ v = 1 ∨ v = 2 ∨ v = 3 ∨ v = 4 ∨ v = 5 ∨ v = 6 ∨ v = 7 ∨ v = 8 ∨ v = 9 := by omega
  rcases h with rfl | rfl | rfl | rfl | rfl | rfl | rfl | rfl | rfl | rfl <;> decide +kernel
def isLab : V → Bool
  | .str z => decide (z.length ≤ 30)
  | _ => false
theorem lab_all (xs : List V) (h : xs.all isLab = true) : ∀ v ∈ xs, ∃ z : Str, v = V.str z ∧ z.length ≤ 30 := fun v hv => by
  have h1 := List.all_eq_true.mp h v hv
  cases v with
  | str z => exact ⟨z, rfl, of_decide_eq_true h1⟩
  | _ => cases h1

theorem sz2 {x y : V} : [x, y].length ≤ sizeLine := by show 2 ≤ sizeLine; decide
/-! ### sizes of nodes -/
def mx (ns : List Int) : Int := ns.foldl (fun a b => if a < b then b else a) 0
theorem foldmx : ∀ (ns : List Int) (a : Int), a ≤ ns.foldl (fun a b => if a < b then b else a) a ∧ (∀ n ∈ ns, n ≤ ns.foldl (fun a b => if a < b then b else a) a) ∧ (ns.foldl (fun a b => if a < b then b else a) a = a ∨ ns.foldl (fun a b => if a < b then b else a) a ∈ ns)
  | [], a => ⟨Int.le_refl _, (fun _ h => nomatch h), .inl rfl⟩
  | n :: r, a => by
    have ih := foldmx r (if a < n then n else a)
    simp only [List.foldl_cons]
    obtain ⟨h1, h2, h3⟩ := ih
    refine ⟨?_, fun m hm => ?_, ?_⟩
    · split at h1 <;> split <;> omega
    · rcases List.mem_cons.mp hm with rfl | hm
      · split at h1 <;> split <;> omega
      · exact h2 m hm
    · rcases h3 with h3 | h3
      · by_cases c : a < n
        · right
          rw [if_pos c] at h3 ⊢
          rw [h3]
          exact List.mem_cons_self
        · left
          rw [if_neg c] at h3 ⊢
          exact h3
      · exact .inr (List.mem_cons_of_mem _ h3)
theorem mx_of {ns : List Int} {m : Int} (h0 : ∀ n ∈ ns, 0 ≤ n) (hm : m ∈ ns) (hle : ∀ y, y ∈ ns → y ≤ m) : m = mx ns := by
  obtain ⟨h1, h2, h3⟩ := foldmx ns 0
  have a := h2 m hm
  have b := h0 m hm
  unfold mx
  rcases h3 with h3 | h3
  · omega
  · have c := hle _ h3
    omega
theorem mx_take {ns : List Int} {i : Nat} {z : Int} (h : ns[i]? = some z) : mx (ns.take (i + 1)) = if mx (ns.take i) < z then z else mx (ns.take i) := by
  unfold mx
  rw [List.take_add_one, h, List.foldl_append]
  rfl
def sRow : Str := "row"
def sCol : Str := "col"
def szf (z : Str) (ps : List (Int × Int)) : Int × Int :=
  if ps = [] then (if z = sRow ∨ z = sCol then (0, 0) else ((z.length : Int), 1))
  else if z = sRow then ((ps.map (·.1)).sum, mx (ps.map (·.2))) else (mx (ps.map (·.1)), (ps.map (·.2)).sum)
/-- pairs -/
def pD (p : Int × Int) : PyData := .tuple [.int p.1, .int p.2]
theorem Rp.pair {M : Ms} {H : Hp} {v : V} {p : Int × Int} (h : Rp M H v (pD p)) : ∃ t, v = .ref t ∧ Rd H t (.tup [.int p.1, .int p.2]) := by
  cases h with
  | @tup a xs _ n s r =>
    cases r with
    | cons h1 h2 =>
      cases h2 with
      | cons h3 h4 =>
        cases h1
        cases h3
        cases h4
        exact ⟨a, rfl, s.rd⟩
theorem RpAll.pair {M : Ms} {H : Hp} {vs : List V} {ps : List (Int × Int)} {i : Nat} {v : V} (h : RpAll M H vs (ps.map pD)) (hv : vs[i]? = some v) : ∃ p t, ps[i]? = some p ∧ v = .ref t ∧ Rd H t (.tup [.int p.1, .int p.2]) := by
  obtain ⟨d, hd, hr⟩ := h.get hv
  rw [List.getElem?_map] at hd
  obtain ⟨p, hp, rfl⟩ := Option.map_eq_some_iff.mp hd
  obtain ⟨t, e, r⟩ := hr.pair
  exact ⟨p, t, hp, e, r⟩
theorem same_rd {H H' : Hp} {a : Addr} {u : HO} (s : Same H H') (h : Rd H a u) : Rd H' a u := sx_rd (M := fun _ => False) (Sx.same s) (fun z => z) h

/-! ### the layer's rules with the written part named, for comprehensions -/
section
variable {X : Cx} {K : PySem.W.Frag}
theorem ix_listK (h : X.K = K) : IxR X (rIxL K) := by subst h; exact ix_list
theorem ix_tupK (h : X.K = K) : IxR X (rIxT K) := by subst h; exact ix_tup
theorem sl_listK (h : X.K = K) : SlR X (rSlL K) := by subst h; exact sl_list
theorem sl_tupK (h : X.K = K) : SlR X (rSlA K) := by subst h; exact sl_tupA
theorem op_in_seqK (h : X.K = K) : OpR X (compareOp .In) (rIn K false) := by subst h; exact op_in_seq
theorem op_notIn_seqK (h : X.K = K) : OpR X (compareOp .NotIn) (rIn K true) := by subst h; exact op_notIn_seq
theorem op_catAK (h : X.K = K) : OpR X (binaryOp .Add) (rCatA K) := by subst h; exact op_catA
theorem op_eqDK (h : X.K = K) (hu : X.A.units + 64 < cLine) : OpR X (compareOp .Eq) (rEqD K) := by subst h; exact op_eqD hu
theorem op_neDK (h : X.K = K) (hu : X.A.units + 64 < cLine) : OpR X (compareOp .NotEq) (rNeD K) := by subst h; exact op_neD hu
def rLenS (K : PySem.W.Frag) : List V → Hp → VK → Prop := fun xs H Q => ∃ p ys, xs = [.ref p] ∧ (SqL K H p ys ∨ SqT K H p ys) ∧ Q (.int ys.length) H
theorem call_lenK (h : X.K = K) : CallR X (.builtin "len") (rLenS K) := by subst h; exact call_len_seq
def rListS (K : PySem.W.Frag) : List V → Hp → VK → Prop := fun xs H Q => ∃ p ys, xs = [.ref p] ∧ (SqL K H p ys ∨ SqT K H p ys) ∧ ∀ l, H l = none → Q (.ref l) (upd H l (.lst ys))
theorem call_listK (h : X.K = K) : CallR X (.type "list") (rListS K) := by subst h; exact call_list_of
def rTupS (K : PySem.W.Frag) : List V → Hp → VK → Prop := fun xs H Q => ∃ p ys, xs = [.ref p] ∧ ((SqL K H p ys ∧ ∀ l, H l = none → Q (.ref l) (upd H l (.tup ys))) ∨ (SqT K H p ys ∧ Q (.ref p) H))
theorem call_tupleK (h : X.K = K) : CallR X (.type "tuple") (rTupS K) := by subst h; exact call_tuple_of
theorem cr_sumK (h : X.K = K) (hc : X.calm = true) : CallR X (.builtin "sum") (rSum K) := by subst h; exact cr_sum hc
theorem cr_maxK (h : X.K = K) (hc : X.calm = true) : CallR X (.builtin "max") (rMax K) := by subst h; exact cr_max hc
theorem cr_minK (h : X.K = K) (hc : X.calm = true) : CallR X (.builtin "min") (rMin K) := by subst h; exact cr_min hc
theorem cr_anyK (h : X.K = K) (hc : X.calm = true) : CallR X (.builtin "any") (rAny K) := by subst h; exact cr_any hc
theorem cr_allK (h : X.K = K) (hc : X.calm = true) : CallR X (.builtin "all") (rAll K) := by subst h; exact cr_all hc
theorem call_isi1K (h : X.K = K) : CallR X (.builtin "isinstance") (rIsi K) := by subst h; exact call_isi
theorem call_isiTK (h : X.K = K) : CallR X (.builtin "isinstance") (rIsiT K) := by subst h; exact call_isiT
def tTruth (K : PySem.W.Frag) (ta : TE) : TT := fun σ H Q => ta σ H fun x H' => ∃ k, TruV K x H' k ∧ Q k H'
theorem pt_truthK {a : Expr} {ta : TE} (h : X.K = K) (ha : PE X a ta) (he : ∀ whole, isTrue a X.env whole = (do let v ← whole; standAt a.pos; holding [v] (truthy v))) : PT X a (tTruth K ta) := by subst h; exact pt_truth ha he
theorem pe_fldK {e : Expr} {f : Str} {pos : Pos} {ta : TE} (h : X.K = K) (he : PE X e ta) (hb : attributeBase e f X.env (eval e X.env) = eval e X.env) : PE X (.Attribute e f pos) (tFld K ta f) := by subst h; exact pe_fld he hb
theorem pi_listK {tg l : Expr} {tl : TE} (h : X.K = K) (hl : PE X l tl) : PI X tg l (iList K tl) := by subst h; exact pi_list hl
theorem pi_tupK {tg l : Expr} {tl : TE} (h : X.K = K) (hl : PE X l tl) : PI X tg l (iTup K tl) := by subst h; exact pi_tup hl
theorem pg_tupK {es : List Expr} {k : Nat} {t : TGs} {n : Nat} {pos : Pos} (hK : X.K = K) (hc : X.calm = true) (h : PGs X es t)
    (hn : (assignEach es X.env).length = n := by rfl) (hst : (assignEach es X.env).findIdx? (·.1) = none := by rfl) : PG X (.Tuple es k pos) (gTup K n t) := by subst hK; exact pg_tup hc h hn hst
theorem pi_enumK {e : Expr} {ta : TA} {p pos tpos : Pos} {elts : List Expr} {kk : Nat} (hK : X.K = K) (hg : Gl X "enumerate") (hm : X.mg "enumerate" = none) (ha : PA X [e] ta) (hs : starEach [e] X.env = [(false, eval e X.env)] := by rfl) :
    PI X (.Tuple elts kk tpos) (.Call (.Name "enumerate" p) [e] [] pos) (iEnum K ta) := by subst hK; exact pi_enum hg hm ha hs
theorem pi_zipK {e e2 : Expr} {ta : TA} {p pos tpos : Pos} {elts : List Expr} {kk : Nat} (hK : X.K = K) (hg : Gl X "zip") (hm : X.mg "zip" = none) (ha : PA X [e, e2] ta)
    (hs : starEach [e, e2] X.env = (false, eval e X.env) :: starEach [e2] X.env := by rfl) (hpl : (backTo pos (starEach [e2] X.env)).any (·.1) = false := by rfl) :
    PI X (.Tuple elts kk tpos) (.Call (.Name "zip" p) [e, e2] [] pos) (iZip K ta) := by subst hK; exact pi_zip hg hm ha hs hpl
end

/-- a comprehension over a list whose elements make nothing -/
theorem lc_vals {K : PySem.W.Frag} {a : Addr} {xs ys : List V} {g : TG} {tt : TT} {te : TE} {vs : List Nat} {σ : L2.St} {H : Hp} {D : Addr} {Qd : Hp → Prop} (hD : H D = none) (hS : SqL K H a xs) (hn : ys.length = xs.length) (hz : xs.length ≤ 1000000)
    (hs : ∀ (i : Nat) (x y : V) (H' : Hp) (C : VK) (N : Hp → Prop), xs[i]? = some x → ys[i]? = some y → Same H H' → C y H' → g x (wipe σ vs) H' fun σ2 H2 => wipe σ2 vs = wipe σ vs ∧ tt σ2 H2 fun b H3 => if b = true then te σ2 H3 C else N H3)
    (hd : ∀ H', Same H H' → H' D = some (.lst ys) → Qd H') :
    ∃ W : Nat → Nat → Hp → Prop, (∃ m, W 0 m (upd H D (.lst []))) ∧ ∀ i m H, W i m H →
      ((Itl K a).stop i H ∧ Qd H) ∨ ((Itl K a).go i H ∧ ∃ Nx : Hp → Prop, (∀ H', Nx H' → ∃ m', m' < m ∧ W (i + 1) m' H') ∧ ∀ x H', (Itl K a).yld i H x H' → g x (wipe σ vs) H' fun σ2 H2 => wipe σ2 vs = wipe σ vs ∧ tt σ2 H2 fun b H3 =>
        if b = true then te σ2 H3 fun y H4 => ∃ acc, H4 D = some (.lst acc) ∧ acc.length < sizeLine ∧ Nx (upd H4 D (.lst (acc ++ [y]))) else Nx H3) := by
  refine lc_list (K := K) (a := a) (xs := xs) (fun i H' => Same H H' ∧ H' D = some (.lst (ys.take i))) ⟨same_new hD, by rw [upd_same]; rfl⟩ (fun i H' _ p => p.1.seq hS) (fun i x H' hx p => ?_) (fun H' p => ?_)
  · have hi : i < ys.length := by
      rw [hn]
      exact (List.getElem?_eq_some_iff.mp hx).1
    refine hs i x ys[i] H' _ _ hx (List.getElem?_eq_getElem hi) p.1 ⟨_, p.2, ?_, fun c o e => ?_, ?_⟩
    · rw [List.length_take]
      exact small1000000 (by omega)
    · rw [upd_ne (ne_of_none e hD)]
      exact p.1 c o e
    · rw [upd_same, List.take_add_one, List.getElem?_eq_getElem hi]
      rfl
  · refine hd H' p.1 ?_
    have e := p.2
    rw [← hn, List.take_length] at e
    exact e
theorem same_sqt {K : PySem.W.Frag} {H H' : Hp} {a : Addr} {xs : List V} (s : Same H H') (h : SqT K H a xs) : SqT K H' a xs := sx_t (M := fun _ => False) (Sx.same s) (fun z => z) h
/-- a comprehension over a tuple whose elements make nothing -/
theorem lc_valsT {K : PySem.W.Frag} {a : Addr} {xs ys : List V} {g : TG} {tt : TT} {te : TE} {vs : List Nat} {σ : L2.St} {H : Hp} {D : Addr} {Qd : Hp → Prop} (hD : H D = none) (hS : SqT K H a xs) (hn : ys.length = xs.length) (hz : xs.length ≤ 1000000)
    (hs : ∀ (i : Nat) (x y : V) (H' : Hp) (C : VK) (N : Hp → Prop), xs[i]? = some x → ys[i]? = some y → Same H H' → C y H' → g x (wipe σ vs) H' fun σ2 H2 => wipe σ2 vs = wipe σ vs ∧ tt σ2 H2 fun b H3 => if b = true then te σ2 H3 C else N H3)
    (hd : ∀ H', Same H H' → H' D = some (.lst ys) → Qd H') :
    ∃ W : Nat → Nat → Hp → Prop, (∃ m, W 0 m (upd H D (.lst []))) ∧ ∀ i m H, W i m H →
      ((Itt K a).stop i H ∧ Qd H) ∨ ((Itt K a).go i H ∧ ∃ Nx : Hp → Prop, (∀ H', Nx H' → ∃ m', m' < m ∧ W (i + 1) m' H') ∧ ∀ x H', (Itt K a).yld i H x H' → g x (wipe σ vs) H' fun σ2 H2 => wipe σ2 vs = wipe σ vs ∧ tt σ2 H2 fun b H3 =>
        if b = true then te σ2 H3 fun y H4 => ∃ acc, H4 D = some (.lst acc) ∧ acc.length < sizeLine ∧ Nx (upd H4 D (.lst (acc ++ [y]))) else Nx H3) := by
  refine lc_tup (K := K) (a := a) (xs := xs) (fun i H' => Same H H' ∧ H' D = some (.lst (ys.take i))) ⟨same_new hD, by rw [upd_same]; rfl⟩ (fun i H' _ p => same_sqt p.1 hS) (fun i x H' hx p => ?_) (fun H' p => ?_)
  · have hi : i < ys.length := by
      rw [hn]
      exact (List.getElem?_eq_some_iff.mp hx).1
    refine hs i x ys[i] H' _ _ hx (List.getElem?_eq_getElem hi) p.1 ⟨_, p.2, ?_, fun c o e => ?_, ?_⟩
    · rw [List.length_take]
      exact small1000000 (by omega)
    · rw [upd_ne (ne_of_none e hD)]
      exact p.1 c o e
    · rw [upd_same, List.take_add_one, List.getElem?_eq_getElem hi]
      rfl
  · refine hd H' p.1 ?_
    have e := p.2
    rw [← hn, List.take_length] at e
    exact e

/-- two ways meet behind an if without else -/
theorem join2 {b : Bool} {A : Prop} {N : L2.St → Hp → Prop} {σ : L2.St} {H : Hp} (Pv : L2.St → Hp → Prop) (h1 : b = true → (∀ σ H, Pv σ H → N σ H) → A) (h2 : b = false → Pv σ H) (hN : ∀ σ H, Pv σ H → N σ H) : if b = true then A else N σ H := by
  cases b with
  | true =>
    rw [if_pos rfl]
    exact h1 rfl hN
  | false =>
    rw [if_neg Bool.false_ne_true]
    exact hN _ _ (h2 rfl)


theorem RpAll.rep {M : Ms} {H : Hp} {xs : List V} {ds : List PyData} (h : RpAll M H xs ds) : ∀ n : Nat, RpAll M H (List.replicate n xs).flatten (List.replicate n ds).flatten
  | 0 => .nil
  | n + 1 => by
    rw [List.replicate_succ, List.replicate_succ, List.flatten_cons, List.flatten_cons]
    exact h.append (RpAll.rep h n)
theorem Bag.same {K : PySem.W.Frag} {M : Ms} {H H' : Hp} {b : Addr} (h : Bag K M H b) (s : Same H H') : Bag K M H' b := h.keep (N := fun _ => False) (Sx.same s) (fun z => z) (fun _ z => z.elim)
/-- a list of data that may still be written -/
def Ld (M : Ms) (H : Hp) (a : Addr) (ds : List PyData) : Prop := ¬ M a ∧ ∃ xs, H a = some (.lst xs) ∧ RpAll M H xs ds
theorem Ld.rp {M : Ms} {H : Hp} {a : Addr} {ds : List PyData} (h : Ld M H a ds) : Rp M H (.ref a) (.list ds) := by
  obtain ⟨n, xs, e, r⟩ := h
  exact .lst n (.inl e) r
theorem Ld.sx {M : Ms} {H H' : Hp} {a : Addr} {ds : List PyData} (h : Ld M H a ds) (s : Sx M H H') : Ld M H' a ds := by
  obtain ⟨n, xs, e, r⟩ := h
  exact ⟨n, xs, s _ _ n e, r.sx s⟩
theorem Ld.new {M : Ms} {H : Hp} {a : Addr} {xs : List V} {ds : List PyData} (m : Mk M H) (h : H a = none) (r : RpAll M H xs ds) : Ld M (upd H a (.lst xs)) a ds := ⟨m.out h, xs, upd_same, r.sx (Sx.new h)⟩
/-- a comprehension over a list: each element a datum, made on the way -/
theorem lc_data {K : PySem.W.Frag} {a : Addr} {xs : List V} {ys : List PyData} {g : TG} {tt : TT} {te : TE} {vs : List Nat} {σ : L2.St} {H : Hp} {D : Addr} {Qd : Hp → Prop} (M : Ms) (hM : Mk M H) (hD : H D = none) (hS : SqL K H a xs) (hn : ys.length = xs.length) (hz : xs.length ≤ 1000000)
    (hs : ∀ (i : Nat) (x : V) (y : PyData) (H' : Hp) (C : VK) (N : Hp → Prop), xs[i]? = some x → ys[i]? = some y → Same H H' → Mk (also M D) H' → (∀ v H2, Same H' H2 → Rp (also M D) H2 v y → C v H2) → g x (wipe σ vs) H' fun σ2 H2 => wipe σ2 vs = wipe σ vs ∧ tt σ2 H2 fun b H3 => if b = true then te σ2 H3 C else N H3)
    (hd : ∀ H', Same H H' → Ld M H' D ys → Qd H') :
    ∃ W : Nat → Nat → Hp → Prop, (∃ m, W 0 m (upd H D (.lst []))) ∧ ∀ i m H, W i m H →
      ((Itl K a).stop i H ∧ Qd H) ∨ ((Itl K a).go i H ∧ ∃ Nx : Hp → Prop, (∀ H', Nx H' → ∃ m', m' < m ∧ W (i + 1) m' H') ∧ ∀ x H', (Itl K a).yld i H x H' → g x (wipe σ vs) H' fun σ2 H2 => wipe σ2 vs = wipe σ vs ∧ tt σ2 H2 fun b H3 =>
        if b = true then te σ2 H3 fun y H4 => ∃ acc, H4 D = some (.lst acc) ∧ acc.length < sizeLine ∧ Nx (upd H4 D (.lst (acc ++ [y]))) else Nx H3) := by
  refine lc_list (K := K) (a := a) (xs := xs) (fun i H' => Same H H' ∧ ∃ acc, H' D = some (.lst acc) ∧ RpAll (also M D) H' acc (ys.take i)) ⟨same_new hD, [], upd_same, by rw [List.take_zero]; exact .nil⟩ (fun i H' _ p => p.1.seq hS) (fun i x H' hx p => ?_) (fun H' p => ?_)
  · obtain ⟨s, acc, e, r⟩ := p
    have hi : i < ys.length := by
      rw [hn]
      exact (List.getElem?_eq_some_iff.mp hx).1
    have hl := r.length
    rw [List.length_take] at hl
    refine hs i x ys[i] H' _ _ hx (List.getElem?_eq_getElem hi) s ((hM.gr (Gr.same s)).also (ne_none e)) fun v H2 s2 rv => ?_
    refine ⟨acc, s2 _ _ e, small1000000 (by omega), fun c o q => ?_, acc ++ [v], upd_same, ?_⟩
    · rw [upd_ne (ne_of_none q hD)]
      exact s2 _ _ (s c o q)
    · rw [List.take_add_one, List.getElem?_eq_getElem hi]
      exact ((r.sx (Sx.same s2)).append (.one rv)).sx (Sx.put (.inr rfl))
  · obtain ⟨s, acc, e, r⟩ := p
    rw [← hn, List.take_length] at r
    exact hd H' s ⟨hM.out hD, acc, e, r.less also_le⟩

theorem cut_hi (xs : List V) (n : Nat) : cutV xs none (some (n : Int)) = xs.take n := by
  unfold cutV
  rw [show HT.sIx xs.length 0 none = 0 from HT.sIx_none .., show HT.sIx xs.length xs.length (some (n : Int)) = min n xs.length from HT.sIx_nat _ _ n, List.drop_zero, Nat.sub_zero]
  rw [List.take_eq_take_iff]
  omega

theorem szK {n : Nat} (h : Nat.ble n 1000 = true) : n ≤ sizeLine := Nat.le_of_lt (small1000 (Nat.le_of_ble_eq_true h))

/-- what holds behind a statement, said once for all its ways -/
theorem seq_join {t u : TS} {D : Ends} {σ : L2.St} {H : Hp} (Pv : L2.St → Hp → Prop) (h : (∀ σ H, Pv σ H → u D σ H) → t { D with nx := u D } σ H) (hN : ∀ σ H, Pv σ H → u D σ H) : tSeq t u D σ H := h hN

theorem lc_str {z : Str} {g : TG} {tt : TT} {te : TE} {vs : List Nat} {σ : L2.St} {H1 : Hp} {D : Addr} {Qd : Hp → Prop} (Pv : Nat → Hp → Prop) (h0 : Pv 0 (upd H1 D (.lst [])))
    (hs : ∀ i c H, z.cps[i]? = some c → Pv i H → g (.str ⟨#[c]⟩) (wipe σ vs) H fun σ2 H2 => wipe σ2 vs = wipe σ vs ∧ tt σ2 H2 fun b H3 =>
      if b = true then te σ2 H3 fun y H4 => ∃ acc, H4 D = some (.lst acc) ∧ acc.length < sizeLine ∧ Pv (i + 1) (upd H4 D (.lst (acc ++ [y]))) else Pv (i + 1) H3) (hd : ∀ H, Pv z.cps.size H → Qd H) :
    ∃ W : Nat → Nat → Hp → Prop, (∃ m, W 0 m (upd H1 D (.lst []))) ∧ ∀ i m H, W i m H →
      ((Its z).stop i H ∧ Qd H) ∨ ((Its z).go i H ∧ ∃ Nx : Hp → Prop, (∀ H', Nx H' → ∃ m', m' < m ∧ W (i + 1) m' H') ∧ ∀ x H', (Its z).yld i H x H' → g x (wipe σ vs) H' fun σ2 H2 => wipe σ2 vs = wipe σ vs ∧ tt σ2 H2 fun b H3 =>
        if b = true then te σ2 H3 fun y H4 => ∃ acc, H4 D = some (.lst acc) ∧ acc.length < sizeLine ∧ Nx (upd H4 D (.lst (acc ++ [y]))) else Nx H3) := by
  refine ⟨fun i m H => m = z.cps.size - i ∧ i ≤ z.cps.size ∧ Pv i H, ⟨_, rfl, Nat.zero_le _, h0⟩, ?_⟩
  rintro i m H ⟨rfl, hi, p⟩
  by_cases hlt : i < z.cps.size
  · refine .inr ⟨hlt, Pv (i + 1), fun H' p' => ⟨z.cps.size - (i + 1), by omega, rfl, hlt, p'⟩, fun x H' y => ?_⟩
    obtain ⟨e, c, hc, rfl⟩ := y
    subst e
    exact hs i c _ hc p
  · have e : i = z.cps.size := by omega
    subst e
    exact .inl ⟨Nat.le_refl _, hd H p⟩
/-- a comprehension over a text whose elements make nothing -/
theorem lc_valsS {z : Str} {ys : List V} {g : TG} {tt : TT} {te : TE} {vs : List Nat} {σ : L2.St} {H : Hp} {D : Addr} {Qd : Hp → Prop} (hD : H D = none) (hn : ys.length = z.cps.size) (hz : z.cps.size ≤ 1000000)
    (hs : ∀ (i : Nat) (c : Nat) (y : V) (H' : Hp) (C : VK) (N : Hp → Prop), z.cps[i]? = some c → ys[i]? = some y → Same H H' → C y H' → g (.str ⟨#[c]⟩) (wipe σ vs) H' fun σ2 H2 => wipe σ2 vs = wipe σ vs ∧ tt σ2 H2 fun b H3 => if b = true then te σ2 H3 C else N H3)
    (hd : ∀ H', Same H H' → H' D = some (.lst ys) → Qd H') :
    ∃ W : Nat → Nat → Hp → Prop, (∃ m, W 0 m (upd H D (.lst []))) ∧ ∀ i m H, W i m H →
      ((Its z).stop i H ∧ Qd H) ∨ ((Its z).go i H ∧ ∃ Nx : Hp → Prop, (∀ H', Nx H' → ∃ m', m' < m ∧ W (i + 1) m' H') ∧ ∀ x H', (Its z).yld i H x H' → g x (wipe σ vs) H' fun σ2 H2 => wipe σ2 vs = wipe σ vs ∧ tt σ2 H2 fun b H3 =>
        if b = true then te σ2 H3 fun y H4 => ∃ acc, H4 D = some (.lst acc) ∧ acc.length < sizeLine ∧ Nx (upd H4 D (.lst (acc ++ [y]))) else Nx H3) := by
  refine lc_str (z := z) (fun i H' => Same H H' ∧ H' D = some (.lst (ys.take i))) ⟨same_new hD, by rw [upd_same]; rfl⟩ (fun i c H' hc p => ?_) (fun H' p => ?_)
  · have hi : i < ys.length := by
      rw [hn]
      exact (Array.getElem?_eq_some_iff.mp hc).1
    refine hs i c ys[i] H' _ _ hc (List.getElem?_eq_getElem hi) p.1 ⟨_, p.2, ?_, fun c o e => ?_, ?_⟩
    · rw [List.length_take]
      exact small1000000 (by omega)
    · rw [upd_ne (ne_of_none e hD)]
      exact p.1 c o e
    · rw [upd_same, List.take_add_one, List.getElem?_eq_getElem hi]
      rfl
  · refine hd H' p.1 ?_
    have e := p.2
    rw [← hn, List.take_length] at e
    exact e

theorem cut1 (y : V) (r : List V) : cutV (y :: r) (some 1) none = r := by
  unfold cutV
  rw [show HT.sIx (y :: r).length 0 (some 1) = min 1 (y :: r).length from HT.sIx_nat (y :: r).length 0 1, HT.sIx_none]
  rw [show min 1 (y :: r).length = 1 by
      rw [List.length_cons]
      omega]
  show List.take ((y :: r).length - 1) r = r
  rw [List.length_cons, Nat.add_sub_cancel]
  exact List.take_length

theorem rd_ty {K : PySem.W.Frag} {H : Hp} {a : Addr} {xs : List V} (h : Rd H a (.tup xs)) : TyX K H (.ref a) (.type "tuple") := by
  rcases h with h | ⟨o, h⟩
  · exact .base (.tup h)
  · exact .fTuple h
/-- a comprehension over a tuple: each element a datum, made on the way -/
theorem lc_dataT {K : PySem.W.Frag} {a : Addr} {xs : List V} {ys : List PyData} {g : TG} {tt : TT} {te : TE} {vs : List Nat} {σ : L2.St} {H : Hp} {D : Addr} {Qd : Hp → Prop} (M : Ms) (hM : Mk M H) (hD : H D = none) (hS : SqT K H a xs) (hn : ys.length = xs.length) (hz : xs.length ≤ 1000000)
    (hs : ∀ (i : Nat) (x : V) (y : PyData) (H' : Hp) (C : VK) (N : Hp → Prop), xs[i]? = some x → ys[i]? = some y → Same H H' → Mk (also M D) H' → (∀ v H2, Same H' H2 → Rp (also M D) H2 v y → C v H2) → g x (wipe σ vs) H' fun σ2 H2 => wipe σ2 vs = wipe σ vs ∧ tt σ2 H2 fun b H3 => if b = true then te σ2 H3 C else N H3)
    (hd : ∀ H', Same H H' → Ld M H' D ys → Qd H') :
    ∃ W : Nat → Nat → Hp → Prop, (∃ m, W 0 m (upd H D (.lst []))) ∧ ∀ i m H, W i m H →
      ((Itt K a).stop i H ∧ Qd H) ∨ ((Itt K a).go i H ∧ ∃ Nx : Hp → Prop, (∀ H', Nx H' → ∃ m', m' < m ∧ W (i + 1) m' H') ∧ ∀ x H', (Itt K a).yld i H x H' → g x (wipe σ vs) H' fun σ2 H2 => wipe σ2 vs = wipe σ vs ∧ tt σ2 H2 fun b H3 =>
        if b = true then te σ2 H3 fun y H4 => ∃ acc, H4 D = some (.lst acc) ∧ acc.length < sizeLine ∧ Nx (upd H4 D (.lst (acc ++ [y]))) else Nx H3) := by
  refine lc_tup (K := K) (a := a) (xs := xs) (fun i H' => Same H H' ∧ ∃ acc, H' D = some (.lst acc) ∧ RpAll (also M D) H' acc (ys.take i)) ⟨same_new hD, [], upd_same, by rw [List.take_zero]; exact .nil⟩ (fun i H' _ p => same_sqt p.1 hS) (fun i x H' hx p => ?_) (fun H' p => ?_)
  · obtain ⟨s, acc, e, r⟩ := p
    have hi : i < ys.length := by
      rw [hn]
      exact (List.getElem?_eq_some_iff.mp hx).1
    have hl := r.length
    rw [List.length_take] at hl
    refine hs i x ys[i] H' _ _ hx (List.getElem?_eq_getElem hi) s ((hM.gr (Gr.same s)).also (ne_none e)) fun v H2 s2 rv => ?_
    refine ⟨acc, s2 _ _ e, small1000000 (by omega), fun c o q => ?_, acc ++ [v], upd_same, ?_⟩
    · rw [upd_ne (ne_of_none q hD)]
      exact s2 _ _ (s c o q)
    · rw [List.take_add_one, List.getElem?_eq_getElem hi]
      exact ((r.sx (Sx.same s2)).append (.one rv)).sx (Sx.put (.inr rfl))
  · obtain ⟨s, acc, e, r⟩ := p
    rw [← hn, List.take_length] at r
    exact hd H' s ⟨hM.out hD, acc, e, r.less also_le⟩


/-- a list that is made beside stays away -/
theorem same_put {H H' : Hp} {p : Addr} {o : HO} (s : Same H H') (h : H p = none) : Same H (upd H' p o) := fun a u e => by
  rw [upd_ne (ne_of_none e h)]
  exact s a u e
end D

namespace D
open PySem PySem.Spec PyProof.Rows L2
/-! ### forms -/
inductive Fm where
  | is (n : Int) | get (x : Str) | sum (f g : Fm) | same (f g : Fm) | pick (f g h : Fm)
def sIs : Str := "is"
def sGet : Str := "get"
def sSum : Str := "sum"
def sSame : Str := "same"
def sPick : Str := "pick"
namespace Fm
def word : Fm → Str
  | .is _ => sIs | .get _ => sGet | .sum _ _ => sSum | .same _ _ => sSame | .pick _ _ _ => sPick
def enc : Fm → PyData
  | .is n => .tuple [.str sIs, .int n]
  | .get x => .tuple [.str sGet, .str x]
  | .sum f g => .tuple [.str sSum, f.enc, g.enc]
  | .same f g => .tuple [.str sSame, f.enc, g.enc]
  | .pick f g h => .tuple [.str sPick, f.enc, g.enc, h.enc]
def subs : Fm → List Fm
  | .is _ => [] | .get _ => [] | .sum f g => [f, g] | .same f g => [f, g] | .pick f g h => [f, g, h]
def dep : Fm → Nat
  | .is _ => 1 | .get _ => 1
  | .sum f g => max f.dep g.dep + 1 | .same f g => max f.dep g.dep + 1
  | .pick f g h => max f.dep (max g.dep h.dep) + 1
def size : Fm → Nat
  | .is _ => 1 | .get _ => 1
  | .sum f g => f.size + g.size + 1 | .same f g => f.size + g.size + 1
  | .pick f g h => f.size + g.size + h.size + 1
def val (ρ : Str → Int) : Fm → Int
  | .is n => n | .get x => ρ x
  | .sum f g => (f.val ρ + g.val ρ) % 10
  | .same f g => if f.val ρ = g.val ρ then 1 else 0
  | .pick f g h => if f.val ρ = 0 then h.val ρ else g.val ρ
def ok (nm : Str → Prop) : Fm → Prop
  | .is n => 0 ≤ n ∧ n ≤ 9 | .get x => nm x
  | .sum f g => f.ok nm ∧ g.ok nm | .same f g => f.ok nm ∧ g.ok nm
  | .pick f g h => f.ok nm ∧ g.ok nm ∧ h.ok nm
theorem dep_pos : ∀ f : Fm, 1 ≤ f.dep
  | .is _ => Nat.le_refl _ | .get _ => Nat.le_refl _
  | .sum f g => by show 1 ≤ max f.dep g.dep + 1; omega
  | .same f g => by show 1 ≤ max f.dep g.dep + 1; omega
  | .pick f g h => by show 1 ≤ max f.dep (max g.dep h.dep) + 1; omega
theorem val_range {ρ : Str → Int} {nm : Str → Prop} (h : ∀ x, nm x → 0 ≤ ρ x ∧ ρ x ≤ 9) : ∀ f : Fm, f.ok nm → 0 ≤ f.val ρ ∧ f.val ρ ≤ 9
  | .is n, o => o
  | .get x, o => h x o
  | .sum f g, o => by
    show 0 ≤ (f.val ρ + g.val ρ) % 10 ∧ (f.val ρ + g.val ρ) % 10 ≤ 9
    omega
  | .same f g, o => by
    show 0 ≤ (if f.val ρ = g.val ρ then (1 : Int) else 0) ∧ (if f.val ρ = g.val ρ then (1 : Int) else 0) ≤ 9
    split <;> decide
  | .pick f g k, o => by
    show 0 ≤ (if f.val ρ = 0 then k.val ρ else g.val ρ) ∧ (if f.val ρ = 0 then k.val ρ else g.val ρ) ≤ 9
    split
    · exact val_range h k o.2.2
    · exact val_range h g o.2.1
end Fm
section
variable {M : Ms} {H : Hp} {v : V}
theorem Rp.tupN {ds : List PyData} (h : Rp M H v (.tuple ds)) : ∃ a xs, v = .ref a ∧ ¬ M a ∧ Rd H a (.tup xs) ∧ RpAll M H xs ds := by
  cases h with
  | @tup a xs _ n s r => exact ⟨a, xs, rfl, n, s.rd, r⟩
theorem Rp.tupX {ds : List PyData} (h : Rp M H v (.tuple ds)) : ∃ a xs, v = .ref a ∧ ¬ M a ∧ H a = some (.tup xs) ∧ RpAll M H xs ds := by
  cases h with
  | @tup a xs _ n s r => exact ⟨a, xs, rfl, n, s.at, r⟩
theorem Rp.lstN {ds : List PyData} (h : Rp M H v (.list ds)) : ∃ a xs, v = .ref a ∧ ¬ M a ∧ Rd H a (.lst xs) ∧ RpAll M H xs ds := by
  cases h with
  | @lst a xs _ n s r => exact ⟨a, xs, rfl, n, s, r⟩
theorem Rp.int_inv {i : Int} (h : Rp M H v (.int i)) : v = .int i := by cases h; rfl
theorem Rp.str_inv {x : Str} (h : Rp M H v (.str x)) : v = .str x := by cases h; rfl
theorem RpAll.inv1 {xs : List V} {d1 : PyData} (h : RpAll M H xs [d1]) : ∃ v1, xs = [v1] ∧ Rp M H v1 d1 := by
  cases h with | cons h1 h2 => cases h2; exact ⟨_, rfl, h1⟩
theorem RpAll.inv2 {xs : List V} {d1 d2 : PyData} (h : RpAll M H xs [d1, d2]) : ∃ v1 v2, xs = [v1, v2] ∧ Rp M H v1 d1 ∧ Rp M H v2 d2 := by
  cases h with | cons h1 h2 => obtain ⟨v2, rfl, r2⟩ := h2.inv1; exact ⟨_, _, rfl, h1, r2⟩
theorem RpAll.inv3 {xs : List V} {d1 d2 d3 : PyData} (h : RpAll M H xs [d1, d2, d3]) : ∃ v1 v2 v3, xs = [v1, v2, v3] ∧ Rp M H v1 d1 ∧ Rp M H v2 d2 ∧ Rp M H v3 d3 := by
  cases h with | cons h1 h2 => obtain ⟨v2, v3, rfl, r2, r3⟩ := h2.inv2; exact ⟨_, _, _, rfl, h1, r2, r3⟩
theorem RpAll.inv4 {xs : List V} {d1 d2 d3 d4 : PyData} (h : RpAll M H xs [d1, d2, d3, d4]) : ∃ v1 v2 v3 v4, xs = [v1, v2, v3, v4] ∧ Rp M H v1 d1 ∧ Rp M H v2 d2 ∧ Rp M H v3 d3 ∧ Rp M H v4 d4 := by
  cases h with | cons h1 h2 => obtain ⟨v2, v3, v4, rfl, r2, r3, r4⟩ := h2.inv3; exact ⟨_, _, _, _, rfl, h1, r2, r3, r4⟩
/-- what stands of a form -/
inductive FmAt (M : Ms) (H : Hp) : Fm → List V → Prop
  | is (n : Int) : FmAt M H (.is n) [.str sIs, .int n]
  | get (x : Str) : FmAt M H (.get x) [.str sGet, .str x]
  | sum {f g : Fm} {u w : V} (a : Rp M H u f.enc) (b : Rp M H w g.enc) : FmAt M H (.sum f g) [.str sSum, u, w]
  | same {f g : Fm} {u w : V} (a : Rp M H u f.enc) (b : Rp M H w g.enc) : FmAt M H (.same f g) [.str sSame, u, w]
  | pick {f g h : Fm} {u w z : V} (a : Rp M H u f.enc) (b : Rp M H w g.enc) (c : Rp M H z h.enc) : FmAt M H (.pick f g h) [.str sPick, u, w, z]
theorem Rp.form {f : Fm} (h : Rp M H v f.enc) : ∃ a xs, v = .ref a ∧ ¬ M a ∧ Rd H a (.tup xs) ∧ FmAt M H f xs := by
  cases f with
  | is n =>
    obtain ⟨a, xs, rfl, n, s, r⟩ := Rp.tupN h
    obtain ⟨v1, v2, rfl, r1, r2⟩ := r.inv2
    cases r1; cases r2
    exact ⟨a, _, rfl, n, s, .is _⟩
  | get x =>
    obtain ⟨a, xs, rfl, n, s, r⟩ := Rp.tupN h
    obtain ⟨v1, v2, rfl, r1, r2⟩ := r.inv2
    cases r1; cases r2
    exact ⟨a, _, rfl, n, s, .get _⟩
  | sum f g =>
    obtain ⟨a, xs, rfl, n, s, r⟩ := Rp.tupN h
    obtain ⟨v1, v2, v3, rfl, r1, r2, r3⟩ := r.inv3
    cases r1
    exact ⟨a, _, rfl, n, s, .sum r2 r3⟩
  | same f g =>
    obtain ⟨a, xs, rfl, n, s, r⟩ := Rp.tupN h
    obtain ⟨v1, v2, v3, rfl, r1, r2, r3⟩ := r.inv3
    cases r1
    exact ⟨a, _, rfl, n, s, .same r2 r3⟩
  | pick f g k =>
    obtain ⟨a, xs, rfl, n, s, r⟩ := Rp.tupN h
    obtain ⟨v1, v2, v3, v4, rfl, r1, r2, r3, r4⟩ := r.inv4
    cases r1
    exact ⟨a, _, rfl, n, s, .pick r2 r3 r4⟩
theorem FmAt.rp {f : Fm} {xs : List V} {a : Addr} (h : FmAt M H f xs) (n : ¬ M a) (s : RdT H a xs) : Rp M H (.ref a) f.enc := by
  cases h with
  | is k => exact .tup n s (.cons (.str _) (.one (.int _)))
  | get x => exact .tup n s (.cons (.str _) (.one (.str _)))
  | sum a b => exact .tup n s (.cons (.str _) (.cons a (.one b)))
  | same a b => exact .tup n s (.cons (.str _) (.cons a (.one b)))
  | pick a b c => exact .tup n s (.cons (.str _) (.cons a (.cons b (.one c))))
end

/-! ### names -/
def isNm (x : Str) : Prop := 1 ≤ x.length ∧ x.length ≤ 8 ∧ ∀ c ∈ x.cps.toList, 97 ≤ c ∧ c ≤ 122
def addN (acc : List Str) (n : Str) : List Str := if n ∈ acc then acc else acc ++ [n]
def Fm.names : Fm → List Str
  | .is _ => [] | .get x => [x]
  | .sum f g => g.names.foldl addN (f.names.foldl addN [])
  | .same f g => g.names.foldl addN (f.names.foldl addN [])
  | .pick f g h => h.names.foldl addN (g.names.foldl addN (f.names.foldl addN []))
theorem addN_mem {acc : List Str} {n x : Str} (h : x ∈ addN acc n) : x ∈ acc ∨ x = n := by
  unfold addN at h
  split at h
  · exact .inl h
  · rcases List.mem_append.mp h with h | h
    · exact .inl h
    · exact .inr (List.mem_singleton.mp h)
theorem addsN_mem : ∀ (ns acc : List Str) (x : Str), x ∈ ns.foldl addN acc → x ∈ acc ∨ x ∈ ns
  | [], acc, x, h => .inl h
  | n :: r, acc, x, h => by
    rcases addsN_mem r (addN acc n) x h with h | h
    · rcases addN_mem h with h | h
      · exact .inl h
      · exact .inr (by rw [h]; exact List.mem_cons_self)
    · exact .inr (List.mem_cons_of_mem _ h)
theorem Fm.names_ok {nm : Str → Prop} : ∀ f : Fm, f.ok nm → ∀ x ∈ f.names, nm x
  | .is _, _, x, h => nomatch h
  | .get y, o, x, h => by rw [List.mem_singleton.mp h]; exact o
  | .sum f g, o, x, h => by
    rcases addsN_mem _ _ _ h with h | h
    · rcases addsN_mem _ _ _ h with h | h
      · exact nomatch h
      · exact f.names_ok o.1 x h
    · exact g.names_ok o.2 x h
  | .same f g, o, x, h => by
    rcases addsN_mem _ _ _ h with h | h
    · rcases addsN_mem _ _ _ h with h | h
      · exact nomatch h
      · exact f.names_ok o.1 x h
    · exact g.names_ok o.2 x h
  | .pick f g k, o, x, h => by
    rcases addsN_mem _ _ _ h with h | h
    · rcases addsN_mem _ _ _ h with h | h
      · rcases addsN_mem _ _ _ h with h | h
        · exact nomatch h
        · exact f.names_ok o.1 x h
      · exact g.names_ok o.2.1 x h
    · exact k.names_ok o.2.2 x h
theorem addN_len (acc : List Str) (n : Str) : (addN acc n).length ≤ acc.length + 1 := by
  unfold addN
  split
  · omega
  · rw [List.length_append]
    exact Nat.le_refl _
theorem addsN_len : ∀ (ns acc : List Str), (ns.foldl addN acc).length ≤ acc.length + ns.length
  | [], acc => Nat.le_refl _
  | n :: r, acc => by
    have h1 := addsN_len r (addN acc n)
    have h2 := addN_len acc n
    show (r.foldl addN (addN acc n)).length ≤ acc.length + (r.length + 1)
    omega
theorem Fm.names_len : ∀ f : Fm, f.names.length ≤ f.size
  | .is _ => Nat.zero_le _
  | .get _ => Nat.le_refl _
  | .sum f g => by
    have h1 := f.names_len; have h2 := g.names_len; have h3 := addsN_len f.names []; have h4 := addsN_len g.names (f.names.foldl addN [])
    show (g.names.foldl addN (f.names.foldl addN [])).length ≤ f.size + g.size + 1
    rw [List.length_nil] at h3
    omega
  | .same f g => by
    have h1 := f.names_len; have h2 := g.names_len; have h3 := addsN_len f.names []; have h4 := addsN_len g.names (f.names.foldl addN [])
    show (g.names.foldl addN (f.names.foldl addN [])).length ≤ f.size + g.size + 1
    rw [List.length_nil] at h3
    omega
  | .pick f g k => by
    have h1 := f.names_len; have h2 := g.names_len; have h3 := addsN_len f.names []; have h4 := addsN_len g.names (f.names.foldl addN [])
    have h5 := k.names_len; have h6 := addsN_len k.names (g.names.foldl addN (f.names.foldl addN []))
    show (k.names.foldl addN (g.names.foldl addN (f.names.foldl addN []))).length ≤ f.size + g.size + k.size + 1
    rw [List.length_nil] at h3
    omega
theorem Fm.size_le : ∀ (d : Nat) (f : Fm), f.dep ≤ d → f.size ≤ 4 ^ d
  | 0, f, h => absurd f.dep_pos (by omega)
  | d + 1, .is _, _ => Nat.pow_pos (by decide)
  | d + 1, .get _, _ => Nat.pow_pos (by decide)
  | d + 1, .sum f g, h => by
    have h0 : max f.dep g.dep + 1 ≤ d + 1 := h
    have h1 := Fm.size_le d f (by omega)
    have h2 := Fm.size_le d g (by omega)
    have h3 : 1 ≤ 4 ^ d := Nat.pow_pos (by decide)
    show f.size + g.size + 1 ≤ 4 ^ d * 4
    omega
  | d + 1, .same f g, h => by
    have h0 : max f.dep g.dep + 1 ≤ d + 1 := h
    have h1 := Fm.size_le d f (by omega)
    have h2 := Fm.size_le d g (by omega)
    have h3 : 1 ≤ 4 ^ d := Nat.pow_pos (by decide)
    show f.size + g.size + 1 ≤ 4 ^ d * 4
    omega
  | d + 1, .pick f g k, h => by
    have h0 : max f.dep (max g.dep k.dep) + 1 ≤ d + 1 := h
    have h1 := Fm.size_le d f (by omega)
    have h2 := Fm.size_le d g (by omega)
    have h4 := Fm.size_le d k (by omega)
    have h3 : 1 ≤ 4 ^ d := Nat.pow_pos (by decide)
    show f.size + g.size + k.size + 1 ≤ 4 ^ d * 4
    omega
theorem in_strs (n : Str) (acc : List Str) : inV (.str n) (acc.map V.str) = decide (n ∈ acc) := by
  unfold inV
  rw [List.any_map, Bool.eq_iff_iff, List.any_eq_true, decide_eq_true_iff]
  constructor
  · rintro ⟨x, hx, e⟩
    have e' : (x == n) = true := e
    rw [beq_iff_eq] at e'
    rw [← e']
    exact hx
  · intro h
    exact ⟨n, h, by show (n == n) = true; exact beq_self_eq_true n⟩
theorem flat_strs (acc : List Str) : (acc.map V.str).all flatV = true := by
  rw [List.all_map, List.all_eq_true]
  intro x _
  rfl
theorem RpAll.strs {M : Ms} {H : Hp} : ∀ (ns : List Str), RpAll M H (ns.map V.str) (ns.map PyData.str)
  | [] => .nil
  | n :: r => .cons (.str n) (RpAll.strs r)
theorem RpAll.ofStrs {M : Ms} {H : Hp} : ∀ {ns : List Str} {vs : List V}, RpAll M H vs (ns.map PyData.str) → vs = ns.map V.str
  | [], _, h => by cases h; rfl
  | n :: r, _, h => by
    cases h with
    | cons h1 h2 =>
      cases h1
      rw [RpAll.ofStrs h2]
      rfl

theorem sign_lo {c : Nat} (h : 97 ≤ c) : decide (({ cps := #[c] } : Str).cps.toList < (Str.ofString "a").cps.toList) = false := by
  rw [show (Str.ofString "a").cps.toList = [97] by decide +kernel, decide_eq_false_iff_not]
  show ¬ [c] < [97]
  rw [List.cons_lt_cons_iff]
  rintro (h1 | ⟨_, h1⟩)
  · omega
  · exact absurd h1 (by decide)
theorem sign_hi {c : Nat} (h : c ≤ 122) : decide ((Str.ofString "z").cps.toList < ({ cps := #[c] } : Str).cps.toList) = false := by
  rw [show (Str.ofString "z").cps.toList = [122] by decide +kernel, decide_eq_false_iff_not]
  show ¬ [122] < [c]
  rw [List.cons_lt_cons_iff]
  rintro (h1 | ⟨_, h1⟩)
  · omega
  · exact absurd h1 (by decide)

/-- a form with its level -/
def lvD (p : Fm × Nat) : PyData := .tuple [p.1.enc, .int (p.2 : Int)]
def szs (ps : List (Fm × Nat)) : Nat := (ps.map fun p => p.1.size).sum
theorem szs_app (ps qs : List (Fm × Nat)) : szs (ps ++ qs) = szs ps + szs qs := by
  unfold szs
  rw [List.map_append, List.sum_append_nat]
theorem szs_rev (ps : List (Fm × Nat)) : szs ps.reverse = szs ps := by
  unfold szs
  rw [List.map_reverse, List.sum_reverse]
theorem subs_size (f : Fm) (n : Nat) : szs (f.subs.map fun g => (g, n)) + 1 = f.size := by
  cases f <;> simp [szs, Fm.subs, Fm.size] <;> omega
theorem subs_ok {nm : Str → Prop} {f g : Fm} (h : f.ok nm) (hg : g ∈ f.subs) : g.ok nm := by
  cases f <;> simp [Fm.subs] at hg <;> simp [Fm.ok] at h
  all_goals (first | (rcases hg with rfl | rfl | rfl <;> simp_all) | (rcases hg with rfl | rfl <;> simp_all))
theorem subs_dep {f g : Fm} (hg : g ∈ f.subs) : g.dep + 1 ≤ f.dep := by
  cases f <;> simp [Fm.subs] at hg <;> simp [Fm.dep]
  all_goals (first | (rcases hg with rfl | rfl | rfl <;> omega) | (rcases hg with rfl | rfl <;> omega))
theorem subs_len (f : Fm) : f.subs.length ≤ 3 := by cases f <;> simp [Fm.subs]
theorem RpAll.reverse {M : Ms} {H : Hp} : ∀ {vs : List V} {ds : List PyData}, RpAll M H vs ds → RpAll M H vs.reverse ds.reverse
  | _, [], h => by cases h; exact .nil
  | _, d :: ds, h => by
    cases h with
    | cons h1 h2 =>
      rw [List.reverse_cons, List.reverse_cons]
      exact (RpAll.reverse h2).append (.one h1)
theorem RpAll.last {M : Ms} {H : Hp} {vs : List V} {ds : List PyData} {d : PyData} (h : RpAll M H vs (ds ++ [d])) : ∃ us v, vs = us ++ [v] ∧ RpAll M H us ds ∧ Rp M H v d := by
  have h1 := h.reverse
  rw [List.reverse_append] at h1
  generalize hv : vs.reverse = ws at h1
  cases h1 with
  | @cons v us _ _ a b =>
    have e : vs = us.reverse ++ [v] := by
      rw [← List.reverse_reverse vs, hv, List.reverse_cons]
    refine ⟨us.reverse, v, e, ?_, a⟩
    have b' : RpAll M H us ds.reverse := b
    have := b'.reverse
    rw [List.reverse_reverse] at this
    exact this

theorem Fm.size_pos : ∀ f : Fm, 1 ≤ f.size
  | .is _ => Nat.le_refl _ | .get _ => Nat.le_refl _
  | .sum f g => by show 1 ≤ f.size + g.size + 1; omega
  | .same f g => by show 1 ≤ f.size + g.size + 1; omega
  | .pick f g h => by show 1 ≤ f.size + g.size + h.size + 1; omega
theorem szs_len : ∀ ps : List (Fm × Nat), ps.length ≤ szs ps
  | [] => Nat.le_refl _
  | p :: r => by
    have h1 := szs_len r
    have h2 := p.1.size_pos
    show r.length + 1 ≤ ((p :: r).map fun p => p.1.size).sum
    rw [List.map_cons, List.sum_cons]
    unfold szs at h1
    omega

def stepN (acc : List Str) (s : Fm) : List Str := s.names.foldl addN acc
theorem names_fold (f : Fm) (h : ∀ x, f ≠ .get x) : f.names = f.subs.foldl stepN [] := by
  cases f with
  | get x => exact absurd rfl (h x)
  | _ => rfl
theorem fold_take {α β : Type} (g : β → α → β) (b : β) (l : List α) (i : Nat) (x : α) (h : l[i]? = some x) : (l.take (i + 1)).foldl g b = g ((l.take i).foldl g b) x := by
  rw [List.take_add_one, h, List.foldl_append]
  rfl
end D

namespace D
open PySem PySem.Spec PyProof.Rows L2
theorem sub_len {α : Type} [DecidableEq α] : ∀ (l2 l1 : List α), l1.Nodup → (∀ x ∈ l1, x ∈ l2) → l1.length ≤ l2.length ∧ (l1.length = l2.length → l2.Nodup)
  | [], l1, _, h => by
    cases l1 with
    | nil => exact ⟨Nat.le_refl _, fun _ => .nil⟩
    | cons x r => exact nomatch h x List.mem_cons_self
  | y :: r, l1, nd, h => by
    by_cases hy : y ∈ l1
    · have nd1 : (l1.erase y).Nodup := nd.erase y
      have h1 : ∀ x ∈ l1.erase y, x ∈ r := fun x hx => by
        have hx' := (nd.mem_erase_iff).mp hx
        rcases List.mem_cons.mp (h x hx'.2) with e | e
        · exact absurd e hx'.1
        · exact e
      obtain ⟨a, b⟩ := sub_len r (l1.erase y) nd1 h1
      have le := List.length_erase_of_mem hy
      have pos : 0 < l1.length := List.length_pos_of_mem hy
      refine ⟨by rw [List.length_cons]; omega, fun e => ?_⟩
      rw [List.length_cons] at e
      refine List.nodup_cons.mpr ⟨fun hr => ?_, b (by omega)⟩
      have h2 : ∀ x ∈ l1, x ∈ r := fun x hx => by
        rcases List.mem_cons.mp (h x hx) with e | e
        · rw [e]; exact hr
        · exact e
      have := (sub_len r l1 nd h2).1
      omega
    · have h2 : ∀ x ∈ l1, x ∈ r := fun x hx => by
        rcases List.mem_cons.mp (h x hx) with e | e
        · rw [e] at hx; exact absurd hx hy
        · exact e
      have := (sub_len r l1 nd h2).1
      refine ⟨by rw [List.length_cons]; omega, fun e => ?_⟩
      rw [List.length_cons] at e
      omega
section
variable {X : Cx}
def tLenSetT (K : PySem.W.Frag) (ta : TE) : TE := fun σ H Q => ta σ H fun x H1 => ∃ (l : Addr) (ns : List Int), x = V.ref l ∧ SqT K H1 l (ns.map V.int) ∧ ns.length ≤ 1000 ∧ ∀ c : Nat, (c = ns.length ↔ ns.Nodup) → Q (.int c) H1
theorem pe_lenSetT {K : PySem.W.Frag} {a : Expr} {ta : TE} {p p2 q pos : Pos} (hK : X.K = K) (hc : X.calm = true) (hg : Gl X "len") (hm : X.mg "len" = none) (hg2 : Gl X "set") (hm2 : X.mg "set" = none) (ha : PE X a ta)
    (na : starEach [a] X.env = (false, eval a X.env) :: starEach [] X.env := by rfl) : PE X (.Call (.Name "len" p) [.Call (.Name "set" p2) [a] [] q] [] pos) (tLenSetT K ta) := by
  subst hK
  refine ⟨fun pins s σ H Q I h => ?_⟩
  refine Call_ (ld_blt I hg hm PySem.boot_len ?_)
  refine PyProof.Rows.callWith_builtin1 (PyProof.Rows.args_cons ?_ rfl) rfl rfl
  refine Call_ (ld_blt I hg2 hm2 PyProof.Rows.boot_set ?_)
  refine PyProof.Rows.callWith_type1 (PyProof.Rows.args_cons (thn (ha.run pins s σ H _ I h) fun v s1 ⟨x, H1, I1, r1, q1⟩ => PyProof.Rows.args_nil ?_) na) na rfl
  obtain ⟨l, ns, rfl, hq, h1, q1⟩ := q1
  cases r1
  obtain ⟨its, rv, pt, hz⟩ := I1.tuple hq
  have hi : IntsAre its.toArray.toList ns := ints_of_vals rv
  refine call_set_tupI ns (I1.ok.hd hc) (show s1.heap.IsTuple l its.toArray from pt) hi (by unfold scanBound; omega) fun h' tk c R1 hcn k => ?_
  obtain ⟨o, es, ep, t, ho, hex, hdt, g, nd, hm2, hb, hf, hn, hr, hl2⟩ := R1
  refine PyProof.Rows.args_nil ?_
  have I2 : Inv X pins σ H1 { s1 with heap := h', toks := tk } := I1.kept k
  have hsub : ∀ x ∈ es.toList.map keyOf, x ∈ ns := fun x hx => of_decide_eq_true ((hm2 x).mpr hx)
  have hsup : ∀ x ∈ ns, x ∈ es.toList.map keyOf := fun x hx => (hm2 x).mp (decide_eq_true hx)
  have hlen : (es.toList.map keyOf).length = es.size := by rw [List.length_map, Array.length_toList]
  have hc2 : es.size = ns.length ↔ ns.Nodup := by
    obtain ⟨a1, a2⟩ := sub_len ns _ nd hsub
    refine ⟨fun e => a2 (by rw [hlen, e]), fun hnd => ?_⟩
    have b1 := (sub_len (es.toList.map keyOf) ns hnd hsup).1
    omega
  exact call_len_set ho hex hdt hf (by unfold scanBound at hb; omega) ⟨.int es.size, H1, I2.tok _, ⟨_, rfl⟩, q1 es.size hc2⟩
end
end D

namespace D
open PySem PySem.Spec PyProof.Rows L2
section
variable {X : Cx} {C g : Addr} {n : Nat} {CX : CXT} {sp : Sp} {E : XK} {fd : FuncData} {ps : List Str}
/-- x op y, two instances of one class with its own def for op -/
def rOwnI (C : Addr) (sp : Sp) (E : XK) : R2 := fun x y H Q => ∃ a dx fs b dy gs, x = .ref a ∧ y = .ref b ∧ H a = some (.ins C dx fs) ∧ H b = some (.ins C dy gs) ∧ sp [x, y] H Q E
theorem op_ownI {op : CmpOp} (hop : ∀ a b, compareOp op a b = richCompare op a b) (hs : PySem.W.findIn X.K (.ref C) (cmpInfo op).2.1 = some (some (.ref g))) (hf : PySem.W.isFn X.K (.ref g) = true) (hn : PySem.W.notFirst X.K C (.ref C) = true)
    (F : FnOk X.prog X.w X.K X.mg X.base CX n g fd ps sp) (hb : Binds X.K fd ps []) (hr : Room n X.A) (hx : Passes CX X E) : OpR X (compareOp op) (rOwnI C sp E) := by
  intro pins s σ H x y v u Q I rx ry h
  obtain ⟨a, dx, fs, b, dy, gs, rfl, rfl, ha, hb2, q⟩ := h
  cases (show v = Value.ref a from rx)
  cases (show u = Value.ref b from ry)
  obtain ⟨mA, O, _⟩ := ins_get I.hok ha
  obtain ⟨od, J, _⟩ := O.look
  obtain ⟨mA', O', _⟩ := ins_get I.hok hb2
  obtain ⟨od', J', _⟩ := O'.look
  obtain ⟨m, hF⟩ := I.fr
  rw [hop]
  refine PySem.W.cmp_K (op := op) (tb := .ref C) hr.units0 hF I.ok.mod.kin J J'.type hn hs hf ?_
  refine wpAny_mono (run_fn (us := [.ref a, .ref b]) (vs := [.ref a, .ref b]) F hr hb .nil hx I (.cons rfl (.cons rfl .nil)) q) (fun w s' z => ?_) fun _ _ x => x
  obtain ⟨z', H', I', rz, qz⟩ := z
  exact SlX.cmpback rz ⟨z', H', I', rz, qz⟩
/-- an instance is called -/
def tCallOI (C : Addr) (sp : Sp) (E : XK) (tf : TE) (t : TA) : TE := fun σ H Q => tf σ H fun y H1 => ∃ a dx fs, y = V.ref a ∧ t σ H1 fun vs H2 => H2 a = some (.ins C dx fs) ∧ sp (V.ref a :: vs) H2 Q E
theorem pe_callOI {fe e : Expr} {es : List Expr} {pos : Pos} {tf : TE} {t : TA} (c : StX.CallO X.K C g) (F : FnOk X.prog X.w X.K X.mg X.base CX n g fd ps sp) (hb : Binds X.K fd ps []) (hr : Room n X.A) (hx : Passes CX X E) (hf : PE X fe tf) (ha : PA X (e :: es) t)
    (ht : eval (.Call fe (e :: es) [] pos) X.env = (do callWith pos (← eval fe X.env) [] (backTo pos (starEach (e :: es) X.env)) (backToKw pos (keywordEach [] X.env))) := by rfl)
    (he : starEach (e :: es) X.env = (false, eval e X.env) :: starEach es X.env := by rfl) (hpl : (backTo pos (starEach es X.env)).any (·.1) = false := by rfl) : PE X (.Call fe (e :: es) [] pos) (tCallOI C sp E tf t) := by
  refine ⟨fun pins s σ H Q I h => ?_⟩
  refine Call_ (thn (hf.run pins s σ H _ I h) fun u s1 ⟨y, H1, I1, ry, a, dx, fs, ey, q⟩ => ?_) ht
  subst ey
  cases (show u = Value.ref a from ry)
  refine StX.callO_with (thn (ha.run pos pins s1 σ H1 _ I1 q) fun us s2 ⟨vs, H2, I2, r, hi, q2⟩ => ?_) he hpl
  obtain ⟨ox, od, J, hd⟩ := StX.insC_at I2 (.inr ⟨dx, fs, hi⟩)
  exact ⟨⟨C, ox, od, J, hd⟩, StX.run_callO c (F.raw hb .nil) hr hx I2 (.inr ⟨dx, fs, hi⟩) r (by rw [List.append_nil]; exact q2)⟩
/-- isinstance of an own class -/
def rIsC (C : Addr) : List V → Hp → VK → Prop := fun xs H Q => ∃ a dx fs, xs = [.ref a, .ref C] ∧ H a = some (.ins C dx fs) ∧ Q (.bl true) H
theorem call_isCK (c : C8.InsC X.K C) : CallR X (.builtin "isinstance") (rIsC C) := C8.call_isC c
end
end D

namespace PySem
theorem meets_enumerate_newT (l : Addr) (items : Array Value) :
    Meets (Builtin.«enumerate.__new__» ⟨[.type "enumerate", .ref l], []⟩) (fun _ R s => s.heap.IsTuple l items ∧
      R (.ok (.ret (.ref (s.heap.push { cls := .type "tuple_iterator", data := .fields #[.ref l, .int 0 0] }).objs.size)))
        { s with heap := (s.heap.push { cls := .type "tuple_iterator", data := .fields #[.ref l, .int 0 0] }).push { cls := .type "enumerate", data := .fields #[.none, .bool false, .ref s.heap.objs.size, rawInt 0, .none, .none] } }) :=
  .of_wp fun prog w A R s h => by
    obtain ⟨hp, g, d, tk, os⟩ := s; obtain ⟨hL, h⟩ := h
    have hsub := sub_enumerate
    wp_walk
    refine wpAny_stack_any fun st => wpAny_pure ?_
    split
    · rename_i c _ _ _ _ _
      cases (c == Value.type "enumerate")
      · wp_walk using wpAny_pyIter_tuple hL
        exact ⟨_, rfl, h⟩
      · wp_walk using wpAny_pyIter_tuple hL
        exact ⟨_, rfl, h⟩
    · wp_walk using wpAny_pyIter_tuple hL
      exact ⟨_, rfl, h⟩
section
variable {prog : Program} {w : World} {A : Around} {E : Value → Shared → Prop} {s : Shared}
theorem call_enumerate_tuple {l : Addr} {items : Array Value} {Q : Value → Shared → Prop} (hL : s.heap.IsTuple l items)
    (h : ∀ h', IsEnum h' (s.heap.objs.size + 1) s.heap.objs.size 0 .none → h'.IsTupleIter s.heap.objs.size l 0 → h'.objs.size = s.heap.objs.size + 2 →
      (∀ b o, s.heap.get? b = some o → h'.get? b = some o) → Q (.ref (s.heap.objs.size + 1)) { s with heap := h' }) :
    wpAny (model prog w) A (call (.type "enumerate") [.ref l]) Q E s := by
  refine callType_new F.called_enumerate (by decide) (F.typeCall_enumerate_1 _) (F.newCall_enumerate_1 _) (fun obj => F.args_object_init_2 obj _) F.entry_enumerate_new
    (meets_enumerate_newT l items) ⟨hL, ?_⟩
  have hz : (s.heap.push { cls := .type "tuple_iterator", data := .fields #[.ref l, .int 0 0] }).objs.size = s.heap.objs.size + 1 := Heap.size_push ..
  show _ ∧ _
  rw [hz]
  have he : IsEnum ((s.heap.push { cls := .type "tuple_iterator", data := .fields #[.ref l, .int 0 0] }).push
      { cls := .type "enumerate", data := .fields #[.none, .bool false, .ref s.heap.objs.size, rawInt 0, .none, .none] }) (s.heap.objs.size + 1) s.heap.objs.size 0 .none := by
    have := Heap.get?_push_size (s.heap.push { cls := .type "tuple_iterator", data := .fields #[.ref l, .int 0 0] })
      (o := { cls := .type "enumerate", data := .fields #[.none, .bool false, .ref s.heap.objs.size, rawInt 0, .none, .none] }) rfl
    rw [hz] at this; exact this
  refine ⟨⟨_, he, rfl⟩, h _ he ⟨_, Heap.get?_push_of_some _ (Heap.get?_push_size _ rfl), rfl, rfl⟩ (by rw [Heap.size_push, hz]) fun b o x => Heap.get?_push_of_some _ (Heap.get?_push_of_some _ x)⟩
end
end PySem
namespace D
open PySem PySem.Spec PyProof.Rows L2
/-- the tuple at a, each item in a new pair with its place -/
def Itet (K : PySem.W.Frag) (a : Addr) : It :=
  ⟨fun i H => ∃ (xs : List V) (x : V), SqT K H a xs ∧ xs[i]? = some x, fun i H v H' => ∃ T x, v = .ref T ∧ H T = none ∧ H' = upd H T (.tup [.int (i : Nat), x]) ∧ ∀ xs, SqT K H a xs → xs[i]? = some x, fun i H => ∃ xs : List V, SqT K H a xs ∧ xs.length = i⟩
theorem turn_enumT {P : Program} {w : World} {K : PySem.W.Frag} {elts : List Expr} {kk : Nat} {tpos : Pos} (a e it : Addr) :
    Turn P w K (.Tuple elts kk tpos) (Itet K a) [e, it] e (fun i h => (∃ old, IsEnum h e it ((i : Nat) : Int) old) ∧ h.IsTupleIter it a i ∧ e ≠ it) where
  mem := by simp
  obj := fun i h st b hb => by
    obtain ⟨⟨old, he⟩, ⟨o, ho, hc, hd⟩, _⟩ := st
    have e' : b = e ∨ b = it := by simpa using hb
    rcases e' with z | z
    · rw [z]; exact ⟨_, he, fun v q => nomatch q⟩
    · rw [z]; exact ⟨o, ho, fun v q => by rw [hd] at q; cases q⟩
  keep := fun i h h' st k => let ⟨⟨old, he⟩, hi, hne⟩ := st; ⟨⟨old, k e (by simp) _ he⟩, hi.at fun o q => k it (by simp) o q, hne⟩
  item := by
    intro X hP hw hK hc i pins s σ H E I hf st hg
    subst hP hw hK
    obtain ⟨⟨old, he⟩, hit, hne⟩ := st
    obtain ⟨xs, x, hq, hx⟩ := hg
    obtain ⟨its, rv, p, hz⟩ := I.tuple hq
    have p2 : s.heap.IsTuple a its.toArray := p
    obtain ⟨u, hu, ru⟩ := rv.get hx
    have hel : e < s.heap.objs.size := Heap.lt_size he
    have hil : it < s.heap.objs.size := by obtain ⟨_, q, _⟩ := hit; exact Heap.lt_size q
    have hai : a ≠ it := fun z => by
      obtain ⟨o1, q1, c1, _⟩ := hit
      obtain ⟨o2, q2, c2, _⟩ := p2
      rw [z, q1] at q2
      cases q2
      rw [c1] at c2
      exact absurd c2 (by decide)
    have hea : e ≠ a := fun z => by
      obtain ⟨o2, q2, c2, _⟩ := p2
      rw [← z, he] at q2
      cases q2
      exact absurd (show Value.type "enumerate" = Value.type "tuple" from c2) (by decide)
    have hlt : i < its.toArray.size := by
      have := (List.getElem?_eq_some_iff.mp hu).1
      simpa using this
    refine wpAny_pyNext_enum_itemD (Draws.tuple (A := X.A.in1) (I.ok.hd hc) it a hai its.toArray) he ⟨hit, p2⟩ hlt hne (fun z => by
      rcases List.mem_cons.mp z with z | z
      · exact hne z
      · exact hea (List.mem_singleton.mp z)) fun x' h' tk hP ho hst' hT hsz hk => ?_
    obtain rfl : x' = u := by
      have h1 : its.toArray[i]? = some x' := hP
      rw [List.getElem?_toArray, hu] at h1
      exact (Option.some.inj h1).symm
    refine ⟨_, rfl, wpAny_letOwnedTupleGo_enum (s := { s with heap := h', toks := tk + 1 }) ho fun h'' he' sb => ?_⟩
    have hT2 : h''.get? s.heap.objs.size = some { cls := .type "tuple", data := .seq #[.int i tk, x'] } := (sb.2 _ (Nat.ne_of_gt hel)).trans hT
    have new : ObjOk X.prog X.w (upd H s.heap.objs.size (.tup [.int (i : Nat), x])) h'' s.heap.objs.size (.tup [.int (i : Nat), x]) :=
      ⟨by show 2 ≤ sizeLine; decide, [.int i tk, x'], .cons ⟨_, rfl⟩ (.cons ru .nil), ⟨_, hT2, rfl, _, rfl⟩⟩
    have I1 : Inv X pins σ (upd H s.heap.objs.size (.tup [.int (i : Nat), x])) { s with heap := h'', toks := tk + 1 } :=
      I.turnedNew (ch := [e, it]) (fun b ob hb q => (sb.2 b (fun z => hb (by simp [z]))).trans (hk b ob (fun z => hb (by simp [z])) (fun z => hb (by simp [z])) q)) hf (Nat.le_refl _) new
    refine ⟨.ref s.heap.objs.size, _, I1, rfl, ⟨_, x, rfl, I.hok.fresh (Nat.le_refl _), rfl, fun ys hy => by rw [I.tuple_inj hy hq]; exact hx⟩, ⟨⟨x', ?_⟩, hst'.1.at fun o q => (sb.2 it (Ne.symm hne)).trans q, hne⟩, fun b hb => ?_⟩
    · have e1 : ((i + 1 : Nat) : Int) = (i : Int) + 1 := by omega
      rw [e1]; exact he'
    · have hb' : b < s.heap.objs.size := by
        have e' : b = e ∨ b = it := by simpa using hb
        rcases e' with z | z
        · rw [z]; exact hel
        · rw [z]; exact hil
      rw [upd_ne (Nat.ne_of_lt hb')]
      exact (hf b hb).1
  done := by
    intro X hP hw hK hc i pins s σ H E I hf st hg
    subst hP hw hK
    obtain ⟨⟨old, he⟩, hit, hne⟩ := st
    obtain ⟨xs, hq, hx⟩ := hg
    obtain ⟨its, rv, p, hz⟩ := I.tuple hq
    have p2 : s.heap.IsTuple a its.toArray := p
    obtain ⟨f0, f1, f2, f3, f4, f5⟩ := hf it (by simp)
    have hl := rv.length
    have hai : a ≠ it := fun z => by
      obtain ⟨o1, q1, c1, _⟩ := hit
      obtain ⟨o2, q2, c2, _⟩ := p2
      rw [z, q1] at q2
      cases q2
      rw [c1] at c2
      exact absurd c2 (by decide)
    have en : i = its.toArray.size := by
      rw [List.size_toArray]
      omega
    exact wpAny_pyNext_enum_endD (Draws.tuple (A := X.A.in1) (I.ok.hd hc) it a hai its.toArray) he (show _ ∧ _ from ⟨by rw [← en]; exact hit, p2⟩) fun h' eb => ⟨rfl, I.turned (t' := s.toks) (fun b o hb q => eb b o hb q) f0 f1 f3 f4 f5⟩
  self := fun A i s Q E st h => let ⟨⟨_, he⟩, _⟩ := st; wpAny_pyIter_enum he h
def iEnumT (K : PySem.W.Frag) (ta : TA) : TI := fun σ H R => ta σ H fun vs H1 => ∃ a xs, vs = [.ref a] ∧ SqT K H1 a xs ∧ R (Itet K a) H1
theorem pi_enumTK {K : PySem.W.Frag} {X : Cx} {e : Expr} {ta : TA} {p pos tpos : Pos} {elts : List Expr} {kk : Nat} (hK : X.K = K) (hg : Gl X "enumerate") (hm : X.mg "enumerate" = none) (ha : PA X [e] ta) (hs : starEach [e] X.env = [(false, eval e X.env)] := by rfl) :
    PI X (.Tuple elts kk tpos) (.Call (.Name "enumerate" p) [e] [] pos) (iEnumT K ta) := by
  subst hK
  refine ⟨fun pins s σ H R I h => ?_⟩
  refine Call_ (ld_blt I hg hm boot_enumerate (PyProof.Rows.callWith_type1 (thn (ha.run pos pins s σ H _ I h) fun us s1 ⟨vs, H1, I1, r1, q1⟩ => ?_) hs rfl))
  obtain ⟨a, xs, ex, hq, q⟩ := q1
  subst ex
  cases r1 with
  | cons r rr =>
    cases rr
    cases r
    obtain ⟨its, rv, p', hz⟩ := I1.tuple hq
    refine call_enumerate_tuple (show s1.heap.IsTuple a its.toArray from p') fun h' he hit hsz hk => wpAny_pyIter_enum he ?_
    have I2 : Inv X pins σ H1 { s1 with heap := h' } := I1.kept (t' := s1.toks) hk
    refine ⟨s1.heap.objs.size + 1, [s1.heap.objs.size + 1, s1.heap.objs.size], _, _, H1, rfl, I2, turn_enumT a (s1.heap.objs.size + 1) s1.heap.objs.size, ⟨⟨.none, he⟩, hit, Nat.succ_ne_self _⟩, fun b hb => ?_, q⟩
    have e' : b = s1.heap.objs.size + 1 ∨ b = s1.heap.objs.size := by simpa using hb
    have hle : s1.heap.objs.size ≤ b := by
      rcases e' with z | z
      · rw [z]; exact Nat.le_add_right _ _
      · rw [z]; exact Nat.le_refl _
    exact I1.fpOk hle (I1.hok.fresh hle)
theorem for_enumT {K : PySem.W.Frag} {a : Addr} {xs : List V} {g : TG} {tb : TS} {D : Ends} {σ : L2.St} {H : Hp} (Pv : Nat → L2.St → Hp → Prop) (h0 : Pv 0 σ H) (hl : ∀ i σ H, i ≤ xs.length → Pv i σ H → SqT K H a xs)
    (hs : ∀ i x T σ H, xs[i]? = some x → H T = none → Pv i σ H → g (.ref T) σ (upd H T (.tup [.int (i : Nat), x])) fun σ2 H2 => tb { D with nx := Pv (i + 1), ct := Pv (i + 1), bk := D.nx } σ2 H2) (hd : ∀ σ H, Pv xs.length σ H → D.nx σ H) :
    ∃ W : Nat → Nat → L2.St → Hp → Prop, (∃ m, W 0 m σ H) ∧ ∀ i m σ H, W i m σ H →
      ((Itet K a).stop i H ∧ D.nx σ H) ∨ ((Itet K a).go i H ∧ ∃ N : L2.St → Hp → Prop, (∀ σ' H', N σ' H' → ∃ m', m' < m ∧ W (i + 1) m' σ' H') ∧ ∀ x H', (Itet K a).yld i H x H' → g x σ H' fun σ2 H2 => tb { D with nx := N, ct := N, bk := D.nx } σ2 H2) := by
  refine ⟨fun i m σ H => m = xs.length - i ∧ i ≤ xs.length ∧ Pv i σ H, ⟨xs.length, by simp, Nat.zero_le _, h0⟩, ?_⟩
  rintro i m σ H ⟨rfl, hi, p⟩
  have q := hl i σ H hi p
  by_cases hlt : i < xs.length
  · refine .inr ⟨⟨xs, xs[i], q, by simp [hlt]⟩, Pv (i + 1), fun σ' H' p' => ⟨xs.length - (i + 1), by omega, rfl, hlt, p'⟩, fun x H' y => ?_⟩
    obtain ⟨T, z, rfl, hT, rfl, hz⟩ := y
    exact hs i z T σ _ (hz xs q) hT p
  · have e : i = xs.length := by omega
    subst e
    exact .inl ⟨⟨xs, q, rfl⟩, hd σ H p⟩
/-- comprehensions over enumerate -/
theorem lc_enum {K : PySem.W.Frag} {a : Addr} {xs : List V} {g : TG} {tt : TT} {te : TE} {vs : List Nat} {σ : L2.St} {H1 : Hp} {D : Addr} {Qd : Hp → Prop} (Pv : Nat → Hp → Prop) (h0 : Pv 0 (upd H1 D (.lst []))) (hl : ∀ i H, i ≤ xs.length → Pv i H → SqL K H a xs)
    (hs : ∀ i x T H, xs[i]? = some x → H T = none → Pv i H → g (.ref T) (wipe σ vs) (upd H T (.tup [.int (i : Nat), x])) fun σ2 H2 => wipe σ2 vs = wipe σ vs ∧ tt σ2 H2 fun b H3 =>
      if b = true then te σ2 H3 fun y H4 => ∃ acc, H4 D = some (.lst acc) ∧ acc.length < sizeLine ∧ Pv (i + 1) (upd H4 D (.lst (acc ++ [y]))) else Pv (i + 1) H3) (hd : ∀ H, Pv xs.length H → Qd H) :
    ∃ W : Nat → Nat → Hp → Prop, (∃ m, W 0 m (upd H1 D (.lst []))) ∧ ∀ i m H, W i m H →
      ((Ite K a).stop i H ∧ Qd H) ∨ ((Ite K a).go i H ∧ ∃ Nx : Hp → Prop, (∀ H', Nx H' → ∃ m', m' < m ∧ W (i + 1) m' H') ∧ ∀ x H', (Ite K a).yld i H x H' → g x (wipe σ vs) H' fun σ2 H2 => wipe σ2 vs = wipe σ vs ∧ tt σ2 H2 fun b H3 =>
        if b = true then te σ2 H3 fun y H4 => ∃ acc, H4 D = some (.lst acc) ∧ acc.length < sizeLine ∧ Nx (upd H4 D (.lst (acc ++ [y]))) else Nx H3) := by
  refine ⟨fun i m H => m = xs.length - i ∧ i ≤ xs.length ∧ Pv i H, ⟨xs.length, by simp, Nat.zero_le _, h0⟩, ?_⟩
  rintro i m H ⟨rfl, hi, p⟩
  have q := hl i H hi p
  by_cases hlt : i < xs.length
  · refine .inr ⟨⟨xs, xs[i], q, by simp [hlt]⟩, Pv (i + 1), fun H' p' => ⟨xs.length - (i + 1), by omega, rfl, hlt, p'⟩, fun x H' y => ?_⟩
    obtain ⟨T, z, rfl, hT, rfl, hz⟩ := y
    exact hs i z T _ (hz xs q) hT p
  · have e : i = xs.length := by omega
    subst e
    exact .inl ⟨⟨xs, q, Nat.le_refl _⟩, hd H p⟩
theorem lc_enumT {K : PySem.W.Frag} {a : Addr} {xs : List V} {g : TG} {tt : TT} {te : TE} {vs : List Nat} {σ : L2.St} {H1 : Hp} {D : Addr} {Qd : Hp → Prop} (Pv : Nat → Hp → Prop) (h0 : Pv 0 (upd H1 D (.lst []))) (hl : ∀ i H, i ≤ xs.length → Pv i H → SqT K H a xs)
    (hs : ∀ i x T H, xs[i]? = some x → H T = none → Pv i H → g (.ref T) (wipe σ vs) (upd H T (.tup [.int (i : Nat), x])) fun σ2 H2 => wipe σ2 vs = wipe σ vs ∧ tt σ2 H2 fun b H3 =>
      if b = true then te σ2 H3 fun y H4 => ∃ acc, H4 D = some (.lst acc) ∧ acc.length < sizeLine ∧ Pv (i + 1) (upd H4 D (.lst (acc ++ [y]))) else Pv (i + 1) H3) (hd : ∀ H, Pv xs.length H → Qd H) :
    ∃ W : Nat → Nat → Hp → Prop, (∃ m, W 0 m (upd H1 D (.lst []))) ∧ ∀ i m H, W i m H →
      ((Itet K a).stop i H ∧ Qd H) ∨ ((Itet K a).go i H ∧ ∃ Nx : Hp → Prop, (∀ H', Nx H' → ∃ m', m' < m ∧ W (i + 1) m' H') ∧ ∀ x H', (Itet K a).yld i H x H' → g x (wipe σ vs) H' fun σ2 H2 => wipe σ2 vs = wipe σ vs ∧ tt σ2 H2 fun b H3 =>
        if b = true then te σ2 H3 fun y H4 => ∃ acc, H4 D = some (.lst acc) ∧ acc.length < sizeLine ∧ Nx (upd H4 D (.lst (acc ++ [y]))) else Nx H3) := by
  refine ⟨fun i m H => m = xs.length - i ∧ i ≤ xs.length ∧ Pv i H, ⟨xs.length, by simp, Nat.zero_le _, h0⟩, ?_⟩
  rintro i m H ⟨rfl, hi, p⟩
  have q := hl i H hi p
  by_cases hlt : i < xs.length
  · refine .inr ⟨⟨xs, xs[i], q, by simp [hlt]⟩, Pv (i + 1), fun H' p' => ⟨xs.length - (i + 1), by omega, rfl, hlt, p'⟩, fun x H' y => ?_⟩
    obtain ⟨T, z, rfl, hT, rfl, hz⟩ := y
    exact hs i z T _ (hz xs q) hT p
  · have e : i = xs.length := by omega
    subst e
    exact .inl ⟨⟨xs, q, rfl⟩, hd H p⟩
/-- the same where each element is a value that is known: new things may be made on the way -/
theorem lc_enumV {K : PySem.W.Frag} {a : Addr} {xs ys : List V} {g : TG} {tt : TT} {te : TE} {vs : List Nat} {σ : L2.St} {H : Hp} {D : Addr} {Qd : Hp → Prop} (hD : H D = none) (hS : SqL K H a xs) (hn : ys.length = xs.length) (hz : xs.length ≤ 1000000)
    (hs : ∀ (i : Nat) (x y : V) (T : Addr) (H' : Hp) (C : VK) (N : Hp → Prop), xs[i]? = some x → ys[i]? = some y → H' T = none → Same H H' → H' D ≠ none → (∀ H2, Same (upd H' T (.tup [.int (i : Nat), x])) H2 → C y H2) → g (.ref T) (wipe σ vs) (upd H' T (.tup [.int (i : Nat), x])) fun σ2 H2 => wipe σ2 vs = wipe σ vs ∧ tt σ2 H2 fun b H3 => if b = true then te σ2 H3 C else N H3)
    (hd : ∀ H', Same H H' → H' D = some (.lst ys) → Qd H') :
    ∃ W : Nat → Nat → Hp → Prop, (∃ m, W 0 m (upd H D (.lst []))) ∧ ∀ i m H, W i m H →
      ((Ite K a).stop i H ∧ Qd H) ∨ ((Ite K a).go i H ∧ ∃ Nx : Hp → Prop, (∀ H', Nx H' → ∃ m', m' < m ∧ W (i + 1) m' H') ∧ ∀ x H', (Ite K a).yld i H x H' → g x (wipe σ vs) H' fun σ2 H2 => wipe σ2 vs = wipe σ vs ∧ tt σ2 H2 fun b H3 =>
        if b = true then te σ2 H3 fun y H4 => ∃ acc, H4 D = some (.lst acc) ∧ acc.length < sizeLine ∧ Nx (upd H4 D (.lst (acc ++ [y]))) else Nx H3) := by
  refine lc_enum (K := K) (a := a) (xs := xs) (fun i H' => Same H H' ∧ H' D = some (.lst (ys.take i))) ⟨same_new hD, by rw [upd_same]; rfl⟩ (fun i H' _ p => p.1.seq hS) (fun i x T H' hx hT p => ?_) (fun H' p => ?_)
  · have hi : i < ys.length := by
      rw [hn]
      exact (List.getElem?_eq_some_iff.mp hx).1
    refine hs i x ys[i] T H' _ _ hx (List.getElem?_eq_getElem hi) hT p.1 (ne_none p.2) fun H2 s2 => ⟨_, s2 _ _ (same_new hT _ _ p.2), ?_, ?_, ?_⟩
    · rw [List.length_take]
      exact small1000000 (by omega)
    · exact same_put (p.1.trans ((same_new hT).trans s2)) hD
    · rw [upd_same, List.take_add_one, List.getElem?_eq_getElem hi]
      rfl
  · refine hd H' p.1 ?_
    have e := p.2
    rw [← hn, List.take_length] at e
    exact e
theorem lc_enumTV {K : PySem.W.Frag} {a : Addr} {xs ys : List V} {g : TG} {tt : TT} {te : TE} {vs : List Nat} {σ : L2.St} {H : Hp} {D : Addr} {Qd : Hp → Prop} (hD : H D = none) (hS : SqT K H a xs) (hn : ys.length = xs.length) (hz : xs.length ≤ 1000000)
    (hs : ∀ (i : Nat) (x y : V) (T : Addr) (H' : Hp) (C : VK) (N : Hp → Prop), xs[i]? = some x → ys[i]? = some y → H' T = none → Same H H' → H' D ≠ none → (∀ H2, Same (upd H' T (.tup [.int (i : Nat), x])) H2 → C y H2) → g (.ref T) (wipe σ vs) (upd H' T (.tup [.int (i : Nat), x])) fun σ2 H2 => wipe σ2 vs = wipe σ vs ∧ tt σ2 H2 fun b H3 => if b = true then te σ2 H3 C else N H3)
    (hd : ∀ H', Same H H' → H' D = some (.lst ys) → Qd H') :
    ∃ W : Nat → Nat → Hp → Prop, (∃ m, W 0 m (upd H D (.lst []))) ∧ ∀ i m H, W i m H →
      ((Itet K a).stop i H ∧ Qd H) ∨ ((Itet K a).go i H ∧ ∃ Nx : Hp → Prop, (∀ H', Nx H' → ∃ m', m' < m ∧ W (i + 1) m' H') ∧ ∀ x H', (Itet K a).yld i H x H' → g x (wipe σ vs) H' fun σ2 H2 => wipe σ2 vs = wipe σ vs ∧ tt σ2 H2 fun b H3 =>
        if b = true then te σ2 H3 fun y H4 => ∃ acc, H4 D = some (.lst acc) ∧ acc.length < sizeLine ∧ Nx (upd H4 D (.lst (acc ++ [y]))) else Nx H3) := by
  refine lc_enumT (K := K) (a := a) (xs := xs) (fun i H' => Same H H' ∧ H' D = some (.lst (ys.take i))) ⟨same_new hD, by rw [upd_same]; rfl⟩ (fun i H' _ p => same_sqt p.1 hS) (fun i x T H' hx hT p => ?_) (fun H' p => ?_)
  · have hi : i < ys.length := by
      rw [hn]
      exact (List.getElem?_eq_some_iff.mp hx).1
    refine hs i x ys[i] T H' _ _ hx (List.getElem?_eq_getElem hi) hT p.1 (ne_none p.2) fun H2 s2 => ⟨_, s2 _ _ (same_new hT _ _ p.2), ?_, ?_, ?_⟩
    · rw [List.length_take]
      exact small1000000 (by omega)
    · exact same_put (p.1.trans ((same_new hT).trans s2)) hD
    · rw [upd_same, List.take_add_one, List.getElem?_eq_getElem hi]
      rfl
  · refine hd H' p.1 ?_
    have e := p.2
    rw [← hn, List.take_length] at e
    exact e
/-- elements are data that are made on the way -/
theorem lc_enumD {K : PySem.W.Frag} {a : Addr} {xs : List V} {ys : List PyData} {g : TG} {tt : TT} {te : TE} {vs : List Nat} {σ : L2.St} {H : Hp} {D : Addr} {Qd : Hp → Prop} (M : Ms) (hM : Mk M H) (hD : H D = none) (hS : SqL K H a xs) (hn : ys.length = xs.length) (hz : xs.length ≤ 1000000)
    (hs : ∀ (i : Nat) (x : V) (y : PyData) (T : Addr) (H' : Hp) (C : VK) (N : Hp → Prop), xs[i]? = some x → ys[i]? = some y → H' T = none → Same H H' → Mk (also M D) (upd H' T (.tup [.int (i : Nat), x])) → (∀ v H2, Same (upd H' T (.tup [.int (i : Nat), x])) H2 → Rp (also M D) H2 v y → C v H2) → g (.ref T) (wipe σ vs) (upd H' T (.tup [.int (i : Nat), x])) fun σ2 H2 => wipe σ2 vs = wipe σ vs ∧ tt σ2 H2 fun b H3 => if b = true then te σ2 H3 C else N H3)
    (hd : ∀ H', Same H H' → Ld M H' D ys → Qd H') :
    ∃ W : Nat → Nat → Hp → Prop, (∃ m, W 0 m (upd H D (.lst []))) ∧ ∀ i m H, W i m H →
      ((Ite K a).stop i H ∧ Qd H) ∨ ((Ite K a).go i H ∧ ∃ Nx : Hp → Prop, (∀ H', Nx H' → ∃ m', m' < m ∧ W (i + 1) m' H') ∧ ∀ x H', (Ite K a).yld i H x H' → g x (wipe σ vs) H' fun σ2 H2 => wipe σ2 vs = wipe σ vs ∧ tt σ2 H2 fun b H3 =>
        if b = true then te σ2 H3 fun y H4 => ∃ acc, H4 D = some (.lst acc) ∧ acc.length < sizeLine ∧ Nx (upd H4 D (.lst (acc ++ [y]))) else Nx H3) := by
  refine lc_enum (K := K) (a := a) (xs := xs) (fun i H' => Same H H' ∧ ∃ acc, H' D = some (.lst acc) ∧ RpAll (also M D) H' acc (ys.take i)) ⟨same_new hD, [], upd_same, by rw [List.take_zero]; exact .nil⟩ (fun i H' _ p => p.1.seq hS) (fun i x T H' hx hT p => ?_) (fun H' p => ?_)
  · obtain ⟨s, acc, e, r⟩ := p
    have hi : i < ys.length := by
      rw [hn]
      exact (List.getElem?_eq_some_iff.mp hx).1
    have hl := r.length
    rw [List.length_take] at hl
    have s1 : Same H' (upd H' T (.tup [.int (i : Nat), x])) := same_new hT
    refine hs i x ys[i] T H' _ _ hx (List.getElem?_eq_getElem hi) hT s (((hM.gr (Gr.same s)).also (ne_none e)).gr (Gr.same s1)) fun v H2 s2 rv => ?_
    refine ⟨acc, s2 _ _ (s1 _ _ e), small1000000 (by omega), ?_, acc ++ [v], upd_same, ?_⟩
    · exact same_put (s.trans (s1.trans s2)) hD
    · rw [List.take_add_one, List.getElem?_eq_getElem hi]
      exact ((r.sx (Sx.same (s1.trans s2))).append (.one rv)).sx (Sx.put (.inr rfl))
  · obtain ⟨s, acc, e, r⟩ := p
    rw [← hn, List.take_length] at r
    exact hd H' s ⟨hM.out hD, acc, e, r.less also_le⟩
end D
namespace D
open PySem PySem.Spec PyProof.Rows L2
theorem mt_lcountK {K : PySem.W.Frag} {X : Cx} (hK : X.K = K) : MtR X "list.count" (rCntI K) := by subst hK; exact mt_lcount
end D
namespace D
open PySem PySem.Spec PyProof.Rows L2
section
variable {X : Cx} {K : PySem.W.Frag} {o e : Expr} {es : List Expr} {to : TE} {t : TA} {name : Str} {apos cpos : Pos} {T id : String} {r : V → List V → Hp → VK → Prop}
theorem pe_bm0K2 (hK : X.K = K) (pa : PlainAttrs T) (slot : Slot T name id) (hty : typeOf (.builtin id) = pure (.type "method_descriptor")) (hm : MtR X id r) (ho : PE X o to)
    (hbase : attributeBase o name X.env (eval o X.env) = eval o X.env := by rfl) (hline : (apos.endLine == cpos.line) = true := by rfl) : PE X (.Call (.Attribute o name apos) [] [] cpos) (tBM0 K T r to) := by
  subst hK
  exact pe_bm0 pa slot hty hm ho hbase hline
theorem pe_bmK2 (hK : X.K = K) (pa : PlainAttrs T) (slot : Slot T name id) (hty : typeOf (.builtin id) = pure (.type "method_descriptor")) (hm : MtR X id r) (ho : PE X o to) (ha : PA X (e :: es) t)
    (hbase : attributeBase o name X.env (eval o X.env) = eval o X.env := by rfl)
    (hfew : ((backTo cpos (starEach (e :: es) X.env)).all (fun x => !x.1) && (backToKw cpos (keywordEach [] X.env)).all (fun x => x.1.isSome)
      && decide ((e :: es).length + ([] : List Keyword).length + (if ([] : List Keyword).isEmpty then 0 else 1) < 30)) = true := by rfl)
    (hline : (apos.endLine == cpos.line) = true := by rfl) (hs : starEach (e :: es) X.env = (false, eval e X.env) :: starEach es X.env := by rfl) (hplain : (backTo cpos (starEach es X.env)).any (·.1) = false := by rfl) :
    PE X (.Call (.Attribute o name apos) (e :: es) [] cpos) (tBM K T r to t) := by
  subst hK
  exact pe_bm pa slot hty hm ho ha hbase hfew hline hs hplain
end
end D

namespace D
open PySem PySem.Spec PyProof.Rows L2
/-- comprehensions' loops, whatever their bodies -/
theorem rng_loop {n : Nat} {lo : Int} {Qd : Hp → Prop} {H0 : Hp} {B : V → Hp → (Hp → Prop) → Prop} (Pv : Nat → Hp → Prop) (h0 : Pv 0 H0) (hs : ∀ i H, i < n → Pv i H → B (.int (lo + (i : Nat))) H (Pv (i + 1))) (hd : ∀ H, Pv n H → Qd H) :
    ∃ W : Nat → Nat → Hp → Prop, (∃ m, W 0 m H0) ∧ ∀ i m H, W i m H → ((Itr lo n).stop i H ∧ Qd H) ∨ ((Itr lo n).go i H ∧ ∃ Nx : Hp → Prop, (∀ H', Nx H' → ∃ m', m' < m ∧ W (i + 1) m' H') ∧ ∀ x H', (Itr lo n).yld i H x H' → B x H' Nx) := by
  refine ⟨fun i m H => m = n - i ∧ i ≤ n ∧ Pv i H, ⟨_, rfl, Nat.zero_le _, h0⟩, ?_⟩
  rintro i m H ⟨rfl, hi, p⟩
  by_cases hlt : i < n
  · refine .inr ⟨hlt, Pv (i + 1), fun H' p' => ⟨n - (i + 1), by omega, rfl, hlt, p'⟩, fun x H' y => ?_⟩
    obtain ⟨rfl, rfl⟩ := y
    exact hs i _ hlt p
  · have e : i = n := by omega
    subst e
    exact .inl ⟨Nat.le_refl _, hd H p⟩
theorem list_loop {K : PySem.W.Frag} {a : Addr} {xs : List V} {Qd : Hp → Prop} {H0 : Hp} {B : V → Hp → (Hp → Prop) → Prop} (Pv : Nat → Hp → Prop) (h0 : Pv 0 H0) (hl : ∀ i H, i ≤ xs.length → Pv i H → SqL K H a xs) (hs : ∀ i x H, xs[i]? = some x → Pv i H → B x H (Pv (i + 1))) (hd : ∀ H, Pv xs.length H → Qd H) :
    ∃ W : Nat → Nat → Hp → Prop, (∃ m, W 0 m H0) ∧ ∀ i m H, W i m H → ((Itl K a).stop i H ∧ Qd H) ∨ ((Itl K a).go i H ∧ ∃ Nx : Hp → Prop, (∀ H', Nx H' → ∃ m', m' < m ∧ W (i + 1) m' H') ∧ ∀ x H', (Itl K a).yld i H x H' → B x H' Nx) := by
  refine ⟨fun i m H => m = xs.length - i ∧ i ≤ xs.length ∧ Pv i H, ⟨_, rfl, Nat.zero_le _, h0⟩, ?_⟩
  rintro i m H ⟨rfl, hi, p⟩
  have q := hl i H hi p
  by_cases hlt : i < xs.length
  · refine .inr ⟨⟨xs, xs[i], q, by simp [hlt]⟩, Pv (i + 1), fun H' p' => ⟨xs.length - (i + 1), by omega, rfl, hlt, p'⟩, fun x H' y => ?_⟩
    obtain ⟨e, y⟩ := y
    subst e
    exact hs i x _ (y xs q) p
  · have e : i = xs.length := by omega
    subst e
    exact .inl ⟨⟨xs, q, Nat.le_refl _⟩, hd H p⟩
theorem tup_loop {K : PySem.W.Frag} {a : Addr} {xs : List V} {Qd : Hp → Prop} {H0 : Hp} {B : V → Hp → (Hp → Prop) → Prop} (Pv : Nat → Hp → Prop) (h0 : Pv 0 H0) (hl : ∀ i H, i ≤ xs.length → Pv i H → SqT K H a xs) (hs : ∀ i x H, xs[i]? = some x → Pv i H → B x H (Pv (i + 1))) (hd : ∀ H, Pv xs.length H → Qd H) :
    ∃ W : Nat → Nat → Hp → Prop, (∃ m, W 0 m H0) ∧ ∀ i m H, W i m H → ((Itt K a).stop i H ∧ Qd H) ∨ ((Itt K a).go i H ∧ ∃ Nx : Hp → Prop, (∀ H', Nx H' → ∃ m', m' < m ∧ W (i + 1) m' H') ∧ ∀ x H', (Itt K a).yld i H x H' → B x H' Nx) := by
  refine ⟨fun i m H => m = xs.length - i ∧ i ≤ xs.length ∧ Pv i H, ⟨_, rfl, Nat.zero_le _, h0⟩, ?_⟩
  rintro i m H ⟨rfl, hi, p⟩
  have q := hl i H hi p
  by_cases hlt : i < xs.length
  · refine .inr ⟨⟨xs, xs[i], q, by simp [hlt]⟩, Pv (i + 1), fun H' p' => ⟨xs.length - (i + 1), by omega, rfl, hlt, p'⟩, fun x H' y => ?_⟩
    obtain ⟨e, y⟩ := y
    subst e
    exact hs i x _ (y xs q) p
  · have e : i = xs.length := by omega
    subst e
    exact .inl ⟨⟨xs, q, Nat.le_refl _⟩, hd H p⟩
/-- a dict made of pairs of whole numbers -/
def toldK (ps : List (Int × Int)) : List (Key × V) := ps.foldl (fun k p => putK k (.inl p.2) (.int p.1)) []
theorem putK_le (c : List (Key × V)) (k : Key) (x : V) : (putK c k x).length ≤ c.length + 1 := by
  unfold putK
  split
  · rw [List.length_map]; omega
  · rw [List.length_append]; exact Nat.le_refl _
theorem toldK_snoc (ps : List (Int × Int)) (p : Int × Int) : toldK (ps ++ [p]) = putK (toldK ps) (.inl p.2) (.int p.1) := by
  unfold toldK
  rw [List.foldl_append]
  rfl
theorem told_all (ps : List (Int × Int)) : ∀ qs : List (Int × Int), (∀ p ∈ qs, p ∈ ps) → ∀ s w, valV (toldK qs) (.inl s) = some w → ∃ v, w = .int v ∧ (v, s) ∈ ps := by
  suffices h : ∀ (qs : List (Int × Int)) (c : List (Key × V)), (∀ p ∈ qs, p ∈ ps) → (∀ s w, valV c (.inl s) = some w → ∃ v, w = .int v ∧ (v, s) ∈ ps) → ∀ s w, valV (qs.foldl (fun k p => putK k (.inl p.2) (.int p.1)) c) (.inl s) = some w → ∃ v, w = .int v ∧ (v, s) ∈ ps from fun qs hq => h qs [] hq (fun s w e => nomatch e)
  intro qs
  induction qs with
  | nil => intro c _ hc; exact hc
  | cons q r ih =>
    intro c hq hc
    refine ih _ (fun p hp => hq p (List.mem_cons_of_mem _ hp)) (fun s w e => ?_)
    rw [valV_put] at e
    split at e
    · rename_i e2
      cases e2
      cases e
      exact ⟨_, rfl, hq q List.mem_cons_self⟩
    · exact hc s w e
theorem told_mem : ∀ (qs : List (Int × Int)) (p : Int × Int), p ∈ qs → ∃ w, valV (toldK qs) (.inl p.2) = some w := by
  suffices h : ∀ (qs : List (Int × Int)) (c : List (Key × V)) (s : Int), ((∃ p ∈ qs, p.2 = s) ∨ ∃ w, valV c (.inl s) = some w) → ∃ w, valV (qs.foldl (fun k p => putK k (.inl p.2) (.int p.1)) c) (.inl s) = some w from fun qs p hp => h qs [] p.2 (.inl ⟨p, hp, rfl⟩)
  intro qs
  induction qs with
  | nil =>
    intro c s h
    rcases h with ⟨_, h, _⟩ | h
    · exact nomatch h
    · exact h
  | cons q r ih =>
    intro c s h
    refine ih _ s ?_
    rcases h with ⟨p, hp, e⟩ | ⟨w, e⟩
    · rcases List.mem_cons.mp hp with rfl | hp
      · exact .inr ⟨_, by rw [valV_put, if_pos (by rw [e])]⟩
      · exact .inl ⟨p, hp, e⟩
    · right
      rw [valV_put]
      split
      · exact ⟨_, rfl⟩
      · exact ⟨w, e⟩
/-- what such a dict tells of a pair -/
theorem told_get {ps : List (Int × Int)} {p : Int × Int} (h : p ∈ ps) : ∃ v, valV (toldK ps) (.inl p.2) = some (.int v) ∧ (v, p.2) ∈ ps := by
  obtain ⟨w, e⟩ := told_mem ps p h
  obtain ⟨v, rfl, hv⟩ := told_all ps ps (fun _ h => h) _ _ e
  exact ⟨v, e, hv⟩
end D

namespace D
open PySem PySem.Spec PyProof.Rows L2
/-! ### dict comprehensions whose keys are tuples (after the layer's own for ints and texts) -/
theorem d_dictSetT {X : Cx} {pins : List (Addr × Obj)} {σ : L2.St} {H : Hp} {s : Shared} {E : Value → Shared → Prop} {D : Addr} {kvs : List (List Key × V)} {k : List Key} {b : Addr} {v : V} {u r : Value} {Q : Unit → Shared → Prop} (hu : X.A.units + 1 < cLine) (I : Inv X pins σ H s) (hD : H D = some (.dT kvs)) (hz : kvs.length < sizeLine)
    (eb : H b = some (.tup (k.map kV))) (ry : RelV (.ref b) u) (rv : RelV v r) (h : ∀ s', Inv X pins σ (upd H D (.dT (putK kvs k v))) s' → Q () s') : wpAny (model X.prog X.w) X.A (dictSet D u r) Q E s := by
  cases (show u = Value.ref b from ry)
  obtain ⟨z, hd, xs, rel, dd⟩ := dt_of I.hok hD
  have hz' : xs.length ≤ sizeLine := by rw [← Paired.length rel]; exact z
  have hl : (putK kvs k v).length ≤ sizeLine := by have := length_putK kvs k v; omega
  refine wpAny_dictSet_heap (hsz := hz') (show (tupleKind (mixKind X.prog X.w)).room X.A from Nat.lt_of_succ_lt hu) (key_of I.hok eb) dd fun h' dd' hs => h _ ?_
  obtain ⟨q, es, ep, hq, h2, h3, h4, _, h5⟩ := dd'
  refine d_write I (by rw [hD]; exact True.intro) hs ⟨q, hq⟩ ⟨hl, hd, _, (rel.put k eb rv).keeps fun c ys ec => ?_, q, es, ep, hq, h2, h3, h4, h5⟩
  rw [upd_ne (ne_of ec hD (fun z => nomatch z))]
  exact ec
theorem key_rd {P : Program} {w : World} {H : Hp} {h : Heap} {a : Addr} {ks : List Key} (ok : HOk P w H h) (e : Rd H a (.tup (ks.map kV))) : (tupleKind (mixKind P w)).is h ks a := by
  obtain ⟨_, its, r, o, h1, h2, n, h3⟩ := (show ObjOk P w H h a (.tup (ks.map kV)) from rd_of ok e)
  exact ⟨o, its.toArray, n, h1, h2, h3, by simpa using items_are r⟩
section
variable {X : Cx}
/-- something holds of all contexts that a block may have -/
abbrev InBlk (X : Cx) (sc : Scope) (F : Cx → Prop) : Prop := ∀ (t : Shared) (G : Hp) (L : Addr) (cells : List (Str × Addr)) (feet : List Addr), F (X.blk t G sc (compEnvC sc cells L X.env) feet)
/-- what a comprehension does with a new dict at D: O what stands there, Put the storing of a pair -/
def tDcG (O : Addr → HO) (Put : Addr → (Hp → Prop) → V → V → Hp → Prop) (walk : TI) (g : TG) (tt : TT) (tk tv : TE) (own : List Nat) : TE := fun σ H Q => walk σ H fun J H1 => ∀ D, H1 D = none → ∃ W : Nat → Nat → Hp → Prop, (∃ m, W 0 m (upd H1 D (O D))) ∧ ∀ i m G, W i m G →
  (J.stop i G ∧ Q (.ref D) G) ∨ (J.go i G ∧ ∃ N : Hp → Prop, (∀ G', N G' → ∃ m', m' < m ∧ W (i + 1) m' G') ∧
    ∀ x G', J.yld i G x G' → g x (wipe σ own) G' fun σ2 G2 => wipe σ2 own = wipe σ own ∧ tt σ2 G2 fun b G3 => if b = true then tk σ2 G3 fun y G4 => tv σ2 G4 fun z G5 => Put D N y z G5 else N G3)
/-- the pair is put into the dict at D -/
def PutT (D : Addr) (N : Hp → Prop) (y z : V) (G : Hp) : Prop := ∃ kvs k b, y = .ref b ∧ G b = some (.tup (k.map kV)) ∧ G D = some (.dT kvs) ∧ kvs.length < sizeLine ∧ N (upd G D (.dT (putK kvs k z)))
/-- what a storing must be -/
def Stores (X : Cx) (Put : Addr → (Hp → Prop) → V → V → Hp → Prop) : Prop := ∀ (B : Cx) (pins : List (Addr × Obj)) (σ : L2.St) (G : Hp) (t : Shared) (D : Addr) (N : Hp → Prop) (y z : V) (u r : Value) (Q : Unit → Shared → Prop) (E : Value → Shared → Prop),
  B.prog = X.prog → B.w = X.w → B.A = X.A → B.K = X.K → Inv B pins σ G t → Put D N y z G → RelV y u → RelV z r → (∀ t' G', Inv B pins σ G' t' → N G' → Q () t') → wpAny (model B.prog B.w) B.A (dictSet D u r) Q E t
theorem pe_dcG {O : Addr → HO} {Put : Addr → (Hp → Prop) → V → V → Hp → Prop} {kx vx tgt it : Expr} {ifs : List Expr} {sc : Scope} {own : List (Str × Nat)} {pos : Pos} {walk : TI} {g : TG} {tt : TT} {tk tv : TE} (mk0 : ∀ (H : Hp) (h : Heap), sysModules < h.objs.size → ObjOk X.prog X.w H (h.push { cls := .type "dict", data := .dict #[] }) h.objs.size (O h.objs.size)) (store : Stores X Put) (calm : X.calm = true) (nod : X.N.Nodup)
    (pi : PI X tgt it walk) (bo : BlkOk X.N X.env.scope sc own) (pg : InBlk X sc fun B => PG B tgt g) (pt : InBlk X sc fun B => PTs B ifs tt) (pk : InBlk X sc fun B => PE B kx tk) (pv : InBlk X sc fun B => PE B vx tv)
    (plain : ∀ x, foldedSetIterable it X.env x = pure x := by intro _; rfl) : PE X (.DictComp kx vx [⟨tgt, it, ifs, 0⟩] sc pos) (tDcG O Put walk g tt tk tv (own.map (·.2))) := ⟨fun pins s σ H Q I h => by
  rw [arm_eval_DictComp]
  have free : ∀ y ∈ sc.names, y.2 = .free → ∃ c, X.env.cells.lookup y.1 = some c := fun y hy e => (bo.free y hy e).elim (fun k => I.ok.has _ (.inl k)) fun k => I.ok.has _ (.inr k)
  refine wpAny_comprehension_free (use := none) rfl plain (closure_ok free) bo.kind (fun y hy e => by rw [bo.uniq y hy, e]) ?_
  -- what is walked, then the empty dict
  refine thn (pi.run pins s σ H _ I h) fun xv s1 hx => thn hx ?_
  rintro itv s2 ⟨ad, feet, tn, J, H2, rfl, I2, T, at2, ft2, q⟩
  refine wpAny_newObj_type (newEnv_comp ?_)
  have fresh : H2 s2.heap.objs.size = none := I2.hok.fresh (Nat.le_refl _)
  obtain ⟨W, ⟨m0, w0⟩, turn⟩ := q _ fresh
  let s3 : Shared := { s2 with heap := s2.heap.push { cls := .type "dict", data := .dict #[] } }
  let D : Addr := s2.heap.objs.size
  let H3 : Hp := upd H2 D (O D)
  let L : Addr := s3.heap.objs.size
  let e3 : Env := compEnvC sc (cellsFrom (L + 1) sc.names (cloFrom X.env.cells sc.names [])) L X.env
  let s4 : Shared := { s3 with heap := pushCells (s3.heap.push { cls := .type "dict", data := .dict #[] }) sc.names }
  have I3 : Inv X pins σ H3 s3 := I2.laid (t' := s2.toks) (fun _ _ e => Heap.get?_push_of_some _ e) (Nat.le_refl _) (mk0 _ s2.heap I2.big)
  have grown : ∀ b o, s2.heap.get? b = some o → s3.heap.get? b = some o := fun _ _ e => Heap.get?_push_of_some _ e
  have low : ∀ b ∈ feet, b < s2.heap.objs.size := fun b hb => Heap.lt_size (T.obj _ _ at2 b hb).choose_spec.1
  have ft3 : ∀ b ∈ feet, FpOk X pins H3 b ∧ b < s3.heap.objs.size := fun b hb => ⟨⟨(upd_ne (Nat.ne_of_lt (low b hb))).trans (ft2 b hb).1, (ft2 b hb).2⟩, by show b < (s2.heap.push _).objs.size; rw [Heap.size_push]; exact Nat.lt_succ_of_lt (low b hb)⟩
  have at3 : tn 0 s3.heap := T.keep _ _ _ at2 fun b _ o e => grown b o e
  have I4 : Inv (X.blk s3 H3 sc e3 feet) [] (wipe σ (own.map (·.2))) H3 s4 := block_start I3 bo nod ft3
  have at4 : tn 0 s4.heap := T.keep _ _ _ at3 fun b _ o e => pushCells_keeps _ _ _ _ (Heap.get?_push_of_some _ e)
  -- the walker's own objects in the block's context
  have foot : ∀ {σ' : L2.St} {G : Hp} {t : Shared}, Inv (X.blk s3 H3 sc e3 feet) [] σ' G t → (∀ b ∈ feet, G b = none) → ∀ b ∈ feet, FpOk (X.blk s3 H3 sc e3 feet) [] G b := by
    intro σ' G t J' none b hb
    refine ⟨none b hb, (J'.ok.exf b hb).1, J'.ok.exfs b hb, .inl hb, fun x c e => (J'.ok.exf b hb).2 x c e, ?_⟩
    intro p hp
    exact nomatch (show p ∈ ([] : List (Addr × Obj)) from by simpa using hp)
  have loop : codeAny (model X.prog X.w) X.A (.compLoop (.DictComp kx vx [⟨tgt, it, ifs, 0⟩] sc pos) 0 (.ref ad) (.ref D) e3) (compPost (model X.prog X.w) X.A X.xe none (fun v t => ∃ x G, Inv X pins σ G t ∧ RelV x v ∧ Q x G) (.ref D) L) s4 := by
    refine compLoop_anyD (fun n t => ∃ i G, Inv (X.blk s3 H3 sc e3 feet) [] (wipe σ (own.map (·.2))) G t ∧ tn i t.heap ∧ (∀ b ∈ feet, G b = none) ∧ W i n G) ?_ m0 ⟨0, H3, I4, at4, fun b hb => (ft3 b hb).1.1, w0⟩
    rintro n t ⟨i, G, IG, atG, nG, wG⟩
    obtain ⟨stop, fin⟩ | ⟨go, N, less, step⟩ := turn i n G wG
    · refine thnF (T.done (X.blk s3 H3 sc e3 feet) rfl rfl rfl calm i [] t _ G (fun _ _ => False) IG (foot IG nG) atG stop) ?_
      rintro r t6 ⟨rfl, I6⟩
      have I7 : Inv X pins σ G t6 := I3.call' (ch := feet) I6.os I6.base I6.hok I6.bare fun b hb => let z := (ft3 b hb).1.2; ⟨z.2.2.1, z.1, z.2.2.2.1, z.2.2.2.2⟩
      obtain ⟨m, names, _⟩ := I6.loc
      obtain ⟨a0, a1, a2, a3, a4, a5⟩ := I3.fpOk (Nat.le_refl _) (show G L = none from I6.free)
      exact ⟨m, names, fun h'' kept => ⟨.ref D, G, I7.turned (t' := t6.toks) (fun b o hb e => (kept.2 b hb).trans e) a0 a1 a3 a4 a5, rfl, fin⟩⟩
    · refine thnF (T.item (X.blk s3 H3 sc e3 feet) rfl rfl rfl calm i [] t _ G (fun _ _ => False) IG (foot IG nG) atG go) ?_
      rintro r t6 ⟨u, rfl, h6⟩
      refine thnF h6 ?_
      rintro _ t7 ⟨x, G7, I7, r7, y7, at7, n7⟩
      refine thnF ((pg _ _ _ _ _).run _ t7 _ G7 x u _ (I7.pinned (foot I7 n7) (T.obj _ _ at7)) r7 (step x G7 y7)) ?_
      rintro _ t8 ⟨σ8, G8, I8, wp8, q8⟩
      refine thnF ((pt _ _ _ _ _).run _ t8 σ8 G8 _ I8 q8) ?_
      rintro b t9 ⟨G9, I9, q9⟩
      have back : ∀ {t' : Shared} {G' : Hp}, Inv (X.blk s3 H3 sc e3 feet) ([] ++ pinsAt feet t7.heap) σ8 G' t' → N G' → ∃ m, m < n ∧ ∃ i G, Inv (X.blk s3 H3 sc e3 feet) [] (wipe σ (own.map (·.2))) G t' ∧ tn i t'.heap ∧ (∀ b ∈ feet, G b = none) ∧ W i m G := by
        intro t' G' I' nx
        obtain ⟨m', lt, w'⟩ := less G' nx
        have held : ∀ b ∈ feet, ∀ o, t7.heap.get? b = some o → t'.heap.get? b = some o ∧ G' b = none := fun b hb o e => let z := I'.pin (b, o) (List.mem_append_right _ (List.mem_append_right _ (mem_pinsAt hb e))); ⟨z.1, z.2.1⟩
        refine ⟨m', lt, i + 1, G', I'.unpinned.weak (by rw [← wp8, wipe_length]) fun j v e => ?_, T.keep _ _ _ at7 fun b hb o e => (held b hb o e).1, fun b hb => ?_, w'⟩
        · exact (wipe_some (wp8 ▸ e)).1
        · obtain ⟨o, e, _⟩ := T.obj _ _ at7 b hb
          exact (held b hb o e).2
      by_cases yes : b = true
      · subst yes
        refine thnF ((pk _ _ _ _ _).run _ t9 σ8 G9 _ I9 q9) ?_
        rintro ku t10 ⟨ky, G10, I10, r10, q10⟩
        refine thnF ((pv _ _ _ _ _).run _ t10 σ8 G10 _ I10 q10) ?_
        rintro vu t11 ⟨vy, G11, I11, r11, putting⟩
        exact store (X.blk s3 H3 sc e3 feet) _ _ _ _ _ _ _ _ _ _ _ _ rfl rfl rfl rfl I11 putting r10 r11 fun t12 G12 I12 nx => back I12 nx
      · have no : b = false := by cases b with | true => exact absurd rfl yes | false => rfl
        subst no
        exact back I9 q9
  exact codeAny_compStart_dict loop (T.self X.A 0 _ _ _ at4 loop)⟩
/-- keys that are tuples of ints and texts -/
abbrev tDcT (walk : TI) (g : TG) (tt : TT) (tk tv : TE) (own : List Nat) : TE := tDcG (fun _ => .dT []) PutT walk g tt tk tv own
theorem stores_T (hu : X.A.units + 1 < cLine) : Stores X PutT := by
  rintro B pins σ G t D N y z u r Q E e1 e2 e3 e4 I ⟨kvs, k, kb, rfl, tup, dict, room, nx⟩ ry rz h
  exact d_dictSetT (by rw [e3]; exact hu) I dict room tup ry rz fun t' I' => h t' _ I' nx
theorem pe_dcT {kx vx tgt it : Expr} {ifs : List Expr} {sc : Scope} {own : List (Str × Nat)} {pos : Pos} {walk : TI} {g : TG} {tt : TT} {tk tv : TE} (hu : X.A.units + 1 < cLine) (calm : X.calm = true) (nod : X.N.Nodup)
    (pi : PI X tgt it walk) (bo : BlkOk X.N X.env.scope sc own) (pg : InBlk X sc fun B => PG B tgt g) (pt : InBlk X sc fun B => PTs B ifs tt) (pk : InBlk X sc fun B => PE B kx tk) (pv : InBlk X sc fun B => PE B vx tv)
    (plain : ∀ x, foldedSetIterable it X.env x = pure x := by intro _; rfl) : PE X (.DictComp kx vx [⟨tgt, it, ifs, 0⟩] sc pos) (tDcT walk g tt tk tv (own.map (·.2))) :=
  pe_dcG (fun _ h b => dt_empty h b) (stores_T hu) calm nod pi bo pg pt pk pv plain
/-! ### dicts whose keys are tuples that may be known to their objects -/
/-- the dict at a: kvs its pairs, ks its keys with the tuples that stand for them -/
def KX (kvs : List (List Key × V)) (ks : List (List Key × Addr)) (xs : List (List Key × Addr × Value)) : Prop := Paired (fun (p : List Key × V) (q : List Key × Addr × Value) => p.1 = q.1 ∧ RelV p.2 q.2.2) kvs xs ∧ xs.map (fun q => (q.1, q.2.1)) = ks
def dXo (P : Program) (w : World) (a : Addr) (kvs : List (List Key × V)) (ks : List (List Key × Addr)) : HO := .ext fun h => kvs.length ≤ sizeLine ∧ (a == sysModules) = false ∧ ∃ xs, KX kvs ks xs ∧ (∃ o es ep, h.get? a = some o ∧ o.ExactDict ∧ o.data = .dict es ep ∧ es.toList = xs.map (entryOfKey (tupleKind (mixKind P w)))) ∧ (xs.map (·.1)).Nodup
theorem dXo_ok {P : Program} {w : World} {H : Hp} {h : Heap} {a : Addr} {kvs : List (List Key × V)} {ks : List (List Key × Addr)} {xs : List (List Key × Addr × Value)} {o : Obj} {es : Array DictEntry} {ep : Nat} (l : kvs.length ≤ sizeLine) (n : (a == sysModules) = false) (r : KX kvs ks xs) (g : h.get? a = some o) (x : o.ExactDict) (d : o.data = .dict es ep)
    (e : es.toList = xs.map (entryOfKey (tupleKind (mixKind P w)))) (nd : (xs.map (·.1)).Nodup) : ObjOk P w H h a (dXo P w a kvs ks) := by
  refine ⟨⟨l, n, xs, r, ⟨o, es, ep, g, x, d, e⟩, nd⟩, ⟨o, g⟩, ?_⟩
  rintro h1 h2 ⟨l1, n1, xs1, r1, ⟨o1, es1, ep1, g1, x1, d1, e1⟩, nd1⟩ same
  exact ⟨l1, n1, xs1, r1, ⟨o1, es1, ep1, same o1 g1, x1, d1, e1⟩, nd1⟩
/-- the tuples stand -/
def KsAt (H : Hp) (ks : List (List Key × Addr)) : Prop := ∀ p ∈ ks, Rd H p.2 (.tup (p.1.map kV))
theorem dXo_at {P : Program} {w : World} {H : Hp} {h : Heap} {a : Addr} {kvs : List (List Key × V)} {ks : List (List Key × Addr)} (ok : HOk P w H h) (e : H a = some (dXo P w a kvs ks)) (t : KsAt H ks) :
    kvs.length ≤ sizeLine ∧ (a == sysModules) = false ∧ ∃ xs, KX kvs ks xs ∧ h.DictOfH (tupleKind (mixKind P w)) a xs := by
  obtain ⟨⟨l, n, xs, r, ⟨o, es, ep, g, x, d, e1⟩, nd⟩, _⟩ := ok a _ e
  refine ⟨l, n, xs, r, o, es, ep, g, x, d, e1, fun q hq => ?_, nd⟩
  have hk : (q.1, q.2.1) ∈ ks := by rw [← r.2]; exact List.mem_map.mpr ⟨q, hq, rfl⟩
  exact key_rd ok (t _ hk)
theorem paired_keys {F : (List Key × V) → (List Key × Addr × Value) → Prop} (hF : ∀ p q, F p q → p.1 = q.1) : ∀ {kvs : List (List Key × V)} {xs : List (List Key × Addr × Value)}, Paired F kvs xs → kvs.map (·.1) = xs.map (·.1) := by
  intro kvs xs r
  induction r with
  | nil => rfl
  | cons h t ih => rw [List.map_cons, List.map_cons, ih, hF _ _ h]
theorem kx_val {kvs : List (List Key × V)} {ks : List (List Key × Addr)} {xs : List (List Key × Addr × Value)} (r : KX kvs ks xs) (k : List Key) : RelO (valV kvs k) ((atKey xs k).map (·.2)) := by
  replace r := r.1
  induction r with
  | nil => exact True.intro
  | @cons p q ps qs h t ih =>
    by_cases c : p.1 = k
    · have c' : q.1 = k := h.1.symm.trans c
      rw [valV_pos c, show atKey (q :: qs) k = some q.2 by simp [atKey, List.find?_cons, c']]
      exact h.2
    · have c' : ¬ q.1 = k := fun z => c (h.1.trans z)
      rw [valV_neg c, show atKey (q :: qs) k = atKey qs k by simp [atKey, List.find?_cons, c']]
      exact ih
/-- the keys behind a storing -/
def ksPut (kvs : List (List Key × V)) (ks : List (List Key × Addr)) (k : List Key) (b : Addr) : List (List Key × Addr) := if (valV kvs k).isSome = true then ks else ks ++ [(k, b)]
theorem kx_put {kvs : List (List Key × V)} {ks : List (List Key × Addr)} {xs : List (List Key × Addr × Value)} (r : KX kvs ks xs) (k : List Key) (b : Addr) {y : V} {u : Value} (ry : RelV y u) : KX (putK kvs k y) (ksPut kvs ks k b) (storedH xs k b u) := by
  have e : (valV kvs k).isSome = (atKey xs k).isSome := by rw [(kx_val r k).isSome_eq, Option.isSome_map]
  obtain ⟨r, rk⟩ := r
  unfold putK storedH ksPut
  rw [valV_any, e]
  by_cases c : (atKey xs k).isSome = true
  · rw [if_pos c, if_pos c, if_pos c]
    refine ⟨?_, ?_⟩
    · clear rk e c
      induction r with
      | nil => exact .nil
      | @cons p q ps qs h t ih =>
        refine .cons ?_ ih
        show (if p.1 = k then (p.1, y) else p).1 = (putAt k u q).1 ∧ RelV (if p.1 = k then (p.1, y) else p).2 (putAt k u q).2.2
        unfold putAt
        by_cases d : p.1 = k
        · rw [if_pos d, if_pos (h.1.symm.trans d)]
          exact ⟨h.1, ry⟩
        · rw [if_neg d, if_neg (fun z => d (h.1.trans z))]
          exact h
    · rw [← rk, List.map_map]
      refine List.map_congr_left fun q _ => ?_
      show ((putAt k u q).1, (putAt k u q).2.1) = _
      unfold putAt
      split <;> rfl
  · rw [if_neg c, if_neg c, if_neg c]
    exact ⟨Paired.snoc r ⟨rfl, ry⟩, by rw [List.map_append, rk]; rfl⟩
def PutX (P : Program) (w : World) (D : Addr) (N : Hp → Prop) (y z : V) (G : Hp) : Prop := ∃ kvs ks k b, y = .ref b ∧ Rd G b (.tup (k.map kV)) ∧ G D = some (dXo P w D kvs ks) ∧ KsAt G ks ∧ kvs.length < sizeLine ∧ N (upd G D (dXo P w D (putK kvs k z) (ksPut kvs ks k b)))
theorem stores_X (hu : X.A.units + 1 < cLine) : Stores X (PutX X.prog X.w) := by
  rintro B pins σ G t D N y z u r Q E e1 e2 e3 e4 I ⟨kvs, ks, k, kb, rfl, tup, dict, kat, room, nx⟩ ry rz h
  cases (show u = Value.ref kb from ry)
  rw [← e1, ← e2] at dict nx
  obtain ⟨l, n, xs, rel, dd⟩ := dXo_at I.hok dict kat
  have lx : xs.length = kvs.length := (Paired.length rel.1).symm
  refine wpAny_dictSet_heap (hsz := by omega) (show (tupleKind (mixKind B.prog B.w)).room B.A from by rw [e3]; exact Nat.lt_of_succ_lt hu) (key_rd I.hok tup) dd fun h' dd' same => h _ _ ?_ nx
  obtain ⟨o, es, ep, g, x, d, e5, _, nd⟩ := dd'
  exact d_write I (by rw [dict]; exact True.intro) same ⟨o, g⟩ (dXo_ok (Nat.le_trans (length_putK kvs k z) room) n (kx_put rel k kb rz) g x d e5 nd)
theorem dXo_empty {P : Program} {w : World} (H : Hp) (h : Heap) (b : sysModules < h.objs.size) : ObjOk P w H (h.push { cls := .type "dict", data := .dict #[] }) h.objs.size (dXo P w h.objs.size [] []) :=
  dXo_ok (xs := []) (Nat.zero_le _) (beq_eq_false_iff_ne.mpr (Ne.symm (Nat.ne_of_lt b))) ⟨.nil, rfl⟩ (Heap.get?_push_size _ rfl) ⟨rfl, rfl, rfl⟩ rfl rfl List.nodup_nil
abbrev tDcX (P : Program) (w : World) (walk : TI) (g : TG) (tt : TT) (tk tv : TE) (own : List Nat) : TE := tDcG (fun D => dXo P w D [] []) (PutX P w) walk g tt tk tv own
theorem pe_dcX {P : Program} {w : World} (hP : X.prog = P) (hw : X.w = w) {kx vx tgt it : Expr} {ifs : List Expr} {sc : Scope} {own : List (Str × Nat)} {pos : Pos} {walk : TI} {g : TG} {tt : TT} {tk tv : TE} (hu : X.A.units + 1 < cLine) (calm : X.calm = true) (nod : X.N.Nodup)
    (pi : PI X tgt it walk) (bo : BlkOk X.N X.env.scope sc own) (pg : InBlk X sc fun B => PG B tgt g) (pt : InBlk X sc fun B => PTs B ifs tt) (pk : InBlk X sc fun B => PE B kx tk) (pv : InBlk X sc fun B => PE B vx tv)
    (plain : ∀ x, foldedSetIterable it X.env x = pure x := by intro _; rfl) : PE X (.DictComp kx vx [⟨tgt, it, ifs, 0⟩] sc pos) (tDcX P w walk g tt tk tv (own.map (·.2))) := by
  subst hP hw
  exact pe_dcG (fun H h b => dXo_empty H h b) (stores_X hu) calm nod pi bo pg pt pk pv plain
/-- d[k] of such a dict -/
def tXGet (P : Program) (w : World) (td ty : TE) : TE := fun σ H Q => td σ H fun x H1 => ty σ H1 fun y H2 => ∃ a kvs ks k b v, x = .ref a ∧ y = .ref b ∧ H2 a = some (dXo P w a kvs ks) ∧ KsAt H2 ks ∧ Rd H2 b (.tup (k.map kV)) ∧ valV kvs k = some v ∧ Q v H2
theorem pe_xget {P : Program} {w : World} (hP : X.prog = P) (hw : X.w = w) (hu : X.A.units + 1 < cLine) {o i : Expr} {td ty : TE} {pos : Pos} (ho : PE X o td) (hi : PE X i ty) (hs : NoSl i) : PE X (.Subscript o i pos) (tXGet P w td ty) := by
  subst hP hw
  refine ⟨fun pins s σ H Q I h => ?_⟩
  refine subD_of PySem.F.slot_dict_getitem.lookup hs (thn (ho.run pins s σ H _ I h) fun ov s1 ⟨x, H1, I1, rx, q1⟩ => thn (hi.run pins s1 σ H1 _ I1 q1) ?_)
  rintro iv s2 ⟨y, H2, I2, ry, a, kvs, ks, k, b, v, rfl, rfl, dict, kat, tup, has, q2⟩
  obtain rfl : ov = Value.ref a := rx
  cases (show iv = Value.ref b from ry)
  obtain ⟨l, n, xs, rel, dd⟩ := dXo_at I2.hok dict kat
  have rv := kx_val rel k
  rw [has] at rv
  obtain ⟨u, hp, ru⟩ := RelO.some_of rv
  obtain ⟨p, hp', rfl⟩ := Option.map_eq_some_iff.mp hp
  refine ⟨?_, wpAny_getItem_heap (tupleKind_room_in1 hu) (key_rd I2.hok tup) dd hp' ?_⟩
  · obtain ⟨o', es, ep, g, x, _⟩ := dd
    exact ⟨o', g, x.1⟩
  · exact ⟨v, H2, I2.tok _, ru, q2⟩
/-- deep membership, in lists and in tuples -/
def rInDT (K : PySem.W.Frag) : R2 := fun x y H Q => ∃ d ds, Dp K H x d ∧ Dp K H y (.tuple ds) ∧ SeqAt.shaped d = true ∧ SeqAt.shaped (.tuple ds) = true ∧ Q (.bl (ds.any fun z => PyData.eqv z d)) H
def rNotInDT (K : PySem.W.Frag) : R2 := fun x y H Q => ∃ d ds, Dp K H x d ∧ Dp K H y (.tuple ds) ∧ SeqAt.shaped d = true ∧ SeqAt.shaped (.tuple ds) = true ∧ Q (.bl (!ds.any fun z => PyData.eqv z d)) H
theorem op_inDT {K : PySem.W.Frag} (hK : X.K = K) (hu : X.A.units + 65 < cLine) : OpR X (compareOp .In) (rInDT K) := by
  subst hK
  intro pins s σ H x y v u Q I rx ry h
  obtain ⟨d, ds, hd, he, sd, se, q⟩ := h
  obtain ⟨as, r1⟩ := Dp.reads I d x v hd rx
  obtain ⟨bs, r2⟩ := Dp.reads I (.tuple ds) y u he ry
  exact SeqAt.in_tuple_reads r2 r1 (SeqAt.canLay_of_shaped se) (SeqAt.canLay_of_shaped sd) (room_in_shaped sd hu) ⟨.bl _, H, I, rfl, q⟩
theorem op_notInDT {K : PySem.W.Frag} (hK : X.K = K) (hu : X.A.units + 65 < cLine) : OpR X (compareOp .NotIn) (rNotInDT K) := by
  subst hK
  intro pins s σ H x y v u Q I rx ry h
  obtain ⟨d, ds, hd, he, sd, se, q⟩ := h
  obtain ⟨as, r1⟩ := Dp.reads I d x v hd rx
  obtain ⟨bs, r2⟩ := Dp.reads I (.tuple ds) y u he ry
  exact SeqAt.notIn_tuple_reads r2 r1 (SeqAt.canLay_of_shaped se) (SeqAt.canLay_of_shaped sd) (room_in_shaped sd hu) ⟨.bl _, H, I, rfl, q⟩
theorem op_inDK {K : PySem.W.Frag} (hK : X.K = K) (hu : X.A.units + 65 < cLine) : OpR X (compareOp .In) (rInD K) := by subst hK; exact op_inD hu
theorem op_notInDK {K : PySem.W.Frag} (hK : X.K = K) (hu : X.A.units + 65 < cLine) : OpR X (compareOp .NotIn) (rNotInD K) := by subst hK; exact op_notInD hu
/-- t.index(n), the first place, of a tuple of ints -/
def rTIdx (K : PySem.W.Frag) : V → List V → Hp → VK → Prop := fun x xs H Q => ∃ p, ∃ ys : List Int, ∃ z j, x = .ref p ∧ xs = [.int z] ∧ SqT K H p (ys.map V.int) ∧ ys[j]? = some z ∧ (∀ m, m < j → ys[m]? ≠ some z) ∧ Q (.int (j : Nat)) H
theorem flat_ints (ys : List Int) : (ys.map V.int).all flatV = true := by induction ys <;> simp_all [flatV]
theorem mt_tup_indexI {K : PySem.W.Frag} (hK : X.K = K) : MtR X "tuple.index" (rTIdx K) := by
  subst hK
  rintro pins s σ H _ _ v us Q I rx rs ⟨p, ys, z, j, rfl, rfl, reads, found, first, q⟩
  cases rx
  obtain ⟨_, rfl, tk, rfl⟩ := vals1 rs
  obtain ⟨its, vals, ⟨⟨_, dd, _, sl⟩, stands, rfl, n, rfl⟩, _⟩ := I.tuple reads
  have size : its.length = ys.length := by simpa using vals.length.symm
  have item : ∀ m : Nat, m < ys.length → ∃ t', its[m]? = some (Value.int (ys.getD m 0) t') := by
    intro m hm
    obtain ⟨w, hw, t', rfl⟩ := vals.get (i := m) (x := V.int (ys.getD m 0)) (by simp [hm])
    exact ⟨t', hw⟩
  have eqs : ∀ (m : Nat) (hm : m < its.toArray.size), eqU (V.int z) its.toArray[m] = decide (ys.getD m 0 = z) := by
    intro m hm
    obtain ⟨t', e⟩ := item m (by simpa [size] using hm)
    have e' : its.toArray[m] = Value.int (ys.getD m 0) t' := by
      have := (List.getElem?_eq_some_iff.mp e).2
      simpa using this
    rw [e']
    rfl
  have inside := (List.getElem?_eq_some_iff.mp found).1
  have jz : ys.getD j 0 = z := by rw [List.getD_eq_getElem?_getD, found]; rfl
  have answer := TI.tuple_indexAt p its.toArray n dd sl (.int z tk) (eqU (.int z)) j (by simpa [size] using inside) (by rw [eqs, jz]; exact decide_eq_true rfl) (fun m hm lt => by
    rw [eqs]
    refine decide_eq_false fun e => first m lt ?_
    have inm : m < ys.length := by simpa [size] using hm
    rw [List.getElem?_eq_getElem inm, ← e, List.getD_eq_getElem?_getD, List.getElem?_eq_getElem inm]
    rfl)
  exact call_meets PySem.F.slot_tuple_index ⟨_, stands, rfl⟩ PySem.F.entry_tuple_index (PySem.F.args_tuple_index_2 _ _) answer
    ⟨stands, fun w hw => mem_eqAt (x := .int z) ⟨tk, rfl⟩ rfl vals (flat_ints ys) w (by simpa using hw), ⟨.int (j : Nat), H, I.tok _, ⟨_, rfl⟩, q⟩⟩
end
/-! ### loops over enumerate and zip, whatever their bodies -/
theorem enumL_loop {K : PySem.W.Frag} {a : Addr} {xs : List V} {Qd : Hp → Prop} {H0 : Hp} {B : V → Hp → (Hp → Prop) → Prop} (Pv : Nat → Hp → Prop) (h0 : Pv 0 H0) (hl : ∀ i H, i ≤ xs.length → Pv i H → SqL K H a xs) (hs : ∀ i x T H, xs[i]? = some x → H T = none → Pv i H → B (.ref T) (upd H T (.tup [.int (i : Nat), x])) (Pv (i + 1))) (hd : ∀ H, Pv xs.length H → Qd H) :
    ∃ W : Nat → Nat → Hp → Prop, (∃ m, W 0 m H0) ∧ ∀ i m H, W i m H → ((Ite K a).stop i H ∧ Qd H) ∨ ((Ite K a).go i H ∧ ∃ Nx : Hp → Prop, (∀ H', Nx H' → ∃ m', m' < m ∧ W (i + 1) m' H') ∧ ∀ x H', (Ite K a).yld i H x H' → B x H' Nx) := by
  refine ⟨fun i m H => m = xs.length - i ∧ i ≤ xs.length ∧ Pv i H, ⟨_, rfl, Nat.zero_le _, h0⟩, ?_⟩
  rintro i m H ⟨rfl, hi, p⟩
  have q := hl i H hi p
  by_cases hlt : i < xs.length
  · refine .inr ⟨⟨xs, xs[i], q, by simp [hlt]⟩, Pv (i + 1), fun H' p' => ⟨xs.length - (i + 1), by omega, rfl, hlt, p'⟩, fun x H' y => ?_⟩
    obtain ⟨T, z, rfl, hT, rfl, hz⟩ := y
    exact hs i z T _ (hz xs q) hT p
  · have e : i = xs.length := by omega
    subst e
    exact .inl ⟨⟨xs, q, Nat.le_refl _⟩, hd H p⟩
theorem enumT_loop {K : PySem.W.Frag} {a : Addr} {xs : List V} {Qd : Hp → Prop} {H0 : Hp} {B : V → Hp → (Hp → Prop) → Prop} (Pv : Nat → Hp → Prop) (h0 : Pv 0 H0) (hl : ∀ i H, i ≤ xs.length → Pv i H → SqT K H a xs) (hs : ∀ i x T H, xs[i]? = some x → H T = none → Pv i H → B (.ref T) (upd H T (.tup [.int (i : Nat), x])) (Pv (i + 1))) (hd : ∀ H, Pv xs.length H → Qd H) :
    ∃ W : Nat → Nat → Hp → Prop, (∃ m, W 0 m H0) ∧ ∀ i m H, W i m H → ((Itet K a).stop i H ∧ Qd H) ∨ ((Itet K a).go i H ∧ ∃ Nx : Hp → Prop, (∀ H', Nx H' → ∃ m', m' < m ∧ W (i + 1) m' H') ∧ ∀ x H', (Itet K a).yld i H x H' → B x H' Nx) := by
  refine ⟨fun i m H => m = xs.length - i ∧ i ≤ xs.length ∧ Pv i H, ⟨_, rfl, Nat.zero_le _, h0⟩, ?_⟩
  rintro i m H ⟨rfl, hi, p⟩
  have q := hl i H hi p
  by_cases hlt : i < xs.length
  · refine .inr ⟨⟨xs, xs[i], q, by simp [hlt]⟩, Pv (i + 1), fun H' p' => ⟨xs.length - (i + 1), by omega, rfl, hlt, p'⟩, fun x H' y => ?_⟩
    obtain ⟨T, z, rfl, hT, rfl, hz⟩ := y
    exact hs i z T _ (hz xs q) hT p
  · have e : i = xs.length := by omega
    subst e
    exact .inl ⟨⟨xs, q, rfl⟩, hd H p⟩
end D
namespace D
open PySem PySem.Spec PyProof.Rows L2
section
variable {X : Cx}
/-- tuple(list): the new object is known to have no dict -/
def rTupF (K : PySem.W.Frag) : List V → Hp → VK → Prop := fun xs H Q => ∃ p ys, xs = [.ref p] ∧ SqL K H p ys ∧ ∀ l o, H l = none → o.cls = .type "tuple" → o.dict = none → Q (.ref l) (upd H l (.frz o (.tup ys)))
theorem call_tupleF {K : PySem.W.Frag} (hK : X.K = K) : CallR X (.type "tuple") (rTupF K) := by
  subst hK
  intro pins s σ H xs us Q I r h
  obtain ⟨p, ys, rfl, hq, q⟩ := h
  obtain ⟨u, rfl, rx⟩ := vals1 r
  cases rx
  obtain ⟨its, r', pl, hz⟩ := I.list hq
  have hlen := r'.length
  refine call_tuple_list pl.isList (fun h' kp => ?_) (by simp only [List.size_toArray] <;> omega)
  have I1 : Inv X pins σ H { s with heap := h' } := I.kept (t' := s.toks) kp
  have I2 : Inv X pins σ (upd H h'.objs.size (.frz { cls := .type "tuple", data := .seq its.toArray } (.tup ys))) { s with heap := h'.push { cls := .type "tuple", data := .seq its.toArray } } :=
    I1.laid (t' := s.toks) (fun b o e => Heap.get?_push_of_some _ e) (Nat.le_refl _) (show ObjOk X.prog X.w _ _ _ (.frz _ (.tup ys)) from ⟨Heap.get?_push_size _ rfl, hz, its, r', IsTup.new _ _⟩)
  exact ⟨.ref h'.objs.size, _, I2, rfl, q _ _ (I1.hok.fresh (Nat.le_refl _)) rfl rfl⟩
/-- t[lo:hi], the cut known to its object -/
def rSlF (K : PySem.W.Frag) : V → Option Int → Option Int → Hp → VK → Prop := fun x lo hi H Q => ∃ a xs, x = .ref a ∧ SqT K H a xs ∧
  (HT.sIx xs.length 0 lo = 0 ∧ HT.sIx xs.length xs.length hi = xs.length → Q (.ref a) H) ∧ (¬ (HT.sIx xs.length 0 lo = 0 ∧ HT.sIx xs.length xs.length hi = xs.length) → ∀ p o, H p = none → o.cls = .type "tuple" → o.dict = none → Q (.ref p) (upd H p (.frz o (.tup (cutV xs lo hi)))))
theorem sl_tupF {K : PySem.W.Frag} (hK : X.K = K) : SlR X (rSlF K) := by
  subst hK
  rintro pins s σ H _ v vl vu lo hi sl Q I rx hs pl pu ⟨a, xs, rfl, reads, all, part⟩
  by_cases whole : HT.sIx xs.length 0 lo = 0 ∧ HT.sIx xs.length xs.length hi = xs.length
  · exact sl_tupA pins s σ H _ v vl vu lo hi sl Q I rx hs pl pu ⟨a, xs, rfl, reads, all, fun z => absurd whole z⟩
  · cases rx
    obtain ⟨its, vals, stands, small⟩ := I.tuple reads
    have size : its.toArray.size = xs.length := by rw [List.size_toArray]; exact vals.length.symm
    refine ⟨"tuple", _, PyProof.Rows.slot_tuple_getitem.lookup, stands.typeIs, HT.getItem_tuple_cut stands hs pl pu (by rw [size]; exact whole) ?_ (by rw [size]; exact small)⟩
    rw [size]
    have cut := (vals.drop (HT.sIx xs.length 0 lo)).take (HT.sIx xs.length xs.length hi - HT.sIx xs.length 0 lo)
    let ob : Obj := { cls := .type "tuple", data := .seq ((its.drop (HT.sIx xs.length 0 lo)).take (HT.sIx xs.length xs.length hi - HT.sIx xs.length 0 lo)).toArray }
    have good : ObjOk X.prog X.w (upd H s.heap.objs.size (.frz ob (.tup (cutV xs lo hi)))) (s.heap.push ob) s.heap.objs.size (.frz ob (.tup (cutV xs lo hi))) := ⟨Heap.get?_push_size _ rfl, Nat.le_trans (cutV_length xs lo hi) small, _, cut, IsTup.new _ _⟩
    exact ⟨.ref s.heap.objs.size, _, I.laid (t' := s.toks) (fun b ob e => Heap.get?_push_of_some _ e) (Nat.le_refl _) good, rfl, part whole _ ob (I.hok.fresh (Nat.le_refl _)) rfl rfl⟩
def tyTup (x : V) (H : Hp) : Prop := ∃ a o u, x = .ref a ∧ H a = some (.frz o u) ∧ o.cls = .type "tuple" ∧ o.dict = none
theorem ty_tup : TyOk X "tuple" tyTup := by
  intro pins σ H s x v I r h
  obtain ⟨a, o, u, rfl, e, hc, hd⟩ := h
  cases r
  obtain ⟨e2, _⟩ := I.hok a _ e
  refine ⟨⟨o, e2, hc⟩, fun b eb => ?_⟩
  cases eb
  exact ⟨o, e2, hd⟩
end
/-- rows -/
def RowAt (M : Ms) (H : Hp) (v : V) (ns : List Int) : Prop := ∃ a, v = .ref a ∧ ¬ M a ∧ Rd H a (.tup (ns.map V.int))
def RowF (M : Ms) (H : Hp) (v : V) (ns : List Int) : Prop := ∃ a o, v = .ref a ∧ ¬ M a ∧ H a = some (.frz o (.tup (ns.map V.int))) ∧ o.cls = .type "tuple" ∧ o.dict = none
theorem RowF.row {M : Ms} {H : Hp} {v : V} {ns : List Int} (h : RowF M H v ns) : RowAt M H v ns := by
  obtain ⟨a, o, e, n, ha, _⟩ := h
  exact ⟨a, e, n, .inr ⟨o, ha⟩⟩
theorem RowAt.sx {M : Ms} {H H' : Hp} {v : V} {ns : List Int} (h : RowAt M H v ns) (s : Sx M H H') : RowAt M H' v ns := by
  obtain ⟨a, e, n, ha⟩ := h
  exact ⟨a, e, n, sx_rd s n ha⟩
theorem RowF.sx {M : Ms} {H H' : Hp} {v : V} {ns : List Int} (h : RowF M H v ns) (s : Sx M H H') : RowF M H' v ns := by
  obtain ⟨a, o, e, n, ha, r⟩ := h
  exact ⟨a, o, e, n, s _ _ n ha, r⟩
theorem RowAt.less {M N : Ms} {H : Hp} {v : V} {ns : List Int} (h : RowAt M H v ns) (f : ∀ a, N a → M a) : RowAt N H v ns := by
  obtain ⟨a, e, n, ha⟩ := h
  exact ⟨a, e, fun z => n (f a z), ha⟩
theorem RowF.less {M N : Ms} {H : Hp} {v : V} {ns : List Int} (h : RowF M H v ns) (f : ∀ a, N a → M a) : RowF N H v ns := by
  obtain ⟨a, o, e, n, ha⟩ := h
  exact ⟨a, o, e, fun z => n (f a z), ha⟩
theorem RowF.fresh {M : Ms} {H : Hp} {v : V} {ns : List Int} {p : Addr} (hp : H p = none) (h : RowF M H v ns) : RowF (also M p) H v ns := by
  obtain ⟨a, o, e, n, ha, r⟩ := h
  refine ⟨a, o, e, fun z => ?_, ha, r⟩
  rcases z with z | z
  · exact n z
  · rw [show a = p from z, hp] at ha
    cases ha
end D

namespace D
open PySem PySem.Spec PyProof.Rows L2
theorem hu65 {A : Around} {k : Nat} (hr : Room k A) : A.units + 65 < cLine := by have := hr.un; omega
/-! ### idents and matches -/
abbrev IP := Int × Int
def idp (ws : List Int) : List IP := ws.mapIdx fun i w => (w, (((ws.take i).count w : Nat) : Int))
theorem idp_len (ws : List Int) : (idp ws).length = ws.length := List.length_mapIdx
theorem idp_at {ws : List Int} {i : Nat} {w : Int} (h : ws[i]? = some w) : (idp ws)[i]? = some (w, (((ws.take i).count w : Nat) : Int)) := by
  unfold idp
  rw [List.getElem?_mapIdx, h]
  rfl
theorem nodup_get {α : Type} {l : List α} : l.Nodup ↔ ∀ i j : Nat, i < j → j < l.length → l[i]? ≠ l[j]? := by
  unfold List.Nodup
  rw [List.pairwise_iff_getElem]
  constructor
  · intro h i j hij hj e
    rw [List.getElem?_eq_getElem (Nat.lt_trans hij hj), List.getElem?_eq_getElem hj] at e
    exact h i j (Nat.lt_trans hij hj) hj hij (Option.some.inj e)
  · intro h i j hi hj hij e
    exact h i j hij hj (by rw [List.getElem?_eq_getElem hi, List.getElem?_eq_getElem hj, e])
theorem idp_nodup (ws : List Int) : (idp ws).Nodup := by
  rw [nodup_get]
  intro i j hij hj
  have hj' : j < ws.length := by rw [idp_len] at hj; exact hj
  have hi' : i < ws.length := Nat.lt_trans hij hj'
  have ei : ws[i]? = some ws[i] := List.getElem?_eq_getElem hi'
  have ej : ws[j]? = some ws[j] := List.getElem?_eq_getElem hj'
  rw [idp_at ei, idp_at ej]
  intro e
  have e' := Option.some.inj e
  have e1 : ws[i] = ws[j] := congrArg Prod.fst e'
  have e2 : (((ws.take i).count ws[i] : Nat) : Int) = ((ws.take j).count ws[j] : Nat) := congrArg Prod.snd e'
  have e3 : (ws.take i).count ws[i] = (ws.take j).count ws[j] := Int.ofNat.inj e2
  rw [← e1] at e3
  have s1 : List.Sublist ((ws.take (i + 1))) (ws.take j) := by
    have : ws.take (i + 1) = (ws.take j).take (i + 1) := by rw [List.take_take]; congr 1; omega
    rw [this]
    exact List.take_sublist _ _
  have c1 := s1.count_le ws[i]
  rw [List.take_add_one, ei, List.count_append] at c1
  have : List.count ws[i] (some ws[i]).toList = 1 := by simp
  omega
def pos (B : List IP) (x : IP) : Option Nat := if x ∈ B then some (B.idxOf x) else none
theorem pos_snoc {B : List IP} {b : IP} (hb : b ∉ B) (x : IP) : pos (B ++ [b]) x = if x = b then some B.length else pos B x := by
  unfold pos
  by_cases e : x = b
  · subst e
    rw [if_pos rfl, if_pos (by simp), List.idxOf_append, if_neg hb]
    simp
  · rw [if_neg e]
    by_cases m : x ∈ B
    · rw [if_pos m, if_pos (by simp [m]), List.idxOf_append, if_pos m]
    · rw [if_neg m, if_neg (by simp [m, e])]
theorem pos_take {B : List IP} (hB : B.Nodup) {i : Nat} {b : IP} (h : B[i]? = some b) (x : IP) : pos (B.take (i + 1)) x = if x = b then some i else pos (B.take i) x := by
  have hi : i < B.length := (List.getElem?_eq_some_iff.mp h).1
  have hb : b ∉ B.take i := by
    intro hm
    obtain ⟨j, hj⟩ := List.mem_iff_getElem?.mp hm
    have hji : j < i := by
      have := (List.getElem?_eq_some_iff.mp hj).1
      rw [List.length_take] at this
      omega
    rw [List.getElem?_take_of_lt hji] at hj
    exact (nodup_get.mp hB) j i hji hi (hj.trans h.symm)
  have e : B.take (i + 1) = B.take i ++ [b] := by rw [List.take_add_one, h]; rfl
  have := pos_snoc hb x
  rw [← e, List.length_take, Nat.min_eq_left (Nat.le_of_lt hi)] at this
  exact this
theorem pos_lt {B : List IP} {x : IP} {i : Nat} (h : pos B x = some i) : i < B.length ∧ B[i]? = some x := by
  unfold pos at h
  split at h
  · rename_i m
    cases h
    have hl := List.idxOf_lt_length_of_mem m
    exact ⟨hl, by rw [List.getElem?_eq_getElem hl, List.getElem_idxOf hl]⟩
  · cases h
/-- the key of an ident in a dict -/
def kk (x : IP) : List Key := [.inl x.1, .inl x.2]
theorem kk_inj {x y : IP} (h : kk x = kk y) : x = y := by
  have h' : [(Sum.inl x.1 : Key), .inl x.2] = [.inl y.1, .inl y.2] := h
  injection h' with h1 h2
  injection h2 with h2 _
  exact Prod.ext (Sum.inl.inj h1) (Sum.inl.inj h2)
/-- what a dict tells of idents -/
def Tells (kvs : List (List Key × V)) (B : List IP) : Prop := ∀ x, valV kvs (kk x) = (pos B x).map fun (i : Nat) => V.int (i : Int)
theorem tells_nil : Tells [] [] := fun x => by
  unfold pos
  rw [if_neg (by simp)]
  rfl
theorem tells_put {kvs : List (List Key × V)} {B : List IP} (hB : B.Nodup) {i : Nat} {b : IP} (h : B[i]? = some b) (t : Tells kvs (B.take i)) : Tells (putK kvs (kk b) (.int (i : Nat))) (B.take (i + 1)) := fun x => by
  rw [valV_put, pos_take hB h]
  by_cases e : x = b
  · subst e
    rw [if_pos rfl, if_pos rfl]
    rfl
  · rw [if_neg (fun z => e (kk_inj z)), if_neg e]
    exact t x
def mst (B : List IP) (x : IP) (j : Nat) : List IP := match pos B x with
  | some i => [((i : Int), (j : Int))]
  | none => []
def mt (B N : List IP) : List IP := (N.mapIdx fun j x => mst B x j).flatten
theorem mt_step (B : List IP) {N : List IP} {j : Nat} {x : IP} (h : N[j]? = some x) : mt B (N.take (j + 1)) = mt B (N.take j) ++ mst B x j := by
  have hj : j < N.length := (List.getElem?_eq_some_iff.mp h).1
  unfold mt
  rw [List.take_add_one, h]
  show (List.mapIdx _ (List.take j N ++ [x])).flatten = _
  rw [List.mapIdx_append, List.flatten_append]
  congr 1
  rw [List.length_take, Nat.min_eq_left (Nat.le_of_lt hj)]
  show [mst B x (0 + j)].flatten = _
  rw [Nat.zero_add]
  simp
theorem mst_take {B : List IP} (hB : B.Nodup) {i : Nat} {b : IP} (h : B[i]? = some b) (x : IP) (j : Nat) : mst (B.take (i + 1)) x j = mst (B.take i) x j ++ if b = x then [((i : Int), (j : Int))] else [] := by
  have hn : b = x → pos (B.take i) x = none := fun e => by
    subst e
    unfold pos
    rw [if_neg]
    intro hm
    obtain ⟨k, hk⟩ := List.mem_iff_getElem?.mp hm
    have hji : k < i := by
      have := (List.getElem?_eq_some_iff.mp hk).1
      rw [List.length_take] at this
      omega
    rw [List.getElem?_take_of_lt hji] at hk
    exact (nodup_get.mp hB) k i hji (List.getElem?_eq_some_iff.mp h).1 (hk.trans h.symm)
  unfold mst
  rw [pos_take hB h]
  by_cases e : x = b
  · rw [if_pos e, hn e.symm, if_pos e.symm]
    rfl
  · rw [if_neg e, if_neg (fun z => e z.symm), List.append_nil]
theorem mst_nil (x : IP) (j : Nat) : mst [] x j = [] := by
  unfold mst pos
  rw [if_neg (by simp)]
theorem mst_mem {B : List IP} {x : IP} {j : Nat} {p : IP} (h : p ∈ mst B x j) : ∃ i, i < B.length ∧ p = ((i : Int), (j : Int)) := by
  unfold mst at h
  split at h
  · rename_i i e
    exact ⟨i, (pos_lt e).1, List.mem_singleton.mp h⟩
  · exact nomatch h
theorem mt_mem {B N : List IP} {p : IP} (h : p ∈ mt B N) : ∃ i j : Nat, i < B.length ∧ j < N.length ∧ p = ((i : Int), (j : Int)) := by
  unfold mt at h
  obtain ⟨l, hl, hp⟩ := List.mem_flatten.mp h
  obtain ⟨j, hj, rfl⟩ := List.mem_mapIdx.mp hl
  obtain ⟨i, hi, e⟩ := mst_mem hp
  exact ⟨i, j, hi, hj, e⟩
theorem mst_len (B : List IP) (x : IP) (j : Nat) : (mst B x j).length ≤ 1 := by
  unfold mst
  split <;> simp
theorem mt_len (B N : List IP) : (mt B N).length ≤ N.length := by
  suffices h : ∀ n, n ≤ N.length → (mt B (N.take n)).length ≤ n by
    have := h N.length (Nat.le_refl _)
    rw [List.take_length] at this
    exact this
  intro n
  induction n with
  | zero => intro _; simp [mt]
  | succ n ih =>
    intro h
    rw [mt_step B (List.getElem?_eq_getElem (by omega : n < N.length)), List.length_append]
    have := ih (by omega)
    have := mst_len B N[n] n
    omega
/-- slips -/
def atI0 (l : List Int) (i : Int) : Int := l.getD i.toNat 0
theorem atI0_nat {l : List Int} {i : Nat} {x : Int} (h : l[i]? = some x) : atI0 l (i : Int) = x := by
  unfold atI0
  rw [Int.toNat_natCast, List.getD_eq_getElem?_getD, h]
  rfl
def sst (o n : List Int) (p : IP) : List IP := if atI0 o p.1 = atI0 n p.2 then [] else [(atI0 o p.1, atI0 n p.2)]
def slp (o n : List Int) (ms : List IP) : List IP := (ms.map (sst o n)).flatten
theorem slp_step (o n : List Int) {ms : List IP} {j : Nat} {p : IP} (h : ms[j]? = some p) : slp o n (ms.take (j + 1)) = slp o n (ms.take j) ++ sst o n p := by
  unfold slp
  rw [List.take_add_one, h, List.map_append, List.flatten_append]
  simp
theorem slp_len (o n : List Int) : ∀ ms : List IP, (slp o n ms).length ≤ ms.length
  | [] => Nat.le_refl _
  | p :: r => by
    have h1 := slp_len o n r
    have h2 : (sst o n p).length ≤ 1 := by unfold sst; split <;> simp
    show ((sst o n p) ++ slp o n r).length ≤ r.length + 1
    rw [List.length_append]
    omega
/-- lost items -/
def lst1 (o : List Int) (ms : List IP) (x : Int) (j : Nat) : List Int := if x ∈ o ∧ (((o.idxOf x : Nat) : Int), (j : Int)) ∉ ms then [x] else []
def lsts (o n : List Int) (ms : List IP) : List Int := (n.mapIdx fun j x => lst1 o ms x j).flatten
theorem lsts_step (o : List Int) (ms : List IP) {n : List Int} {j : Nat} {x : Int} (h : n[j]? = some x) : lsts o (n.take (j + 1)) ms = lsts o (n.take j) ms ++ lst1 o ms x j := by
  have hj : j < n.length := (List.getElem?_eq_some_iff.mp h).1
  unfold lsts
  rw [List.take_add_one, h]
  show (List.mapIdx _ (List.take j n ++ [x])).flatten = _
  rw [List.mapIdx_append, List.flatten_append]
  congr 1
  rw [List.length_take, Nat.min_eq_left (Nat.le_of_lt hj)]
  show [lst1 o ms x (0 + j)].flatten = _
  rw [Nat.zero_add]
  simp
theorem lsts_len (o n : List Int) (ms : List IP) : (lsts o n ms).length ≤ n.length := by
  suffices h : ∀ k, k ≤ n.length → (lsts o (n.take k) ms).length ≤ k by
    have := h n.length (Nat.le_refl _)
    rw [List.take_length] at this
    exact this
  intro k
  induction k with
  | zero => intro _; simp [lsts]
  | succ k ih =>
    intro h
    rw [lsts_step o ms (List.getElem?_eq_getElem (by omega : k < n.length)), List.length_append]
    have := ih (by omega)
    have : (lst1 o ms n[k] k).length ≤ 1 := by unfold lst1; split <;> simp
    omega
/-- deep facts of pairs -/
theorem pD_lay (p : IP) : (pD p).canLay0 = true := by simp [pD, PyData.canLay0, PyData.canLayAll0]
theorem pD_depth (p : IP) : (pD p).depth = 1 := by simp [pD, PyData.depth, PyData.depthAll]
theorem pDs_lay : ∀ ps : List IP, PyData.canLayAll0 (ps.map pD) = true
  | [] => rfl
  | p :: r => by simp [PyData.canLayAll0, pD_lay p, pDs_lay r]
theorem pDs_depth : ∀ ps : List IP, PyData.depthAll (ps.map pD) ≤ 1
  | [] => Nat.zero_le _
  | p :: r => by
    have := pDs_depth r
    simp only [List.map_cons, PyData.depthAll, pD_depth p]
    omega
theorem pD_shaped (p : IP) : SeqAt.shaped (pD p) = true := by
  refine Bool.and_eq_true_iff.mpr ⟨pD_lay p, decide_eq_true ?_⟩
  rw [pD_depth]
  decide
theorem pDs_shapedL (ps : List IP) : SeqAt.shaped (.list (ps.map pD)) = true := by
  refine Bool.and_eq_true_iff.mpr ⟨by simp [PyData.canLay0, pDs_lay ps], decide_eq_true ?_⟩
  have := pDs_depth ps
  simp only [PyData.depth]
  omega
theorem pDs_shapedT (ps : List IP) : SeqAt.shaped (.tuple (ps.map pD)) = true := by
  refine Bool.and_eq_true_iff.mpr ⟨by simp [PyData.canLay0, pDs_lay ps], decide_eq_true ?_⟩
  have := pDs_depth ps
  simp only [PyData.depth]
  omega
theorem pD_eqv (p q : IP) : PyData.eqv (pD p) (pD q) = decide (p = q) := by
  simp only [pD, PyData.eqv, PyData.eqvAll, Bool.and_true]
  rw [Bool.eq_iff_iff]
  simp only [Bool.and_eq_true, decide_eq_true_iff, beq_iff_eq, Prod.ext_iff]
theorem pD_any (ps : List IP) (p : IP) : ((ps.map pD).any fun z => PyData.eqv z (pD p)) = decide (p ∈ ps) := by
  rw [List.any_map, Bool.eq_iff_iff, List.any_eq_true, decide_eq_true_iff]
  constructor
  · rintro ⟨x, hx, e⟩
    have e' : PyData.eqv (pD x) (pD p) = true := e
    rw [pD_eqv, decide_eq_true_iff] at e'
    rw [← e']
    exact hx
  · intro h
    exact ⟨p, h, by show PyData.eqv (pD p) (pD p) = true; rw [pD_eqv]; exact decide_eq_true rfl⟩
end D
namespace D
open PySem PySem.Spec PyProof.Rows L2
/-! ### a list of data that grows beside -/
def Acc (M : Ms) (H : Hp) (D : Addr) (H' : Hp) (ys : List PyData) : Prop := H D = none ∧ Same H H' ∧ ∃ acc, H' D = some (.lst acc) ∧ RpAll (also M D) H' acc ys
theorem Acc.new {M : Ms} {H : Hp} {D : Addr} (hD : H D = none) : Acc M H D (upd H D (.lst [])) [] := ⟨hD, same_new hD, [], upd_same, .nil⟩
theorem Acc.keep {M : Ms} {H H1 H2 : Hp} {D : Addr} {ys : List PyData} (h : Acc M H D H1 ys) (s : Same H1 H2) : Acc M H D H2 ys := by
  obtain ⟨hD, s0, acc, e, r⟩ := h
  exact ⟨hD, s0.trans s, acc, s _ _ e, r.sx (Sx.same s)⟩
theorem Acc.same {M : Ms} {H H1 : Hp} {D : Addr} {ys : List PyData} (h : Acc M H D H1 ys) : Same H H1 := h.2.1
theorem Acc.at {M : Ms} {H H1 : Hp} {D : Addr} {ys : List PyData} (h : Acc M H D H1 ys) : ∃ acc, H1 D = some (.lst acc) ∧ acc.length = ys.length := by
  obtain ⟨hD, s0, acc, e, r⟩ := h
  exact ⟨acc, e, r.length⟩
theorem Acc.put {M : Ms} {H H1 : Hp} {D : Addr} {ys : List PyData} {v : V} {y : PyData} (h : Acc M H D H1 ys) (r : Rp (also M D) H1 v y) (hl : ys.length ≤ 1000000) : ∃ acc, H1 D = some (.lst acc) ∧ acc.length < sizeLine ∧ Acc M H D (upd H1 D (.lst (acc ++ [v]))) (ys ++ [y]) := by
  obtain ⟨hD, s0, acc, e, ra⟩ := h
  refine ⟨acc, e, small1000000 (by rw [ra.length]; exact hl), hD, same_put s0 hD, acc ++ [v], upd_same, ?_⟩
  exact (ra.append (.one r)).sx (Sx.put (.inr rfl))
theorem Acc.mk {M : Ms} {H H1 : Hp} {D : Addr} {ys : List PyData} (h : Acc M H D H1 ys) (hM : Mk M H) : Mk (also M D) H1 := by
  obtain ⟨hD, s0, acc, e, r⟩ := h
  exact (hM.gr (Gr.same s0)).also (ne_none e)
theorem Acc.fin {M : Ms} {H H1 : Hp} {D : Addr} {ys : List PyData} (h : Acc M H D H1 ys) (hM : Mk M H) : Ld M H1 D ys := by
  obtain ⟨hD, s0, acc, e, r⟩ := h
  exact ⟨hM.out hD, acc, e, r.less also_le⟩
theorem Acc.rp {M : Ms} {H H1 : Hp} {D : Addr} {ys : List PyData} (h : Acc M H D H1 ys) (hM : Mk M H) : Rp M H1 (.ref D) (.list ys) := (h.fin hM).rp
/-- what stood ahead is read in the same way beside the list -/
theorem Acc.old {M : Ms} {H H1 : Hp} {D : Addr} {ys : List PyData} {v : V} {d : PyData} (h : Acc M H D H1 ys) (r : Rp M H v d) : Rp (also M D) H1 v d := (r.fresh h.1).sx (Sx.same h.2.1)
theorem Acc.oldM {M : Ms} {H H1 : Hp} {D : Addr} {ys : List PyData} {v : V} {d : PyData} (h : Acc M H D H1 ys) (r : Rp M H v d) : Rp M H1 v d := r.sx (Sx.same h.2.1)
end D
namespace D
open PySem PySem.Spec PyProof.Rows L2
theorem Rp.newT {M : Ms} {H : Hp} {p : Addr} {us : List V} {ds : List PyData} (hM : Mk M H) (hp : H p = none) (r : RpAll M H us ds) : Rp M (upd H p (.tup us)) (.ref p) (.tuple ds) := .tup (hM.out hp) (.inl upd_same) (r.sx (Sx.new hp))
theorem Rp.newL {M : Ms} {H : Hp} {p : Addr} {us : List V} {ds : List PyData} (hM : Mk M H) (hp : H p = none) (r : RpAll M H us ds) : Rp M (upd H p (.lst us)) (.ref p) (.list ds) := .lst (hM.out hp) (.inl upd_same) (r.sx (Sx.new hp))
theorem Mk.new {M : Ms} {H : Hp} {p : Addr} {o : HO} (hM : Mk M H) : Mk M (upd H p o) := hM.gr Gr.upd
def unI : PyData → Int
  | .int i => i
  | _ => 0
theorem perm_ints {es : List PyData} {l : List Int} (h : es.Perm (l.map PyData.int)) : ∃ ns : List Int, ns.Perm l ∧ es = ns.map PyData.int := by
  refine ⟨es.map unI, ?_, ?_⟩
  · have h1 := h.map unI
    rw [List.map_map] at h1
    have e : l.map (unI ∘ PyData.int) = l := by
      have : (unI ∘ PyData.int) = id := rfl
      rw [this, List.map_id]
    rw [e] at h1
    exact h1
  · rw [List.map_map]
    have e : ∀ x ∈ es, (PyData.int ∘ unI) x = x := fun x hx => by
      obtain ⟨i, _, rfl⟩ := List.mem_map.mp (h.mem_iff.mp hx)
      rfl
    exact (List.map_id es).symm.trans (List.map_congr_left fun x hx => (e x hx).symm)
def ten : List Int := [0, 1, 2, 3, 4, 5, 6, 7, 8, 9]
theorem ten_take (n : Nat) : (ten.take n).Nodup ∧ ∀ x ∈ ten.take n, 0 ≤ x ∧ x ≤ 9 :=
  ⟨(show ten.Nodup by decide).sublist (List.take_sublist n ten), fun x hx => (show ∀ x ∈ ten, 0 ≤ x ∧ x ≤ 9 by decide) x (List.mem_of_mem_take hx)⟩
def mxd (m : Nat) (s : Fm) : Nat := max m s.dep
theorem FmAt.two {M : Ms} {H : Hp} {f : Fm} {xs : List V} (h : FmAt M H f xs) : (∃ y z, xs = [.str y, z] ∧ (y = sIs ∨ y = sGet) ∧ f.dep = 1) ∨ ∃ y r, xs = .str y :: r ∧ r ≠ [] ∧ y ≠ sIs ∧ y ≠ sGet ∧ RpAll M H r (f.subs.map Fm.enc) ∧ f.dep = f.subs.foldl mxd 0 + 1 := by
  cases h with
  | is n => exact .inl ⟨_, _, rfl, .inl rfl, rfl⟩
  | get x => exact .inl ⟨_, _, rfl, .inr rfl, rfl⟩
  | @sum f g u w a b =>
    refine .inr ⟨_, _, rfl, by simp, by decide +kernel, by decide +kernel, .cons a (.one b), ?_⟩
    show max f.dep g.dep + 1 = max (max 0 f.dep) g.dep + 1
    omega
  | @same f g u w a b =>
    refine .inr ⟨_, _, rfl, by simp, by decide +kernel, by decide +kernel, .cons a (.one b), ?_⟩
    show max f.dep g.dep + 1 = max (max 0 f.dep) g.dep + 1
    omega
  | @pick f g k u w z a b c =>
    refine .inr ⟨_, _, rfl, by simp, by decide +kernel, by decide +kernel, .cons a (.cons b (.one c)), ?_⟩
    show max f.dep (max g.dep k.dep) + 1 = max (max (max 0 f.dep) g.dep) k.dep + 1
    omega
theorem ints_mem {l : List Int} (h : ∀ n ∈ l, 0 ≤ n ∧ n ≤ 9) {v : V} (hv : v ∈ l.map V.int) : ∃ n, v = .int n ∧ 0 ≤ n ∧ n ≤ 9 := by
  obtain ⟨n, hn, rfl⟩ := List.mem_map.mp hv
  exact ⟨n, rfl, h n hn⟩
/-- a draw of a row -/
def DrR (K : PySem.W.Frag) (M : Ms) (b : Addr) (H : Hp) (R : List Int → Prop) (Q : VK) : Prop := ∀ v H' ns, Sx (one b) H H' → Gr H H' → Bag K M H' b → RowF M H' v ns → R ns → Q v H'
end D

namespace D
open PySem PySem.Spec PyProof.Rows L2
/-! ### rows that a key mixes up -/
theorem flat_ne {α β : Type} (f : α → List β) (l : List α) : (l.map f).flatten ≠ [] ↔ ∃ x ∈ l, f x ≠ [] := by
  induction l with
  | nil => simp
  | cons a r ih =>
    rw [List.map_cons, List.flatten_cons]
    constructor
    · intro h
      by_cases c : f a = []
      · rw [c, List.nil_append] at h
        obtain ⟨x, hx, e⟩ := ih.mp h
        exact ⟨x, List.mem_cons_of_mem _ hx, e⟩
      · exact ⟨a, List.mem_cons_self, c⟩
    · rintro ⟨x, hx, e⟩ z
      obtain ⟨z1, z2⟩ := List.append_eq_nil_iff.mp z
      rcases List.mem_cons.mp hx with rfl | hx
      · exact e z1
      · exact ih.mpr ⟨x, hx, e⟩ z2
theorem flat_ne_idx {α β : Type} (f : Nat → α → List β) (l : List α) : (l.mapIdx f).flatten ≠ [] ↔ ∃ (j : Nat) (x : α), l[j]? = some x ∧ f j x ≠ [] := by
  have h := flat_ne (fun y => y) (l.mapIdx f)
  rw [List.map_id'] at h
  rw [h]
  constructor
  · rintro ⟨y, hy, e⟩
    obtain ⟨j, hj⟩ := List.mem_iff_getElem?.mp hy
    rw [List.getElem?_mapIdx] at hj
    obtain ⟨x, hx, rfl⟩ := Option.map_eq_some_iff.mp hj
    exact ⟨j, x, hx, e⟩
  · rintro ⟨j, x, hx, e⟩
    exact ⟨f j x, List.mem_iff_getElem?.mpr ⟨j, by rw [List.getElem?_mapIdx, hx]; rfl⟩, e⟩
theorem pos_of {B : List IP} (hB : B.Nodup) {i : Nat} {x : IP} (h : B[i]? = some x) : pos B x = some i := by
  have hm : x ∈ B := List.mem_of_getElem? h
  have hi := (List.getElem?_eq_some_iff.mp h).1
  have h2 := List.idxOf_lt_length_of_mem hm
  have e2 : B[B.idxOf x]? = some x := by rw [List.getElem?_eq_getElem h2, List.getElem_idxOf h2]
  unfold pos
  rw [if_pos hm]
  rcases Nat.lt_trichotomy (B.idxOf x) i with c | c | c
  · exact absurd (e2.trans h.symm) (nodup_get.mp hB _ _ c hi)
  · rw [c]
  · exact absurd (h.trans e2.symm) (nodup_get.mp hB _ _ c h2)
theorem mem_mt {B N : List IP} (hB : B.Nodup) (i j : Nat) : ((i : Int), (j : Int)) ∈ mt B N ↔ ∃ x, B[i]? = some x ∧ N[j]? = some x := by
  constructor
  · intro h
    unfold mt at h
    obtain ⟨l, hl, hp⟩ := List.mem_flatten.mp h
    obtain ⟨k, hk, rfl⟩ := List.mem_mapIdx.mp hl
    unfold mst at hp
    cases e : pos B N[k] with
    | none => rw [e] at hp; exact nomatch hp
    | some m =>
      rw [e] at hp
      have hp' := List.mem_singleton.mp hp
      injection hp' with h1 h2
      have h1' : i = m := Int.ofNat.inj h1
      have h2' : j = k := Int.ofNat.inj h2
      subst h1' h2'
      exact ⟨_, (pos_lt e).2, List.getElem?_eq_getElem hk⟩
  · rintro ⟨x, h1, h2⟩
    unfold mt
    refine List.mem_flatten.mpr ⟨mst B x j, List.mem_iff_getElem?.mpr ⟨j, by rw [List.getElem?_mapIdx, h2]; rfl⟩, ?_⟩
    unfold mst
    rw [pos_of hB h1]
    exact List.mem_singleton.mpr rfl
def badB (o n : List Int) (B N : List IP) : Bool := !(slp o n (mt B N)).isEmpty || !(lsts o n (mt B N)).isEmpty
theorem idx_of {n : List Int} (h : n.Nodup) {i : Nat} {x : Int} (e : n[i]? = some x) : n.idxOf x = i := by
  have hi := (List.getElem?_eq_some_iff.mp e).1
  have hx : x ∈ n := List.mem_of_getElem? e
  have h2 := List.idxOf_lt_length_of_mem hx
  have e2 : n[n.idxOf x]? = some x := by rw [List.getElem?_eq_getElem h2, List.getElem_idxOf h2]
  rcases Nat.lt_trichotomy (n.idxOf x) i with c | c | c
  · exact absurd (e2.trans e.symm) (nodup_get.mp h _ _ c hi)
  · exact c
  · exact absurd (e.trans e2.symm) (nodup_get.mp h _ _ c h2)
theorem bad_iff {o n : List Int} {B N : List IP} (ho : o.Nodup) (hB : B.Nodup) (lB : B.length = o.length) (lN : N.length = n.length) :
    badB o n B N = true ↔ ∃ (i j : Nat) (x y : Int) (u v : IP), o[i]? = some x ∧ n[j]? = some y ∧ B[i]? = some u ∧ N[j]? = some v ∧ decide (u = v) ≠ decide (x = y) := by
  have e1 : badB o n B N = true ↔ (slp o n (mt B N) ≠ [] ∨ lsts o n (mt B N) ≠ []) := by
    unfold badB
    rw [Bool.or_eq_true]
    constructor
    · rintro (h | h)
      · left; intro z; rw [z] at h; exact nomatch h
      · right; intro z; rw [z] at h; exact nomatch h
    · rintro (h | h)
      · left; cases e : slp o n (mt B N) with
        | nil => exact absurd e h
        | cons a r => rfl
      · right; cases e : lsts o n (mt B N) with
        | nil => exact absurd e h
        | cons a r => rfl
  rw [e1]
  have at_ : ∀ {i : Nat}, i < o.length → ∃ u, B[i]? = some u := fun {i} h => ⟨B[i]'(by omega), List.getElem?_eq_getElem _⟩
  constructor
  · rintro (h | h)
    · obtain ⟨p, hp, e⟩ := (flat_ne (sst o n) (mt B N)).mp h
      obtain ⟨i, j, hi, hj, rfl⟩ := mt_mem hp
      obtain ⟨w, h1, h2⟩ := (mem_mt hB i j).mp hp
      have x1 : o[i]? = some (o[i]'(by omega)) := List.getElem?_eq_getElem _
      have x2 : n[j]? = some (n[j]'(by omega)) := List.getElem?_eq_getElem _
      refine ⟨i, j, _, _, w, w, x1, x2, h1, h2, ?_⟩
      rw [decide_eq_true rfl]
      intro z
      have z' := of_decide_eq_true z.symm
      apply e
      unfold sst
      rw [atI0_nat x1, atI0_nat x2, if_pos z']
    · obtain ⟨j, x, hx, e⟩ := (flat_ne_idx (fun j x => lst1 o (mt B N) x j) n).mp h
      have hc : x ∈ o ∧ (((o.idxOf x : Nat) : Int), (j : Int)) ∉ mt B N := by
        by_cases c : x ∈ o ∧ (((o.idxOf x : Nat) : Int), (j : Int)) ∉ mt B N
        · exact c
        · exact absurd (if_neg c) e
      have hix := List.idxOf_lt_length_of_mem hc.1
      have hj := (List.getElem?_eq_some_iff.mp hx).1
      obtain ⟨u, hu⟩ := at_ hix
      have hv : N[j]? = some (N[j]'(by omega)) := List.getElem?_eq_getElem _
      refine ⟨o.idxOf x, j, x, x, u, _, by rw [List.getElem?_eq_getElem hix, List.getElem_idxOf hix], hx, hu, hv, ?_⟩
      rw [decide_eq_true (show x = x from rfl)]
      intro z
      have z' := of_decide_eq_true z
      exact hc.2 ((mem_mt hB _ j).mpr ⟨u, hu, by rw [hv, z']⟩)
  · rintro ⟨i, j, x, y, u, v, hx, hy, hu, hv, hne⟩
    by_cases c : u = v
    · left
      subst c
      have hp : ((i : Int), (j : Int)) ∈ mt B N := (mem_mt hB i j).mpr ⟨u, hu, hv⟩
      refine (flat_ne (sst o n) (mt B N)).mpr ⟨_, hp, ?_⟩
      unfold sst
      rw [atI0_nat hx, atI0_nat hy, if_neg]
      · simp
      · intro z
        apply hne
        rw [decide_eq_true rfl, decide_eq_true z]
    · have xy : x = y := by
        by_cases z : x = y
        · exact z
        · exact absurd (by rw [decide_eq_false c, decide_eq_false z]) hne
      subst xy
      right
      refine (flat_ne_idx (fun j x => lst1 o (mt B N) x j) n).mpr ⟨j, x, hy, ?_⟩
      have hm : x ∈ o := List.mem_of_getElem? hx
      show lst1 o (mt B N) x j ≠ []
      unfold lst1
      rw [if_pos]
      · simp
      · refine ⟨hm, fun z => ?_⟩
        rw [idx_of ho hx] at z
        obtain ⟨w, h1, h2⟩ := (mem_mt hB i j).mp z
        exact c ((Option.some.inj (hu.symm.trans h1)).trans (Option.some.inj (h2.symm.trans hv)))
end D

namespace D
open PySem PySem.Spec PyProof.Rows L2
section
variable {X : Cx} {C g : Addr} {n : Nat} {CX : CXT} {sp : Sp} {E : XK} {fd : FuncData} {ps : List Str}
theorem room_in1 {A : Around} (r : Room (n + 1) A) : Room n A.in1 := ⟨r.hd, by have := r.dp; show A.depth + 3 * n + 5 < _; omega, by have := r.un; show A.units + 1 + 16 * n + 200 < _; omega⟩
/-- a def is run one step in -/
theorem run_in1 {pins : List (Addr × Obj)} {σ : L2.St} {H : Hp} {s : Shared} {Q : VK} {us : List Value} {vs : List V} (F : FnOk X.prog X.w X.K X.mg X.base CX n g fd ps sp) (hr : Room (n + 1) X.A) (hb : Binds X.K fd ps []) (hx : Passes CX X E)
    (I : Inv X pins σ H s) (r : Vals vs us) (h : sp vs H Q E) : wpAny (model X.prog X.w) X.A.in1 (call (.ref g) us) (EP X pins σ Q) X.xe s := by
  have hl : (us ++ []).length = ps.length := by rw [List.append_nil, ← r.length]; exact F.len _ _ _ _ h
  have bd := hb s us I.kIn hl
  rw [List.append_nil] at bd
  refine wpAny_call (codeAny_mono (F.run X.A.in1 X.stack s H ⟨us, []⟩ us vs Q E (room_in1 hr) I.env0.in1 bd r h) fun r s' hq => ?_)
  match r, hq with
  | .error e, hq => exact hx pins σ H s e s' I hq
  | .ok (.ret u), hq => exact I.after hq
  | .ok .next, hq => exact False.elim hq
  | .ok .brk, hq => exact False.elim hq
  | .ok .cont, hq => exact False.elim hq
/-- what an instance's own subscript reads: the def at g answers for the instance and the index -/
def tOwnIx (C : Addr) (sp : Sp) (E : XK) (to ti : TE) : TE := fun σ H Q => to σ H fun x H1 => ti σ H1 fun y H2 => ∃ a dx fs, x = .ref a ∧ H2 a = some (.ins C dx fs) ∧ sp [x, y] H2 Q E
theorem pe_ownIx {o i : Expr} {to ti : TE} {pos : Pos} (ho : PE X o to) (hi : PE X i ti) (hs : PySem.W.findIn X.K (.ref C) "__getitem__" = some (some (.ref g))) (hf : PySem.W.fnIn X.K g = true) (hg : PySem.W.isFn X.K (.ref g) = true)
    (F : FnOk X.prog X.w X.K X.mg X.base CX n g fd ps sp) (hb : Binds X.K fd ps []) (hr : Room (n + 1) X.A) (hx : Passes CX X E)
    (hsl : ∀ ov iv, subscripted i true ov iv = runValue (.builtin "lifetime.subscript" ⟨[ov, iv], []⟩)) : PE X (.Subscript o i pos) (tOwnIx C sp E to ti) := by
  refine ⟨fun pins s σ H Q I h => ?_⟩
  refine Subscript_ (thn (ho.run pins s σ H _ I h) fun ov s1 ⟨x, H1, I1, rx, q1⟩ => thn (hi.run pins s1 σ H1 _ I1 q1) fun iv s2 ⟨y, H2, I2, ry, a, dx, fs, ex, ha, q⟩ => ?_)
  subst ex
  obtain rfl : ov = Value.ref a := rx
  obtain ⟨mA, O, _⟩ := ins_get I2.hok ha
  obtain ⟨od, J, _⟩ := O.look
  obtain ⟨m, hF⟩ := I2.fr
  exact PySem.W.sub_K hF I2.ok.mod.kin J hs hf hg (run_in1 (us := [.ref a, iv]) (vs := [.ref a, y]) F hr hb hx I2 (.cons rfl (.cons ry .nil)) q) (hsl _ _)
/-- the store into an instance by its own def -/
theorem wp_ownPut {prog : Program} {w : World} {A : Around} {Ex : Value → Shared → Prop} {s : Shared} {K : PySem.W.Frag} {x C f : Addr} {ox : Obj} {od : Option Obj} {i v : Value} {Q : Unit → Shared → Prop} (hK : K.In s.heap) (J : PySem.W.InstAt s.heap x ox C od)
    (hq : PySem.W.noSeq K C = true) (hs : PySem.W.findIn K (.ref C) "__setitem__" = some (some (.ref f))) (hf : PySem.W.isFn K (.ref f) = true)
    (h : wpAny (model prog w) A (call (.ref f) [.ref x, i, v]) (fun _ => Q ()) Ex s) : wpAny (model prog w) A (setItem (.ref x) i v) Q Ex s := by
  unfold setItem sequenceKey
  have called : wpAny (model prog w) A (callSpecial? (.ref x) "__setitem__" [i, v]) (fun r => match r with | some _ => Q () | none => fun _ => False) Ex s :=
    PySem.W.special_fn hK J hs (beq_iff_eq.mp hf) h
  refine wpAny_holding (wpAny_bind (wpAny_bind (J.type.here (wpAny_bind ((PySem.W.anyM_none hK hq).here ?_)))))
  rw [if_pos (by rfl : (!false) = true)]
  refine wpAny_pure (wpAny_bind (wpAny_mono called (fun r s' z => ?_) fun _ _ z => z))
  match r, z with
  | some _, z => exact wpAny_pure z
/-- x[i] = v, an own def's store -/
def sOwnPut (C : Addr) (sp : Sp) (E : XK) (to ti tv : TE) : TS := fun D σ H => tv σ H fun v H1 => to σ H1 fun x H2 => ti σ H2 fun y H3 => ∃ a dx fs, x = .ref a ∧ H3 a = some (.ins C dx fs) ∧ sp [x, y, v] H3 (fun _ H4 => D.nx σ H4) E
theorem ps_ownPut {o i value : Expr} {pos pos' : Pos} {to ti tv : TE} (ho : PE X o to) (hi : PE X i ti) (hv : PE X value tv) (hq : PySem.W.noSeq X.K C = true) (hs : PySem.W.findIn X.K (.ref C) "__setitem__" = some (some (.ref g))) (hf : PySem.W.isFn X.K (.ref g) = true)
    (F : FnOk X.prog X.w X.K X.mg X.base CX n g fd ps sp) (hb : Binds X.K fd ps []) (hr : Room (n + 1) X.A) (hx : Passes CX X E) (sw : swapsWith value (some (.Subscript o i pos')) pos.line X.env = pure false) :
    PS X (.Assign [.Subscript o i pos'] value pos) (sOwnPut C sp E to ti tv) := by
  refine ⟨fun pins s σ H D I h => ?_⟩
  refine wpAny_Assign_Subscript (thn (hv.run pins s σ H _ I h) fun r s1 ⟨v, H1, I1, rv, q1⟩ => thn (ho.run pins s1 σ H1 _ I1 q1) fun u s2 ⟨x, H2, I2, rx, q2⟩ => thn (hi.run pins s2 σ H2 _ I2 q2) fun iv s3 ⟨y, H3, I3, ry, a, dx, fs, ex, ha, q⟩ => ?_) sw
  subst ex
  obtain rfl : u = Value.ref a := rx
  obtain ⟨mA, O, _⟩ := ins_get I3.hok ha
  obtain ⟨od, J, _⟩ := O.look
  refine wp_ownPut I3.kIn J hq hs hf (wpAny_mono (run_fn (us := [.ref a, iv, r]) (vs := [.ref a, y, v]) F (hr.mono (Nat.le_succ n)) hb .nil hx I3 (.cons rfl (.cons ry (.cons rv .nil))) q) (fun w s' z => ?_) fun _ _ z => z)
  obtain ⟨z', H', I', _, qz⟩ := z
  exact ⟨σ, H', I', qz⟩
theorem pi_zipAK {K : PySem.W.Frag} {e e2 : Expr} {ta : TA} {p pos tpos : Pos} {elts : List Expr} {kk : Nat} (hK : X.K = K) (hg : Gl X "zip") (hm : X.mg "zip" = none) (ha : PA X [e, e2] ta)
    (hs : starEach [e, e2] X.env = (false, eval e X.env) :: starEach [e2] X.env := by rfl) (hpl : (backTo pos (starEach [e2] X.env)).any (·.1) = false := by rfl) :
    PI X (.Tuple elts kk tpos) (.Call (.Name "zip" p) [e, e2] [] pos) (RZ.iZipA K ta) := by subst hK; exact RZ.pi_zipA hg hm ha hs hpl
end
/-- the loop over two tuples side by side, whatever its body -/
theorem zipT_loop {K : PySem.W.Frag} {a b : Addr} {xs ys : List V} {Qd : Hp → Prop} {H0 : Hp} {B : V → Hp → (Hp → Prop) → Prop} (he : xs.length = ys.length) (Pv : Nat → Hp → Prop) (h0 : Pv 0 H0) (hl : ∀ i H, i ≤ xs.length → Pv i H → SqT K H a xs ∧ SqT K H b ys)
    (hs : ∀ i x y T H, xs[i]? = some x → ys[i]? = some y → H T = none → Pv i H → B (.ref T) (upd H T (.tup [x, y])) (Pv (i + 1))) (hd : ∀ H, Pv xs.length H → Qd H) :
    ∃ W : Nat → Nat → Hp → Prop, (∃ m, W 0 m H0) ∧ ∀ i m H, W i m H → ((RZ.ItzT K a b).stop i H ∧ Qd H) ∨ ((RZ.ItzT K a b).go i H ∧ ∃ Nx : Hp → Prop, (∀ H', Nx H' → ∃ m', m' < m ∧ W (i + 1) m' H') ∧ ∀ x H', (RZ.ItzT K a b).yld i H x H' → B x H' Nx) := by
  refine ⟨fun i m H => m = xs.length - i ∧ i ≤ xs.length ∧ Pv i H, ⟨_, rfl, Nat.zero_le _, h0⟩, ?_⟩
  rintro i m H ⟨rfl, hi, p⟩
  obtain ⟨q1, q2⟩ := hl i H hi p
  by_cases hlt : i < xs.length
  · refine .inr ⟨⟨xs, ys, xs[i], ys[i]'(by omega), q1, q2, by simp [hlt], List.getElem?_eq_getElem _⟩, Pv (i + 1), fun H' p' => ⟨xs.length - (i + 1), by omega, rfl, hlt, p'⟩, fun x H' y => ?_⟩
    obtain ⟨T, u, v, rfl, hT, rfl, z1, z2⟩ := y
    exact hs i u v T _ (z1 xs q1) (z2 ys q2) hT p
  · have e : i = xs.length := by omega
    subst e
    exact .inl ⟨⟨xs, ys, q1, q2, .inl (Nat.le_refl _)⟩, hd H p⟩
/-- keys of pairs -/
def idk (p : IP) : List Key := [.inl p.1, .inl p.2]
theorem idk_inj {p q : IP} (h : idk p = idk q) : p = q := by
  unfold idk at h
  injection h with h1 h2
  injection h2 with h2 _
  exact Prod.ext (Sum.inl.inj h1) (Sum.inl.inj h2)
theorem idk_kV (p : IP) : (idk p).map kV = [.int p.1, .int p.2] := rfl
/-- a dict of whole numbers by pairs -/
def DN (kvs : List (List Key × V)) (N : IP → Option Int) : Prop := ∀ p : IP, valV kvs (idk p) = (N p).map V.int
def shownN (l : List IP) (N : IP → Option Int) : IP → Option Int := fun x => if x ∈ l then some ((N x).getD 0) else none
theorem DN.put {kvs : List (List Key × V)} {N : IP → Option Int} (h : DN kvs N) (p : IP) (w : Int) : DN (putK kvs (idk p) (.int w)) (fun x => if x = p then some w else N x) := fun x => by
  rw [valV_put]
  dsimp only
  by_cases c : x = p
  · rw [if_pos (by rw [c]), if_pos c]
    rfl
  · rw [if_neg (fun z => c (idk_inj z)), if_neg c]
    exact h x
theorem DN.show {kvs : List (List Key × V)} {N : IP → Option Int} {l : List IP} {n : IP} (h : DN kvs (shownN l N)) : DN (putK kvs (idk n) (.int ((N n).getD 0))) (shownN (l ++ [n]) N) := fun x => by
  rw [h.put n _ x]
  unfold shownN
  dsimp only
  by_cases c : x = n
  · subst c
    rw [if_pos rfl, if_pos (List.mem_append_right _ (List.mem_singleton.mpr rfl))]
  · rw [if_neg c]
    by_cases d : x ∈ l
    · rw [if_pos d, if_pos (List.mem_append_left _ d)]
    · rw [if_neg d, if_neg (fun z => (List.mem_append.mp z).elim d fun e => c (List.mem_singleton.mp e))]
theorem putK_len {κ : Type} [DecidableEq κ] {c : List (κ × V)} {k : κ} {x y : V} (h : valV c k = some y) : (putK c k x).length = c.length := by
  unfold putK
  rw [if_pos]
  · exact List.length_map _
  · unfold valV at h
    obtain ⟨q, hq, _⟩ := Option.map_eq_some_iff.mp h
    have hq2 := List.find?_some (p := fun kv : κ × V => decide (kv.1 = k)) hq
    exact List.any_eq_true.mpr ⟨q, List.mem_of_find?_eq_some hq, hq2⟩
theorem putK_more {κ : Type} [DecidableEq κ] (c : List (κ × V)) (k : κ) (x : V) : (putK c k x).length ≤ c.length + 1 := by
  unfold putK
  split
  · rw [List.length_map]; omega
  · rw [List.length_append]; exact Nat.le_refl _
end D

namespace D
open PySem PySem.Spec PyProof.Rows L2
section
variable {X : Cx} {es : List Expr} {t : TA} {pos : Pos}
theorem pe_notTK {K : PySem.W.Frag} {a : Expr} {ta : TE} (hK : X.K = K) (ha : PE X a ta) : PE X (.UnaryOp .Not a pos) (tNotT K ta) := by subst hK; exact pe_notT ha
/-- a written tuple, known to its object -/
def tTupF (t : TA) : TE := fun σ H Q => t σ H fun xs H1 => xs.length ≤ sizeLine ∧ ∀ p o, H1 p = none → o.cls = .type "tuple" → o.dict = none → Q (.ref p) (upd H1 p (.frz o (.tup xs)))
theorem pe_tupF {x1} (h : PA X es t) : PE X (.Tuple es x1 pos) (tTupF t) := by
  refine ⟨fun held st sl G C J want => ?_⟩
  refine wpAny_Tuple_spliced (thn (h.run pos held st sl G _ J want) fun vals st2 ⟨items, G2, J2, rel, fits, fin⟩ => ⟨by rw [← rel.length]; exact fits, ?_⟩)
  have unused : G2 st2.heap.objs.size = none := J2.hok.fresh (Nat.le_refl _)
  let made : Obj := { cls := .type "tuple", data := .seq vals.toArray }
  refine ⟨.ref st2.heap.objs.size, upd G2 st2.heap.objs.size (.frz made (.tup items)), J2.laid (t' := st2.toks) (fun _ _ old => Heap.get?_push_of_some _ old) (Nat.le_refl _) ?_, rfl, fin _ made unused rfl rfl⟩
  exact (show ObjOk X.prog X.w _ _ _ (.frz made (.tup items)) from ⟨Heap.get?_push_size _ rfl, fits, vals, rel, ⟨_, Heap.get?_push_size _ rfl, rfl, _, rfl⟩⟩)
/-- t + u, known to its object -/
def rCatF (K : PySem.W.Frag) : R2 := fun x y H Q => ∃ a b xs ys, x = .ref a ∧ y = .ref b ∧ SqT K H a xs ∧ SqT K H b ys ∧ xs.length + ys.length ≤ sizeLine ∧
  (xs = [] → Q (.ref b) H) ∧ (xs ≠ [] → ys = [] → Q (.ref a) H) ∧ (xs ≠ [] → ys ≠ [] → ∀ p o, H p = none → o.cls = .type "tuple" → o.dict = none → Q (.ref p) (upd H p (.frz o (.tup (xs ++ ys)))))
theorem op_catF {K : PySem.W.Frag} (hK : X.K = K) : OpR X (binaryOp .Add) (rCatF K) := by
  subst hK
  intro held st sl G x y v u C J relx rely want
  obtain ⟨one', two, left, right, rfl, rfl, readL, readR, fits, none1, none2, both⟩ := want
  by_cases emp : left = []
  · exact op_catA held st sl G _ _ v u C J relx rely ⟨one', two, left, right, rfl, rfl, readL, readR, fits, none1, fun no => absurd emp no, fun no => absurd emp no⟩
  cases relx
  cases rely
  obtain ⟨itemsL, relL, tupL, _⟩ := J.tuple readL
  obtain ⟨itemsR, relR, tupR, _⟩ := J.tuple readR
  refine HT.cat_tup tupL tupR (fun no => emp (relL.nil_iff.mp no)) (fun no => ⟨.ref one', G, J, rfl, none2 emp (relR.nil_iff.mp no)⟩) (fun full => ?_) (by rw [← relL.length, ← relR.length]; exact fits)
  let made : Obj := { cls := .type "tuple", data := .seq (itemsL ++ itemsR).toArray }
  refine ⟨.ref st.heap.objs.size, _, J.laid (t' := st.toks) (o := .frz made (.tup (left ++ right))) (fun _ _ old => Heap.get?_push_of_some _ old) (Nat.le_refl _) ?_, rfl, both emp (fun no => full (relR.nil_iff.mpr no)) _ made (J.hok.fresh (Nat.le_refl _)) rfl rfl⟩
  exact ⟨Heap.get?_push_size _ rfl, by rw [List.length_append]; exact fits, _, relL.append relR, IsTup.new _ _⟩
theorem dcG_core {pins : List (Addr × Obj)} {s : Shared} {σ : L2.St} {H : Hp} {Q : VK} {O : Addr → HO} {Put : Addr → (Hp → Prop) → V → V → Hp → Prop} {kx vx tgt it : Expr} {ifs : List Expr} {sc : Scope} {own : List (Str × Nat)} {pos pos' : Pos} {walk : TI} {g : TG} {tt : TT} {tk tv : TE} {use : Option (Value → Sem Unit)} {Qf : Value → Shared → Prop}
    (mk0 : ∀ (H : Hp) (h : Heap), sysModules < h.objs.size → ObjOk X.prog X.w H (h.push { cls := .type "dict", data := .dict #[] }) h.objs.size (O h.objs.size)) (store : Stores X Put) (calm : X.calm = true) (nod : X.N.Nodup) (I : Inv X pins σ H s)
    (pi : PI X tgt it walk) (bo : BlkOk X.N X.env.scope sc own) (pg : InBlk X sc fun B => PG B tgt g) (pt : InBlk X sc fun B => PTs B ifs tt) (pk : InBlk X sc fun B => PE B kx tk) (pv : InBlk X sc fun B => PE B vx tv)
    (plain : ∀ x, foldedSetIterable it X.env x = pure x) (h : tDcG O Put walk g tt tk tv (own.map (·.2)) σ H Q)
    (behind : ∀ made frame st names G, Inv X pins σ G st → Q (.ref made) G → st.heap.Ns frame names → FpOk X pins G frame → compPost (model X.prog X.w) X.A X.xe use Qf (.ref made) frame (.ok .next) st) :
    wpAny (model X.prog X.w) X.A (comprehension (.DictComp kx vx [⟨tgt, it, ifs, 0⟩] sc pos) sc X.env pos' newDict false (eval it X.env) use) Qf X.xe s := by
  have free : ∀ y ∈ sc.names, y.2 = .free → ∃ c, X.env.cells.lookup y.1 = some c := fun y hy e => (bo.free y hy e).elim (fun k => I.ok.has _ (.inl k)) fun k => I.ok.has _ (.inr k)
  refine wpAny_comprehension_free (use := use) rfl plain (closure_ok free) bo.kind (fun y hy e => by rw [bo.uniq y hy, e]) ?_
  -- what is walked, then the empty dict
  refine thn (pi.run pins s σ H _ I h) fun xv s1 hx => thn hx ?_
  rintro itv s2 ⟨ad, feet, tn, J, H2, rfl, I2, T, at2, ft2, q⟩
  refine wpAny_newObj_type (newEnv_comp ?_)
  have fresh : H2 s2.heap.objs.size = none := I2.hok.fresh (Nat.le_refl _)
  obtain ⟨W, ⟨m0, w0⟩, turn⟩ := q _ fresh
  let s3 : Shared := { s2 with heap := s2.heap.push { cls := .type "dict", data := .dict #[] } }
  let D : Addr := s2.heap.objs.size
  let H3 : Hp := upd H2 D (O D)
  let L : Addr := s3.heap.objs.size
  let e3 : Env := compEnvC sc (cellsFrom (L + 1) sc.names (cloFrom X.env.cells sc.names [])) L X.env
  let s4 : Shared := { s3 with heap := pushCells (s3.heap.push { cls := .type "dict", data := .dict #[] }) sc.names }
  have I3 : Inv X pins σ H3 s3 := I2.laid (t' := s2.toks) (fun _ _ e => Heap.get?_push_of_some _ e) (Nat.le_refl _) (mk0 _ s2.heap I2.big)
  have grown : ∀ b o, s2.heap.get? b = some o → s3.heap.get? b = some o := fun _ _ e => Heap.get?_push_of_some _ e
  have low : ∀ b ∈ feet, b < s2.heap.objs.size := fun b hb => Heap.lt_size (T.obj _ _ at2 b hb).choose_spec.1
  have ft3 : ∀ b ∈ feet, FpOk X pins H3 b ∧ b < s3.heap.objs.size := fun b hb => ⟨⟨(upd_ne (Nat.ne_of_lt (low b hb))).trans (ft2 b hb).1, (ft2 b hb).2⟩, by show b < (s2.heap.push _).objs.size; rw [Heap.size_push]; exact Nat.lt_succ_of_lt (low b hb)⟩
  have at3 : tn 0 s3.heap := T.keep _ _ _ at2 fun b _ o e => grown b o e
  have I4 : Inv (X.blk s3 H3 sc e3 feet) [] (wipe σ (own.map (·.2))) H3 s4 := block_start I3 bo nod ft3
  have at4 : tn 0 s4.heap := T.keep _ _ _ at3 fun b _ o e => pushCells_keeps _ _ _ _ (Heap.get?_push_of_some _ e)
  -- the walker's own objects in the block's context
  have foot : ∀ {σ' : L2.St} {G : Hp} {t : Shared}, Inv (X.blk s3 H3 sc e3 feet) [] σ' G t → (∀ b ∈ feet, G b = none) → ∀ b ∈ feet, FpOk (X.blk s3 H3 sc e3 feet) [] G b := by
    intro σ' G t J' none b hb
    refine ⟨none b hb, (J'.ok.exf b hb).1, J'.ok.exfs b hb, .inl hb, fun x c e => (J'.ok.exf b hb).2 x c e, ?_⟩
    intro p hp
    exact nomatch (show p ∈ ([] : List (Addr × Obj)) from by simpa using hp)
  have loop : codeAny (model X.prog X.w) X.A (.compLoop (.DictComp kx vx [⟨tgt, it, ifs, 0⟩] sc pos) 0 (.ref ad) (.ref D) e3) (compPost (model X.prog X.w) X.A X.xe use Qf (.ref D) L) s4 := by
    refine compLoop_anyD (fun n t => ∃ i G, Inv (X.blk s3 H3 sc e3 feet) [] (wipe σ (own.map (·.2))) G t ∧ tn i t.heap ∧ (∀ b ∈ feet, G b = none) ∧ W i n G) ?_ m0 ⟨0, H3, I4, at4, fun b hb => (ft3 b hb).1.1, w0⟩
    rintro n t ⟨i, G, IG, atG, nG, wG⟩
    obtain ⟨stop, fin⟩ | ⟨go, N, less, step⟩ := turn i n G wG
    · refine thnF (T.done (X.blk s3 H3 sc e3 feet) rfl rfl rfl calm i [] t _ G (fun _ _ => False) IG (foot IG nG) atG stop) ?_
      rintro r t6 ⟨rfl, I6⟩
      have I7 : Inv X pins σ G t6 := I3.call' (ch := feet) I6.os I6.base I6.hok I6.bare fun b hb => let z := (ft3 b hb).1.2; ⟨z.2.2.1, z.1, z.2.2.2.1, z.2.2.2.2⟩
      obtain ⟨m, names, _⟩ := I6.loc
      exact behind D L t6 m G I7 fin names (I3.fpOk (Nat.le_refl _) (show G L = none from I6.free))
    · refine thnF (T.item (X.blk s3 H3 sc e3 feet) rfl rfl rfl calm i [] t _ G (fun _ _ => False) IG (foot IG nG) atG go) ?_
      rintro r t6 ⟨u, rfl, h6⟩
      refine thnF h6 ?_
      rintro _ t7 ⟨x, G7, I7, r7, y7, at7, n7⟩
      refine thnF ((pg _ _ _ _ _).run _ t7 _ G7 x u _ (I7.pinned (foot I7 n7) (T.obj _ _ at7)) r7 (step x G7 y7)) ?_
      rintro _ t8 ⟨σ8, G8, I8, wp8, q8⟩
      refine thnF ((pt _ _ _ _ _).run _ t8 σ8 G8 _ I8 q8) ?_
      rintro b t9 ⟨G9, I9, q9⟩
      have back : ∀ {t' : Shared} {G' : Hp}, Inv (X.blk s3 H3 sc e3 feet) ([] ++ pinsAt feet t7.heap) σ8 G' t' → N G' → ∃ m, m < n ∧ ∃ i G, Inv (X.blk s3 H3 sc e3 feet) [] (wipe σ (own.map (·.2))) G t' ∧ tn i t'.heap ∧ (∀ b ∈ feet, G b = none) ∧ W i m G := by
        intro t' G' I' nx
        obtain ⟨m', lt, w'⟩ := less G' nx
        have held : ∀ b ∈ feet, ∀ o, t7.heap.get? b = some o → t'.heap.get? b = some o ∧ G' b = none := fun b hb o e => let z := I'.pin (b, o) (List.mem_append_right _ (List.mem_append_right _ (mem_pinsAt hb e))); ⟨z.1, z.2.1⟩
        refine ⟨m', lt, i + 1, G', I'.unpinned.weak (by rw [← wp8, wipe_length]) fun j v e => ?_, T.keep _ _ _ at7 fun b hb o e => (held b hb o e).1, fun b hb => ?_, w'⟩
        · exact (wipe_some (wp8 ▸ e)).1
        · obtain ⟨o, e, _⟩ := T.obj _ _ at7 b hb
          exact (held b hb o e).2
      by_cases yes : b = true
      · subst yes
        refine thnF ((pk _ _ _ _ _).run _ t9 σ8 G9 _ I9 q9) ?_
        rintro ku t10 ⟨ky, G10, I10, r10, q10⟩
        refine thnF ((pv _ _ _ _ _).run _ t10 σ8 G10 _ I10 q10) ?_
        rintro vu t11 ⟨vy, G11, I11, r11, putting⟩
        exact store (X.blk s3 H3 sc e3 feet) _ _ _ _ _ _ _ _ _ _ _ _ rfl rfl rfl rfl I11 putting r10 r11 fun t12 G12 I12 nx => back I12 nx
      · have no : b = false := by cases b with | true => exact absurd rfl yes | false => rfl
        subst no
        exact back I9 q9
  exact codeAny_compStart_dict loop (T.self X.A 0 _ _ _ at4 loop)
theorem ps_setDcG {i : Nat} {y : Str} {py : Pos} {O : Addr → HO} {Put : Addr → (Hp → Prop) → V → V → Hp → Prop} {kx vx tgt it : Expr} {ifs : List Expr} {sc : Scope} {own : List (Str × Nat)} {pos spos : Pos} {walk : TI} {g : TG} {tt : TT} {tk tv : TE}
    (mk0 : ∀ (H : Hp) (h : Heap), sysModules < h.objs.size → ObjOk X.prog X.w H (h.push { cls := .type "dict", data := .dict #[] }) h.objs.size (O h.objs.size)) (store : Stores X Put) (calm : X.calm = true) (nod : X.N.Nodup) (hy : X.N[i]? = some y) (hyl : X.env.scope.names.lookup y = some .local)
    (hsw : swapsWith (.DictComp kx vx [⟨tgt, it, ifs, 0⟩] sc pos) (some (.Name y py)) spos.line X.env = pure true)
    (pi : PI X tgt it walk) (bo : BlkOk X.N X.env.scope sc own) (pg : InBlk X sc fun B => PG B tgt g) (pt : InBlk X sc fun B => PTs B ifs tt) (pk : InBlk X sc fun B => PE B kx tk) (pv : InBlk X sc fun B => PE B vx tv)
    (plain : ∀ x, foldedSetIterable it X.env x = pure x := by intro _; rfl) :
    PS X (.Assign [.Name y py] (.DictComp kx vx [⟨tgt, it, ifs, 0⟩] sc pos) spos) (tAsg (tDcG O Put walk g tt tk tv (own.map (·.2))) (gName i)) := by
  refine ⟨fun held st sl G ends J want => ?_⟩
  rw [exec_Assign_Name_used _ _ _ _ hsw]
  refine wpAny_bind (wpAny_standAt ?_)
  refine wpAny_bind ?_
  show wpAny _ X.A (do let _ ← comprehension (.DictComp kx vx [⟨tgt, it, ifs, 0⟩] sc pos) sc X.env (firstIterPos [⟨tgt, it, ifs, 0⟩] pos) newDict false (eval it X.env) (some (assign (.Name y py) X.env))) _ _ st
  have want : tDcG O Put walk g tt tk tv (own.map (·.2)) sl G (fun x G1 => gName i x sl G1 ends.nx) := want
  refine wpAny_bind (thn (dcG_core (Qf := fun _ st' => SP X held ends .next st') mk0 store calm nod J pi bo pg pt pk pv plain want fun made frame st2 names G2 J2 fin ns foot => ?_) fun _ _ last => wpAny_pure (wpAny_pure last))
  show wpAny _ _ (assign (.Name y py) X.env (.ref made)) _ _ _
  refine wpAny_assign_Name (store_ok2 (v := V.ref made) J2 nod hy (.inl hyl) rfl (fun st3 J3 ⟨place, same, way⟩ => ?_) (.inr hyl))
  obtain ⟨c0, c1, c2, c3, c4, c5⟩ := foot
  have apart : frame ≠ place := by
    rcases way with way | way
    · rw [way]; exact c1
    · exact fun e => c4 y place way e.symm
  refine ⟨names, ns.sameBut same apart, fun st4 same4 => ?_⟩
  exact ⟨_, G2, J3.turned (t' := st3.toks) (fun b _ out e => (same4.2 b out).trans e) c0 c1 c3 c4 c5, fin⟩
theorem sw_trueD {kx vx : Expr} {gs : List Comprehension} {scope : Scope} {pos py : Pos} {y : Str} {l : Nat} {env : Env} (hk : env.scope.kind = .function) (hy : env.scope.names.lookup y = some .local) (hl : (py.line == pos.line) = true)
    (ha : (scope.names.any fun (n, k) => n == y && (k == .local || k == .cell)) = false) : swapsWith (.DictComp kx vx gs scope pos) (some (.Name y py)) l env = pure true := by
  have kind : env.kindOf y = some .local := hy
  have block : env.blockKind = .function := by
    unfold Env.blockKind
    rw [hk]
    rfl
  unfold swapsWith
  simp only [block, kind, ha, Expr.pos, hl]
  rfl
theorem ps_setDcX {P : Program} {w : World} (hP : X.prog = P) (hw : X.w = w) {i : Nat} {y : Str} {py : Pos} {kx vx tgt it : Expr} {ifs : List Expr} {sc : Scope} {own : List (Str × Nat)} {pos spos : Pos} {walk : TI} {g : TG} {tt : TT} {tk tv : TE} (hu : X.A.units + 1 < cLine) (calm : X.calm = true) (nod : X.N.Nodup) (hy : X.N[i]? = some y) (hyl : X.env.scope.names.lookup y = some .local)
    (hsw : swapsWith (.DictComp kx vx [⟨tgt, it, ifs, 0⟩] sc pos) (some (.Name y py)) spos.line X.env = pure true)
    (pi : PI X tgt it walk) (bo : BlkOk X.N X.env.scope sc own) (pg : InBlk X sc fun B => PG B tgt g) (pt : InBlk X sc fun B => PTs B ifs tt) (pk : InBlk X sc fun B => PE B kx tk) (pv : InBlk X sc fun B => PE B vx tv)
    (plain : ∀ x, foldedSetIterable it X.env x = pure x := by intro _; rfl) :
    PS X (.Assign [.Name y py] (.DictComp kx vx [⟨tgt, it, ifs, 0⟩] sc pos) spos) (tAsg (tDcX P w walk g tt tk tv (own.map (·.2))) (gName i)) := by
  subst hP hw
  exact ps_setDcG (fun H h b => dXo_empty H h b) (stores_X hu) calm nod hy hyl hsw pi bo pg pt pk pv plain
theorem ps_setDcT {i : Nat} {y : Str} {py : Pos} {kx vx tgt it : Expr} {ifs : List Expr} {sc : Scope} {own : List (Str × Nat)} {pos spos : Pos} {walk : TI} {g : TG} {tt : TT} {tk tv : TE} (hu : X.A.units + 1 < cLine) (calm : X.calm = true) (nod : X.N.Nodup) (hy : X.N[i]? = some y) (hyl : X.env.scope.names.lookup y = some .local)
    (hsw : swapsWith (.DictComp kx vx [⟨tgt, it, ifs, 0⟩] sc pos) (some (.Name y py)) spos.line X.env = pure true)
    (pi : PI X tgt it walk) (bo : BlkOk X.N X.env.scope sc own) (pg : InBlk X sc fun B => PG B tgt g) (pt : InBlk X sc fun B => PTs B ifs tt) (pk : InBlk X sc fun B => PE B kx tk) (pv : InBlk X sc fun B => PE B vx tv)
    (plain : ∀ x, foldedSetIterable it X.env x = pure x := by intro _; rfl) :
    PS X (.Assign [.Name y py] (.DictComp kx vx [⟨tgt, it, ifs, 0⟩] sc pos) spos) (tAsg (tDcT walk g tt tk tv (own.map (·.2))) (gName i)) :=
  ps_setDcG (fun _ h b => dt_empty h b) (stores_T hu) calm nod hy hyl hsw pi bo pg pt pk pv plain
end
/-- a row with one item more -/
theorem cat_row {K : PySem.W.Frag} {M : Ms} {H : Hp} {v u : V} {r : List Int} {x : Int} {Q : VK} (h : RowF M H v r) (hu : RowF M H u [x]) (lr : r.length ≤ 1000) (hM : Mk M H) (q : ∀ z H', Same H H' → RowF M H' z (r ++ [x]) → Q z H') : rCatF K v u H Q := by
  obtain ⟨a, o, rfl, na, ha, h1, h2⟩ := id h
  obtain ⟨b, o2, rfl, nb, hb, h3, h4⟩ := id hu
  refine ⟨a, b, _, _, rfl, rfl, .inl (.inr ⟨o, ha⟩), .inl (.inr ⟨o2, hb⟩), ?_, fun z => ?_, fun _ z => absurd z (by simp), fun z _ p o3 hp h5 h6 => ?_⟩
  · rw [List.length_map]
    exact Nat.le_of_lt (small1000000 (by show _ + 1 ≤ _; omega))
  · have e : r = [] := by simpa using z
    subst e
    exact q _ _ (Same.refl _) hu
  · refine q _ _ (same_new hp) ⟨p, o3, rfl, hM.out hp, ?_, h5, h6⟩
    rw [upd_same, List.map_append]
theorem row_new {M : Ms} {H : Hp} {p : Addr} {o : Obj} {ns : List Int} (hM : Mk M H) (hp : H p = none) (h1 : o.cls = .type "tuple") (h2 : o.dict = none) : RowF M (upd H p (.frz o (.tup (ns.map V.int)))) (.ref p) ns := ⟨p, o, rfl, hM.out hp, upd_same, h1, h2⟩
/-- rows in a list -/
def RowsAt (good : List Int → Prop) (M : Ms) (H : Hp) (xs : List V) (nss : List (List Int)) : Prop := xs.length = nss.length ∧ ∀ (i : Nat) (ns : List Int), nss[i]? = some ns → ∃ w, xs[i]? = some w ∧ RowF M H w ns ∧ good ns
section
variable {good : List Int → Prop} {M : Ms} {H H' : Hp} {xs : List V} {nss : List (List Int)}
theorem RowsAt.get (h : RowsAt good M H xs nss) {i : Nat} {x : V} (hx : xs[i]? = some x) : ∃ ns, nss[i]? = some ns ∧ RowF M H x ns ∧ good ns := by
  have hi : i < nss.length := by rw [← h.1]; exact (List.getElem?_eq_some_iff.mp hx).1
  obtain ⟨w, hw, q, g⟩ := h.2 i _ (List.getElem?_eq_getElem hi)
  rw [hx] at hw
  cases hw
  exact ⟨_, List.getElem?_eq_getElem hi, q, g⟩
theorem RowsAt.mem (h : RowsAt good M H xs nss) {x : V} (hx : x ∈ xs) : ∃ ns, ns ∈ nss ∧ RowF M H x ns ∧ good ns := by
  obtain ⟨i, hi⟩ := List.mem_iff_getElem?.mp hx
  obtain ⟨ns, h1, h2, h3⟩ := h.get hi
  exact ⟨ns, List.mem_of_getElem? h1, h2, h3⟩
theorem RowsAt.sx (h : RowsAt good M H xs nss) (s : Sx M H H') : RowsAt good M H' xs nss := ⟨h.1, fun i ns e => by
  obtain ⟨w, h1, h2, h3⟩ := h.2 i ns e
  exact ⟨w, h1, h2.sx s, h3⟩⟩
theorem RowsAt.nil : RowsAt good M H [] [] := ⟨rfl, fun i ns e => by simp at e⟩
theorem RowsAt.append {ys : List V} {mss : List (List Int)} (h : RowsAt good M H xs nss) (g : RowsAt good M H ys mss) : RowsAt good M H (xs ++ ys) (nss ++ mss) := by
  refine ⟨by rw [List.length_append, List.length_append, h.1, g.1], fun i ns e => ?_⟩
  by_cases c : i < nss.length
  · rw [List.getElem?_append_left c] at e
    rw [List.getElem?_append_left (by rw [h.1]; exact c)]
    exact h.2 i ns e
  · rw [List.getElem?_append_right (by omega)] at e
    rw [List.getElem?_append_right (by rw [h.1]; omega), h.1]
    exact g.2 _ ns e
theorem RowsAt.one {w : V} {ns : List Int} (q : RowF M H w ns) (g : good ns) : RowsAt good M H [w] [ns] := ⟨rfl, fun i ms e => by
  cases i with
  | zero => cases e; exact ⟨w, rfl, q, g⟩
  | succ i => simp at e⟩
theorem RowsAt.less {N : Ms} (h : RowsAt good M H xs nss) (f : ∀ a, N a → M a) : RowsAt good N H xs nss := ⟨h.1, fun i ns e => by
  obtain ⟨w, h1, h2, h3⟩ := h.2 i ns e
  exact ⟨w, h1, h2.less f, h3⟩⟩
theorem RowsAt.fresh {p : Addr} (h : RowsAt good M H xs nss) (hp : H p = none) : RowsAt good (also M p) H xs nss := ⟨h.1, fun i ns e => by
  obtain ⟨w, h1, h2, h3⟩ := h.2 i ns e
  exact ⟨w, h1, h2.fresh hp, h3⟩⟩
end
end D

namespace D
open PySem PySem.Spec PyProof.Rows L2
/-! ### own errors with one field or more -/
section
variable {K : PySem.W.Frag}
/-- __init__ of an error with one field -/
def sp_err1 (K : PySem.W.Frag) (C : Addr) (f : Str) : Sp := fun vs H Q _ => ∃ (a : Addr) (y : V), vs = [.ref a, y] ∧ OexC K C ∧ PySem.W.findIn K (.ref C) f = some none ∧ H a = some (exo a C none) ∧
  ∀ dx, H dx = none → dx ≠ a → Q .non (upd (upd H dx (exd dx [(f, y)])) a (exo a C (some dx)))
theorem made_heap {H : Hp} {a dx : Addr} {o1 o2 o3 o4 : HO} (ha : H a = none) (ne : dx ≠ a) : upd (del (upd (upd (upd H a o1) dx o2) a o3) a) dx o4 = upd H dx o4 := by
  funext b
  by_cases h1 : b = dx
  · rw [h1, upd_same, upd_same]
  · rw [upd_ne h1, upd_ne h1]
    by_cases h2 : b = a
    · rw [h2, del_same, ha]
    · rw [del_ne h2, upd_ne h2, upd_ne h1, upd_ne h2]
/-- the making of an error with one field: what is asked behind its argument -/
theorem mk_err1 {C : Addr} {f : Str} {H : Hp} {v : V} {E : XK} (ox : OexC K C) (no : PySem.W.findIn K (.ref C) f = some none) (h : ∀ d, H d = none → E (.ref C) (some d) (upd H d (.xd [(f, v)]))) :
    [v].length ≤ 1000 ∧ ∀ a, H a = none → sp_err1 K C f (.ref a :: ([v] ++ [])) (upd H a (exo a C none))
      (fun u H2 => u = .non ∧ ∃ (d : Addr) (fs : List (Str × V)), H2 a = some (exo a C (some d)) ∧ H2 d = some (exd d fs) ∧ H d = none ∧ E (.ref C) (some d) (upd (del H2 a) d (.xd fs))) (fun _ _ _ => False) := by
  refine ⟨by show 1 ≤ 1000; decide, fun a ha => ⟨a, v, rfl, ox, no, upd_same, fun dx hdx hne => ⟨rfl, dx, [(f, v)], upd_same, ?_, ?_, ?_⟩⟩⟩
  · rw [upd_ne hne, upd_same]
  · rw [upd_ne hne] at hdx
    exact hdx
  · rw [made_heap ha hne]
    rw [upd_ne hne] at hdx
    exact h dx hdx
/-- __init__ of an error with two fields -/
def sp_err2 (K : PySem.W.Frag) (C : Addr) (f g : Str) : Sp := fun vs H Q _ => ∃ (a : Addr) (y z : V), vs = [.ref a, y, z] ∧ OexC K C ∧ PySem.W.findIn K (.ref C) f = some none ∧ PySem.W.findIn K (.ref C) g = some none ∧ H a = some (exo a C none) ∧
  ∀ dx, H dx = none → dx ≠ a → Q .non (upd (upd (upd H dx (exd dx [(f, y)])) a (exo a C (some dx))) dx (exd dx [(g, z), (f, y)]))
/-- isinstance facts of an error class -/
theorem kit_err {D C : Addr} {b : Bool} (hd : PySem.W.hasDictIn K C = true) (ty : PySem.W.typeIn K (.ref C) = some (.type "type")) (ne : D ≠ C) (h : PySem.W.subIn K (.ref D) (.ref C) = some b) : PySem.W.kitOne K (.ref D) (.ref C) = some b := by
  obtain ⟨cd, hc, _⟩ := PySem.W.any_some hd
  unfold PySem.W.kitOne
  rw [if_neg (by simpa using ne)]
  show (if ((PySem.W.clsIn K C).isSome && PySem.W.typeIn K (.ref C) == some (.type "type")) = true then PySem.W.subIn K (.ref D) (.ref C) else none) = some b
  rw [if_pos (by rw [hc, ty]; rfl), h]
theorem kit_self {D : Addr} : PySem.W.kitOne K (.ref D) (.ref D) = some true := by
  unfold PySem.W.kitOne
  rw [if_pos (beq_self_eq_true _)]
theorem kit_ty2 {D : Addr} {t : String} {b : Bool} (m : PySem.W.kitMeta t = true) (h : PySem.W.subIn K (.ref D) (.type t) = some b) : PySem.W.kitOne K (.ref D) (.type t) = some b := by
  unfold PySem.W.kitOne
  rw [if_neg (fun z => nomatch (beq_iff_eq.mp z : Value.ref D = Value.type t))]
  show (if PySem.W.kitMeta t = true then PySem.W.subIn K (.ref D) (.type t) else none) = some b
  rw [if_pos m, h]
end
section
variable {X : Cx} {C g : Addr} {n : Nat} {CX : CXT} {sp : Sp} {E : L2.St → XK} {fd : FuncData} {ps : List Str}
/-- isinstance(e, c), e the error that the suite holds -/
def rIsX (K : PySem.W.Frag) (cls : Value) (d : Option Addr) (a : Addr) : List V → Hp → VK → Prop := fun xs H Q => ∃ (D dd : Addr) (fs : List (Str × V)) (c : V) (cv : Value) (b : Bool), cls = .ref D ∧ d = some dd ∧ ExcC K D ∧ H dd = some (.xd fs) ∧
  xs = [.ref a, c] ∧ (∀ u, RelV c u → u = cv) ∧ PySem.W.kitOne K (.ref D) cv = some b ∧ Q (.bl b) H
theorem inst_exc {X : Cx} {pins : List (Addr × Obj)} {σ : L2.St} {H : Hp} {s : Shared} {a D dd : Addr} {oe : Obj} {fs : List (Str × V)} (I : Inv X pins σ H s) (get : s.heap.get? a = some oe) (hz : Zc (.ref D) (some dd) oe) (hf : ∃ vs, oe.data = .fields vs) (ed : H dd = some (.xd fs)) :
    ∃ od, PySem.W.InstAt s.heap a oe D (some od) := by
  have there : ObjOk X.prog X.w H s.heap dd (.xd fs) := I.hok dd _ ed
  obtain ⟨mA, hns, _⟩ := there
  obtain ⟨od, ho, _⟩ := lookIn_ns hns
  obtain ⟨vs, hd⟩ := hf
  exact ⟨od, get, hz.1, by unfold PySem.W.notCls; rw [hd] <;> rfl, by rw [hz.2]; exact ho⟩
theorem call_isX {a : Addr} {oe : Obj} {cls : Value} {d : Option Addr} {pn : List (Addr × Obj)} (hz : Zc cls d oe) (hf : ∃ vs, oe.data = .fields vs) : CallR (X.suite a ((a, oe) :: pn)) (.builtin "isinstance") (rIsX X.K cls d a) := by
  intro held s sl G args vals want J rel h
  obtain ⟨D, dd, fs, c, cv, b, rfl, rfl, EC, ed, rfl, known, kit, q⟩ := h
  match vals, rel with
  | [_, _], .cons rx (.cons rt .nil) =>
    cases rx
    have ec := known _ rt
    subst ec
    obtain ⟨get, _⟩ := J.pin (a, oe) (List.mem_append.mpr (.inl List.mem_cons_self))
    obtain ⟨od, inst⟩ := inst_exc J get hz hf ed
    obtain ⟨cdD, hcD, _⟩ := PySem.W.any_some EC.hd
    exact PySem.W.kia_one (PySem.W.kitx_exc (by rw [hcD]; rfl) EC.hg EC.hk EC.hs EC.ha EC.hn EC.ht EC.hm) J.kIn inst kit (fun z => nomatch z) fun tk => ⟨.bl b, G, J.kept (t' := tk) fun _ _ z => z, rfl, q⟩
/-- isinstance(e, (c, ..)) -/
def rIsXT (K : PySem.W.Frag) (cls : Value) (d : Option Addr) (a : Addr) : List V → Hp → VK → Prop := fun xs H Q => ∃ (D dd p : Addr) (fs : List (Str × V)) (cs : List Addr) (b : Bool), cls = .ref D ∧ d = some dd ∧ ExcC K D ∧ H dd = some (.xd fs) ∧
  xs = [.ref a, .ref p] ∧ H p = some (.tup (cs.map V.ref)) ∧ PySem.W.kitAny K (.ref D) (cs.map Value.ref) = some b ∧ Q (.bl b) H
theorem vals_refs : ∀ {cs : List Addr} {vals : List Value}, Vals (cs.map V.ref) vals → vals = cs.map Value.ref
  | [], _, .nil => rfl
  | c :: r, _, .cons h t => by
    cases h
    rw [vals_refs t]
    rfl
theorem call_isXT {a : Addr} {oe : Obj} {cls : Value} {d : Option Addr} {pn : List (Addr × Obj)} (hz : Zc cls d oe) (hf : ∃ vs, oe.data = .fields vs) : CallR (X.suite a ((a, oe) :: pn)) (.builtin "isinstance") (rIsXT X.K cls d a) := by
  intro held s sl G args vals want J rel h
  obtain ⟨D, dd, p, fs, cs, b, rfl, rfl, EC, ed, rfl, tup, kit, q⟩ := h
  match vals, rel with
  | [_, _], .cons rx (.cons rt .nil) =>
    cases rx
    cases rt
    obtain ⟨get, _⟩ := J.pin (a, oe) (List.mem_append.mpr (.inl List.mem_cons_self))
    obtain ⟨od, inst⟩ := inst_exc J get hz hf ed
    obtain ⟨cdD, hcD, _⟩ := PySem.W.any_some EC.hd
    obtain ⟨_, its, rv, ⟨⟨tc, tdict, tdata, tslots⟩, ho, hc, m, hd⟩⟩ := (show ObjOk X.prog X.w G s.heap p (.tup (cs.map V.ref)) from J.hok p _ tup)
    dsimp only at hc hd
    subst hc hd
    have ei := vals_refs rv
    subst ei
    exact PySem.W.kia_tup (PySem.W.kitx_exc (by rw [hcD]; rfl) EC.hg EC.hk EC.hs EC.ha EC.hn EC.ht EC.hm) J.kIn inst ho kit (fun z => nomatch z) fun tk => ⟨.bl b, G, J.kept (t' := tk) fun _ _ z => z, rfl, q⟩
/-! ### what may raise within a try -/
/-- a def is run one step in, what it raises goes on -/
theorem run_in1S {pins : List (Addr × Obj)} {σ : L2.St} {H : Hp} {s : Shared} {Q : VK} {us : List Value} {vs : List V} (F : FnOk X.prog X.w X.K X.mg X.base CX n g fd ps sp) (hr : Room (n + 1) X.A) (hb : Binds X.K fd ps []) (hx : PassesAt CX X σ (E σ))
    (I : Inv X pins σ H s) (r : Vals vs us) (h : sp vs H Q (E σ)) : wpAny (model X.prog X.w) X.A.in1 (call (.ref g) us) (EP X pins σ Q) X.xe s := by
  have size : (us ++ []).length = ps.length := by rw [List.append_nil, ← r.length]; exact F.len _ _ _ _ h
  have bd := hb s us I.kIn size
  rw [List.append_nil] at bd
  refine wpAny_call (codeAny_mono (F.run X.A.in1 X.stack s H ⟨us, []⟩ us vs Q (E σ) (room_in1 hr) I.env0.in1 bd r h) fun out s' told => ?_)
  match out, told with
  | .error e, told => exact hx pins H s e s' I told
  | .ok (.ret u), told => exact I.after told
  | .ok .next, told => exact False.elim told
  | .ok .brk, told => exact False.elim told
  | .ok .cont, told => exact False.elim told
def tOwnIxS (C : Addr) (sp : Sp) (E : L2.St → XK) (to ti : TE) : TE := fun σ H Q => to σ H fun x H1 => ti σ H1 fun y H2 => ∃ a dx fs, x = .ref a ∧ H2 a = some (.ins C dx fs) ∧ sp [x, y] H2 Q (E σ)
theorem pe_ownIxS {o i : Expr} {to ti : TE} {pos : Pos} (ho : PE X o to) (hi : PE X i ti) (hs : PySem.W.findIn X.K (.ref C) "__getitem__" = some (some (.ref g))) (hf : PySem.W.fnIn X.K g = true) (hg : PySem.W.isFn X.K (.ref g) = true)
    (F : FnOk X.prog X.w X.K X.mg X.base CX n g fd ps sp) (hb : Binds X.K fd ps []) (hr : Room (n + 1) X.A) (hx : ∀ σ, PassesAt CX X σ (E σ))
    (hsl : ∀ ov iv, subscripted i true ov iv = runValue (.builtin "lifetime.subscript" ⟨[ov, iv], []⟩)) : PE X (.Subscript o i pos) (tOwnIxS C sp E to ti) := by
  refine ⟨fun pins s σ H Q I h => ?_⟩
  refine Subscript_ (thn (ho.run pins s σ H _ I h) fun ov s1 ⟨x, H1, I1, rx, q1⟩ => thn (hi.run pins s1 σ H1 _ I1 q1) fun iv s2 ⟨y, H2, I2, ry, a, dx, fs, ex, ha, q⟩ => ?_)
  subst ex
  obtain rfl : ov = Value.ref a := rx
  obtain ⟨mA, O, _⟩ := ins_get I2.hok ha
  obtain ⟨od, J, _⟩ := O.look
  obtain ⟨m, hF⟩ := I2.fr
  exact PySem.W.sub_K hF I2.ok.mod.kin J hs hf hg (run_in1S (us := [.ref a, iv]) (vs := [.ref a, y]) F hr hb (hx σ) I2 (.cons rfl (.cons ry .nil)) q) (hsl _ _)
/-- a method that may raise -/
def tMethS (C : Addr) (m : Str) (sp : Sp) (E : L2.St → XK) (ta : TE) (t : TA) : TE := fun σ H Q => ta σ H fun x H1 => ∃ a dx fs, x = .ref a ∧ H1 a = some (.ins C dx fs) ∧ fs.lookup m = none ∧ t σ H1 fun vs H2 => sp (x :: vs) H2 Q (E σ)
theorem pe_methS {o e : Expr} {es : List Expr} {m : Str} {f : Addr} {pos apos : Pos} {ta : TE} {t : TA} {pl : Sem Bool} (he : PE X o ta) (c : Cls X.K C) (hm : Meth X.K C m f) (F : FnOk X.prog X.w X.K X.mg X.base CX n f fd ps sp) (hr : Room n X.A) (hb : Binds X.K fd ps []) (hx : ∀ σ, PassesAt CX X σ (E σ)) (ha : PA X (e :: es) t)
    (hst : starEach (e :: es) X.env = (false, eval e X.env) :: starEach es X.env := by rfl) (hpl : (backTo pos (starEach es X.env)).any (·.1) = false := by rfl)
    (ht : eval (.Call (.Attribute o m apos) (e :: es) [] pos) X.env = (do
      let ov ← eval o X.env
      standAt apos.atName
      let (f, first) ← holding [ov] (getMethod ov m pl)
      callWith pos f first (backTo pos (starEach (e :: es) X.env)) (backToKw pos (keywordEach [] X.env))) := by rfl) :
    PE X (.Call (.Attribute o m apos) (e :: es) [] pos) (tMethS C m sp E ta t) := by
  refine ⟨fun held st sl G want J told => ?_⟩
  refine PySem.W.methodCall_KW (pl := pl) (thn (he.run held st sl G _ J told) fun u st1 ⟨x, G1, J1, rx, a, dx, fs, ex, ea, l, q⟩ => ?_) ht
  subst ex
  obtain rfl : u = Value.ref a := rx
  refine getmeth_ok J1 ea c hm l (PySem.W.callWith_K (first := [.ref a]) (h₀ := X.base) J1.ok.mod.kin hm.kp (thn (ha.run pos held st1 sl G1 _ J1 q) fun vals st2 ⟨vs, G2, J2, rel, q2⟩ => ⟨J2.kIn, ?_⟩) hst hpl)
  exact run_fnS (us := .ref a :: vals) (vs := .ref a :: vs) F hr hb (hx sl) J2 (.cons rfl rel) q2
/-- x[i] = v, an own def's store that may raise -/
def sOwnPutS (C : Addr) (sp : Sp) (E : L2.St → XK) (to ti tv : TE) : TS := fun D σ H => tv σ H fun v H1 => to σ H1 fun x H2 => ti σ H2 fun y H3 => ∃ a dx fs, x = .ref a ∧ H3 a = some (.ins C dx fs) ∧ sp [x, y, v] H3 (fun _ H4 => D.nx σ H4) (E σ)
theorem ps_ownPutS {o i value : Expr} {pos pos' : Pos} {to ti tv : TE} (ho : PE X o to) (hi : PE X i ti) (hv : PE X value tv) (hq : PySem.W.noSeq X.K C = true) (hs : PySem.W.findIn X.K (.ref C) "__setitem__" = some (some (.ref g))) (hf : PySem.W.isFn X.K (.ref g) = true)
    (F : FnOk X.prog X.w X.K X.mg X.base CX n g fd ps sp) (hb : Binds X.K fd ps []) (hr : Room (n + 1) X.A) (hx : ∀ σ, PassesAt CX X σ (E σ)) (sw : swapsWith value (some (.Subscript o i pos')) pos.line X.env = pure false) :
    PS X (.Assign [.Subscript o i pos'] value pos) (sOwnPutS C sp E to ti tv) := by
  refine ⟨fun pins s σ H D I h => ?_⟩
  refine wpAny_Assign_Subscript (thn (hv.run pins s σ H _ I h) fun r s1 ⟨v, H1, I1, rv, q1⟩ => thn (ho.run pins s1 σ H1 _ I1 q1) fun u s2 ⟨x, H2, I2, rx, q2⟩ => thn (hi.run pins s2 σ H2 _ I2 q2) fun iv s3 ⟨y, H3, I3, ry, a, dx, fs, ex, ha, q⟩ => ?_) sw
  subst ex
  obtain rfl : u = Value.ref a := rx
  obtain ⟨mA, O, _⟩ := ins_get I3.hok ha
  obtain ⟨od, J, _⟩ := O.look
  refine wp_ownPut I3.kIn J hq hs hf (wpAny_mono (run_fnS (us := [.ref a, iv, r]) (vs := [.ref a, y, v]) F (hr.mono (Nat.le_succ n)) hb (hx σ) I3 (.cons rfl (.cons ry (.cons rv .nil))) q) (fun w s' z => ?_) fun _ _ z => z)
  obtain ⟨z', H', I', _, qz⟩ := z
  exact ⟨σ, H', I', qz⟩
end
end D

namespace D
open PySem PySem.Spec PyProof.Rows L2
/-! ### list(o), o of an own class whose __iter__ hands an iterator over a tuple out -/
/-- at it an iterator over the tuple at t, the next place is i -/
def ItT (t it : Addr) (i : Nat) : HO := .ext fun h => h.IsTupleIter it t i
/-- something stands at it -/
def AnyO (it : Addr) : HO := .ext fun h => ∃ o, h.get? it = some o
section
variable {P : Program} {w : World} {H : Hp} {h : Heap} {t it : Addr} {i : Nat}
theorem itT_ok (e : h.IsTupleIter it t i) : ObjOk P w H h it (ItT t it i) := ⟨e, ⟨_, e.choose_spec.1⟩, fun h1 h2 q k => by
  obtain ⟨o, ho, r⟩ := q
  exact ⟨o, k _ ho, r⟩⟩
theorem any_ok {o : Obj} (e : h.get? it = some o) : ObjOk P w H h it (AnyO it) := ⟨⟨_, e⟩, ⟨_, e⟩, fun h1 h2 q k => by
  obtain ⟨o, ho⟩ := q
  exact ⟨o, k _ ho⟩⟩
end
section
variable {X : Cx} {pins : List (Addr × Obj)} {σ : L2.St} {H : Hp} {s : Shared} {t it : Addr} {i : Nat}
theorem itT_get (I : Inv X pins σ H s) (e : H it = some (ItT t it i)) : s.heap.IsTupleIter it t i := (I.hok it _ e).1
/-- iter(t), t a tuple -/
def rIterT (K : PySem.W.Frag) : List V → Hp → VK → Prop := fun xs H Q => ∃ (t : Addr) (zs : List V), xs = [.ref t] ∧ SqT K H t zs ∧ ∀ it, H it = none → Q (.ref it) (upd H it (ItT t it 0))
theorem call_iterT : CallR X (.builtin "iter") (rIterT X.K) := by
  intro pins s σ H xs us Q I r h
  obtain ⟨t, zs, rfl, hq, q⟩ := h
  obtain rfl := Vals.ref1 r
  obtain ⟨its, rv, ⟨o, ho, hc, n, hd⟩, hz⟩ := I.tuple hq
  refine Calls.call_function_entry (by decide +kernel) (by decide +kernel) PySem.W.kdk_entry_iter (PySem.W.kdk_args_iter _) ?_
  unfold Builtin.«iter»
  refine wpAny_bind (m := someArgs "iter" 1 2 _) (wpAny_of_eq (a := [Value.ref t]) (by first | rfl | kernel_rfl!) ?_)
  show wpAny _ _ (pyIter (.ref t) >>= _) _ _ _
  refine wpAny_bind (wpAny_pyIter_tuple (items := its.toArray) ⟨o, ho, hc, n, hd⟩ ?_)
  refine wpAny_pure ⟨_, rfl, ?_⟩
  exact ⟨.ref s.heap.objs.size, _, I.laid (t' := s.toks) (fun b u e => Heap.get?_push_of_some _ e) (Nat.le_refl _) (itT_ok ⟨_, Heap.get?_push_size _ rfl, rfl, rfl⟩), rfl, q _ (I.hok.fresh (Nat.le_refl _))⟩
end
section
variable {prog : Program} {w : World} {A : Around} {E : Value → Shared → Prop} {s : Shared}
theorem tuple_end2 {it t : Addr} {i : Nat} {items : Array Value} {Q : Option Value → Shared → Prop} (hh : A.handled = none)
    (hit : s.heap.IsTupleIter it t i) (ht : s.heap.IsTuple t items) (hx : items[i]? = none)
    (hQ : ∀ h', (∃ o, h'.get? it = some o) → Heap.ExtBut it s.heap h' → Q none { s with heap := h' }) : wpAny (model prog w) A (pyNext (.ref it)) Q E s := by
  obtain ⟨o, ho, hc, hd⟩ := id hit
  obtain ⟨ol, hol, _, nl, hdl⟩ := ht
  unfold pyNext
  refine wpAny_bind (wpAny_attempt (wpAny_callSpecial?_slot (name := Str.ofString "__next__") hit.typeIs F.slot_tuple_iterator_next
    (wpAny_call_entry F.slot_tuple_iterator_next hit.typeIs F.entry_tuple_iterator_next ?_ (F.args_tuple_iterator_next_1 _))))
  show wpAny _ _ (field (.ref it) 0 >>= _) _ _ s
  refine wpAny_bind (wpAny_field ho hd (x := .ref t) rfl ?_)
  show wpAny _ _ (if (Value.ref t == Value.none) = true then _ else _) _ _ s
  rw [if_neg (show ¬ ((Value.ref t == Value.none) = true) from Bool.false_ne_true)]
  show wpAny _ _ (field (.ref it) 1 >>= _) _ _ s
  refine wpAny_bind (wpAny_field ho hd (x := .int i 0) rfl ?_)
  show wpAny _ _ (seqItems? (.ref t) >>= _) _ _ s
  refine wpAny_bind (wpAny_seqItems hol hdl ?_)
  simp only [Int.toNat_natCast, hx]
  refine wpAny_bind (wpAny_rule (wpAny_bind (wpAny_setField ho hd (by simp) ?_)))
  show wpAny _ _ (newExc (.type "StopIteration") [] >>= _) _ _ _
  refine wpAny_bind ?_
  simp only [newExc, newTuple]
  refine wpAny_bind (wpAny_newObj_type ?_ (by size_fits))
  refine wpAny_bind (m := firstArgMember _ _) (wpAny_of_eq (a := Value.none) (by first | rfl | (simp only [firstArgMember]; rfl)) ?_)
  refine wpAny_newObj_type ?_ (by size_fits)
  simp only [raiseNew]
  refine wpAny_bind (wpAny_handled ?_)
  first | rw [show A.in1.handled = none from hh] | rw [hh]
  refine wpAny_bind (wpAny_pure (wpAny_throw ?_))
  refine wpAny_bind (wpAny_isInstance (T := "StopIteration") (b := true) ⟨_, Heap.get?_push_size _ rfl, rfl⟩ PySem.isSubtype_stop ?_)
  refine wpAny_pure (hQ _ ⟨_, Heap.get?_push_of_some _ (Heap.get?_push_of_some _ (Heap.get?_update_self _ ho (Obj.isFreed_of_fields (Obj.data_mapFields hd _))))⟩ (((Heap.SameBut.update ..).extBut.push _).push _))
end
/-- a class whose instances have an own __iter__, without __len__ and __length_hint__ -/
structure ItK (K : PySem.W.Frag) (C fi : Addr) : Prop where
  it : PySem.W.findIn K (.ref C) "__iter__" = some (some (.ref fi))
  itF : PySem.W.isFn K (.ref fi) = true
  nolen : PySem.W.findIn K (.ref C) "__len__" = some none
  nohint : PySem.W.findIn K (.ref C) "__length_hint__" = some none
section
variable {X : Cx} {pins : List (Addr × Obj)} {σ : L2.St} {H : Hp} {s : Shared}
theorem hintK {M : Model} {A : Around} {E : Value → Shared → Prop} {Q : Bool → Shared → Prop} {K : PySem.W.Frag} {a C fi : Addr} {ox : Obj} {od : Option Obj} (hc : ItK K C fi) (hK : K.In s.heap) (J : PySem.W.InstAt s.heap a ox C od) (h : Q true s) :
    wpAny M A (Builtin.List.listLengthHint (.ref a)) Q E s := by
  unfold Builtin.List.listLengthHint
  refine wpAny_bind (wpAny_bind (J.type.here ((PySem.W.looks_findIn hK hc.nolen).here ?_)))
  refine PySem.W.KFB.if_not rfl ?_
  refine PySem.W.KFB.if_not rfl ?_
  refine wpAny_bind (wpAny_bind (J.type.here ((PySem.W.looks_findIn hK hc.nohint).here ?_)))
  exact wpAny_pure h
theorem it_loop {A1 : Around} {it t q : Addr} {xs : List V} {H0 : Hp} {Rs : Result → Shared → Prop} (hh : A1.handled = none) (nqi : q ≠ it) (nti : t ≠ it) (hT : SqT X.K H0 t xs) (htq : t ≠ q) (hl : xs.length ≤ 1000)
    (hdone : ∀ H s, Inv X pins σ H s → (∀ b, b ≠ it → b ≠ q → H b = H0 b) → H q = some (.lst xs) → H it ≠ none → Rs (.ok (.ret .none)) s) :
    ∀ (k i : Nat) (H : Hp) (s : Shared), xs.length - i = k → i ≤ xs.length → Inv X pins σ H s → (∀ b, b ≠ it → b ≠ q → H b = H0 b) → H q = some (.lst (xs.take i)) → H it = some (ItT t it i) →
      codeAny (model X.prog X.w) A1 (.builtin "list.extend.loop" ⟨[.ref q, .ref it, .none], []⟩) Rs s := by
  intro k
  induction k with
  | zero =>
    intro i H s hk hi I hH hq hit
    have ei : i = xs.length := by omega
    subst ei
    have hT' : SqT X.K H t xs := by
      unfold SqT Rd at hT ⊢
      rw [hH t nti htq]
      exact hT
    obtain ⟨its, rv, pl, hz⟩ := I.tuple hT'
    refine codeAny_builtin PySem.F.entry_extend_loop ?_
    rw [Around.under_plainId PySem.F.plain_extend_loop _]
    show wpAny _ A1.in1 (pyNext (.ref it) >>= _) _ _ s
    refine wpAny_bind (tuple_end2 (items := its.toArray) hh (itT_get I hit) (by obtain ⟨o, ho, hc, n, hd⟩ := pl; exact ⟨o, ho, hc, n, hd⟩) (by have := rv.length; simp [← this]) fun h' he hb => ?_)
    have mu : Mut (H it) := by rw [hit]; exact True.intro
    obtain ⟨o', ho'⟩ := he
    have I' := I.write (x := it) (e := it) (t' := s.toks) (o := AnyO it) (h' := h') mu (.inl rfl) (fun b o nb z => hb b o nb z) ⟨_, ho'⟩ (any_ok ho')
    refine wpAny_pure (hdone _ _ I' (fun b h1 h2 => by rw [upd_ne h1]; exact hH b h1 h2) ?_ ?_)
    · rw [upd_ne nqi, hq, List.take_length]
    · rw [upd_same]
      exact fun z => nomatch z
  | succ k ih =>
    intro i H s hk hi I hH hq hit
    have hlt : i < xs.length := by omega
    have hT' : SqT X.K H t xs := by
      unfold SqT Rd at hT ⊢
      rw [hH t nti htq]
      exact hT
    obtain ⟨its, rv, pl, hz⟩ := I.tuple hT'
    obtain ⟨u, hu, ru⟩ := rv.get (i := i) (List.getElem?_eq_getElem hlt)
    refine codeAny_builtin PySem.F.entry_extend_loop ?_
    rw [Around.under_plainId PySem.F.plain_extend_loop _]
    show wpAny _ A1.in1 (pyNext (.ref it) >>= _) _ _ s
    refine wpAny_bind (wpAny_pyNext_tuple_item (items := its.toArray) (x := u) (itT_get I hit) (by obtain ⟨o, ho, hc, n, hd⟩ := pl; exact ⟨o, ho, hc, n, hd⟩) (by rw [List.getElem?_toArray]; exact hu) fun h' e' sb => ?_)
    have mu : Mut (H it) := by rw [hit]; exact True.intro
    have I' := I.write (x := it) (e := it) (t' := s.toks) (o := ItT t it (i + 1)) (h' := h') mu (.inl rfl) (fun b o nb z => (sb.2 b nb).trans z) ⟨_, e'.choose_spec.1⟩ (itT_ok e')
    have hq' : upd H it (ItT t it (i + 1)) q = some (.lst (xs.take i)) := by rw [upd_ne nqi]; exact hq
    show wpAny _ A1.in1 (updateSeq q (·.push u) >>= _) _ _ _
    obtain ⟨z, its2, c, r2, e⟩ := I'.lstM hq'
    have hlen : (xs.take i).length = i := by rw [List.length_take]; omega
    obtain ⟨r2, hl2, e⟩ := (⟨r2, e⟩ : _ ∧ _ ∧ _)
    have l2 : its2.length = i := by rw [← r2.length, hlen]
    refine wpAny_bind (wpAny_updateSeq e rfl (wpAny_pure ⟨plainId_quiet PySem.F.plain_extend_loop _, ?_⟩) (by rw [List.size_toArray, l2, sizeLine_eq]; omega) (by show (its2.toArray.push u).size ≤ sizeLine + 1; rw [Array.size_push, List.size_toArray, l2, sizeLine_eq]; omega))
    refine ih (i + 1) _ _ (by omega) hlt (I'.lset (its' := its2 ++ [u]) (ys := xs.take (i + 1)) (t' := s.toks) hq' e (by simp) ?_ (by rw [List.length_take, sizeLine_eq]; omega)) (fun b h1 h2 => ?_) upd_same ?_
    · rw [List.take_add_one, List.getElem?_eq_getElem hlt]
      exact r2.append (.cons ru .nil)
    · rw [upd_ne h2, upd_ne h1]
      exact hH b h1 h2
    · rw [upd_ne (Ne.symm nqi), upd_same]

/-- list(o): __iter__ hands an iterator over a tuple out -/
def rListIt (K : PySem.W.Frag) (C : Addr) (sp : Sp) (E : XK) : List V → Hp → VK → Prop := fun xs H Q => ∃ a dx fs, xs = [.ref a] ∧ H a = some (.ins C dx fs) ∧
  ∀ q, H q = none → sp [.ref a] (upd H q (.lst [])) (fun v H' => ∃ it t zs, v = .ref it ∧ H' it = some (ItT t it 0) ∧ SqT K H' t zs ∧ t ≠ it ∧ t ≠ q ∧ q ≠ it ∧ H' q = some (.lst []) ∧ H' a = some (.ins C dx fs) ∧ zs.length ≤ 1000 ∧
    ∀ H'', (∀ b, b ≠ it → b ≠ q → H'' b = H' b) → H'' q = some (.lst zs) → H'' it ≠ none → Q (.ref q) H'') E
variable {CI : CXT} {C fi : Addr} {fdI : FuncData} {psI : List Str} {spI : Sp} {EI : XK} {n : Nat}
theorem extend_it {a dx q : Addr} {fs : List (Str × V)} {Hq : Hp} {Q : VK} (sb : Sub X n X.A.in1.in1) (hA : X.A.in1.handled = none) (hc : ItK X.K C fi) (FI : FnOk X.prog X.w X.K X.mg X.base CI n fi fdI psI spI) (bI : Binds X.K fdI psI []) (xI : Passes CI X EI) (I2 : Inv X pins σ Hq s) (hqq : Hq q = some (.lst [])) (ha2 : Hq a = some (.ins C dx fs))
    (hsp : spI [.ref a] Hq (fun v H' => ∃ it t zs, v = .ref it ∧ H' it = some (ItT t it 0) ∧ SqT X.K H' t zs ∧ t ≠ it ∧ t ≠ q ∧ q ≠ it ∧ H' q = some (.lst []) ∧ H' a = some (.ins C dx fs) ∧ zs.length ≤ 1000 ∧
      ∀ H'', (∀ b, b ≠ it → b ≠ q → H'' b = H' b) → H'' q = some (.lst zs) → H'' it ≠ none → Q (.ref q) H'') EI) :
    wpAny (model X.prog X.w) X.A.in1.in1 (Builtin.List.listExtendWith (.ref q) (.ref a) .none)
      (fun fin s' => match fin with | .done f => wants (fun r s₂ => r = .none ∧ EP X pins σ Q (.ref q) s₂) X.xe (.ok f) s' | .again c' => c'.quiet = true ∧ codeAny (model X.prog X.w) X.A.in1 c' (wants (fun r s₂ => r = .none ∧ EP X pins σ Q (.ref q) s₂) X.xe) s') (fun e s' => wants (fun r s₂ => r = .none ∧ EP X pins σ Q (.ref q) s₂) X.xe (.error e) s') s := by
  have hne : q ≠ a := ne_of hqq ha2 (fun z => nomatch z)
  obtain ⟨mA, J, _⟩ := ins_get I2.hok ha2
  obtain ⟨od, J, _⟩ := J.look
  obtain ⟨m0, hF⟩ := I2.fr
  unfold Builtin.List.listExtendWith
  refine wpAny_bind (J.type.here ?_)
  have h1 : Builtin.List.listSameRef (.ref q) (.ref a) = false := by simp [Builtin.List.listSameRef, hne]
  have h2 : (Value.ref C == Value.type "list") = false := rfl
  have h3 : (Value.ref C == Value.type "tuple") = false := rfl
  simp only [h1, h2, h3, Bool.or_false, Bool.false_eq_true, if_false]
  refine wpAny_bind (PySem.W.owit_iter hF I2.ok.mod.kin J hc.it hc.itF ?_)
  have e0 : Env0 X.prog X.w X.K X.mg X.base X.A.in1.in1 X.stack s Hq := by
    have e := I2.env0
    exact ⟨by rw [sb.fr]; exact e.frames, e.mod, e.bs, e.bsz, e.funs, e.frf, e.hok, e.bare⟩
  have hl := FI.len _ _ _ _ hsp
  have r2 : Vals [V.ref a] [Value.ref a] := .cons rfl .nil
  refine wpAny_call (codeAny_mono (FI.run X.A.in1.in1 X.stack s Hq ⟨[.ref a], []⟩ [.ref a] [.ref a] _ EI sb.room e0 (by
    have := bI s [.ref a] I2.kIn (by simpa using hl)
    simpa using this) r2 hsp) fun r s' hq' => ?_)
  cases r with
  | error e => exact xI pins σ Hq s e s' I2 hq'
  | ok fl =>
    cases fl with
    | next => exact False.elim hq'
    | brk => exact False.elim hq'
    | cont => exact False.elim hq'
    | ret u =>
      obtain ⟨v, H', I', rv, it, t, zs, ev, hit, hT, nti, ntq, nqi, hq2, ha', hz, q2⟩ := I2.after hq'
      subst ev
      cases rv
      unfold PySem.W.OwitIt
      have hty := (itT_get I' hit).typeIs (s := s')
      refine wpAny_specialOf hty F.slot_tuple_iterator_next.lookup ?_
      obtain ⟨mA', J', _⟩ := ins_get I'.hok ha'
      obtain ⟨od', J', _⟩ := J'.look
      refine wpAny_bind (wpAny_holding (hintK hc I'.kIn J' ?_))
      obtain ⟨z, its, k, r3, hl3, e3⟩ := I'.lstM hq2
      cases r3
      have hloop : ∀ s2, Inv X pins σ H' s2 → codeAny (model X.prog X.w) X.A.in1 (.builtin "list.extend.loop" ⟨[.ref q, .ref it, .none], []⟩) (wants (fun r s₂ => r = .none ∧ EP X pins σ Q (.ref q) s₂) X.xe) s2 := fun s2 I4 =>
        it_loop (A1 := X.A.in1) hA nqi nti hT ntq hz (fun H5 s5 I5 a1 a2 a3 => ⟨rfl, .ref q, H5, I5, rfl, q2 H5 a1 a2 a3⟩) _ 0 H' s2 rfl (Nat.zero_le _) I4 (fun _ _ _ => rfl) hq2 hit
      refine wpAny_ite_split (fun _ => ?_) (fun _ => wpAny_pure ⟨plainId_quiet PySem.F.plain_extend_loop _, hloop s' I'⟩)
      refine wpAny_bind (wpAny_rule ?_)
      refine wpAny_bind ?_
      show wpAny _ _ (updateSeq q (·.push .none) >>= fun _ => updateSeq q (·.pop)) _ _ _
      refine wpAny_bind (wpAny_updateSeq e3 rfl ?_)
      have I3 := I'.lset (f := (·.push Value.none)) (its' := [Value.none]) (ys := [.non]) (t' := s'.toks) hq2 e3 (by simp) (.cons rfl .nil) (by rw [List.length_singleton, sizeLine_eq]; decide)
      obtain ⟨z4, its4, k4, r4, hl4, e4⟩ := I3.lstM upd_same
      obtain ⟨u4, rfl, ru4⟩ := r4.one
      refine wpAny_updateSeq e4 rfl ?_ (by show 1 ≤ sizeLine; rw [sizeLine_eq]; decide) (by show 0 ≤ sizeLine + 1; exact Nat.zero_le _)
      refine wpAny_pure ⟨plainId_quiet PySem.F.plain_extend_loop _, hloop _ ?_⟩
      have I5 := I3.lset (f := (·.pop)) (its := [u4]) (its' := []) (ys := []) (t' := s'.toks) upd_same e4 (by rfl) .nil (Nat.zero_le _)
      rw [upd_upd] at I5
      have hH : upd H' q (.lst []) = H' := by
        funext b
        by_cases hb : b = q
        · rw [hb, upd_same, hq2]
        · rw [upd_ne hb]
      rw [hH] at I5
      exact I5
theorem call_listIt (hc : ItK X.K C fi) (FI : FnOk X.prog X.w X.K X.mg X.base CI n fi fdI psI spI) (bI : Binds X.K fdI psI []) (xI : Passes CI X EI) (hr : Room (n + 2) X.A) : CallR X (.type "list") (rListIt X.K C spI EI) := by
  intro pins s σ H xs us Q I rv h
  obtain ⟨a, dx, fs, rfl, ha, hq⟩ := h
  obtain ⟨u, rfl, ru⟩ := rv.one
  cases ru
  have sb : Sub X n X.A.in1.in1 := (Sub.in1 (Sub.in1 (⟨hr, rfl⟩ : Sub X (n + 2) X.A)))
  refine callType_codes (Q₁ := fun obj s₁ => obj = .ref s.heap.objs.size ∧ s₁ = { s with heap := s.heap.push { cls := .type "list", data := .seq #[] } }) PySem.F.called_list (PySem.F.typeCall_list_1 _) PySem.F.entry_list_init
    (code_list_new _ ⟨rfl, rfl⟩) fun obj s₁ h₁ => ?_
  obtain ⟨rfl, rfl⟩ := h₁
  have hS : (s.heap.push { cls := .type "list", data := .seq #[] }).get? s.heap.objs.size = some { cls := .type "list", data := .seq #[] } := Heap.get?_push_size _ rfl
  refine ⟨⟨_, hS, rfl⟩, PySem.F.args_list_init_2 _ _, ?_⟩
  have fr : H s.heap.objs.size = none := I.hok.fresh (Nat.le_refl _)
  have hsp := hq _ fr
  have I1 : Inv X pins σ (upd H s.heap.objs.size (.lst [])) { s with heap := s.heap.push { cls := .type "list", data := .seq #[] } } := I.lnew (its := []) (t' := s.toks) .nil (Nat.zero_le _)
  show wpAny _ _ (do let old ← Builtin.List.listItems (.ref s.heap.objs.size); Builtin.List.listUpdate (.ref s.heap.objs.size) (fun _ => #[]); letGo old.toList.reverse; Builtin.List.listExtendWith (.ref s.heap.objs.size) (.ref a) .none) _ _ _
  refine wpAny_bind ?_
  unfold Builtin.List.listItems
  refine wpAny_bind (wpAny_seqItems hS rfl (wpAny_pure ?_))
  show wpAny _ _ (updateSeq s.heap.objs.size (fun _ => #[]) >>= fun _ => letGo (#[] : Array Value).toList.reverse >>= fun _ => Builtin.List.listExtendWith (.ref s.heap.objs.size) (.ref a) .none) _ _ _
  refine wpAny_bind (wpAny_updateSeq hS rfl ?_)
  have I2 := I1.lset (f := fun _ => #[]) (its := []) (its' := []) (ys := []) (t' := s.toks) upd_same hS rfl .nil (Nat.zero_le _)
  rw [upd_upd] at I2
  refine wpAny_bind (wpAny_letGo ?_)
  have ha2 : upd H s.heap.objs.size (.lst []) a = some (.ins C dx fs) := by rw [upd_ne (ne_of_none ha fr)]; exact ha
  exact extend_it sb hr.hd hc FI bI xI I2 upd_same ha2 hsp
end
end D

namespace D
open PySem PySem.Spec PyProof.Rows L2
local macro_rules | `(tactic| walk_at "st") => `(tactic| first | exact SqT.of (by assumption) | exact Or.inl (by assumption) | exact SqT.of upd_same | fail "st")
local macro_rules | `(tactic| walk_at "ixt") => `(tactic| refine ⟨_, _, _, _, rfl, rfl, (by walk_at "st" : SqT _ _ _ _), by rfl, ?_⟩)
local macro_rules | `(tactic| walk_at "sq") => `(tactic| first | exact SqL.of (by assumption) | assumption | exact Or.inl (by assumption) | exact SqL.of upd_same | fail "sq")
local macro_rules | `(tactic| walk_at "ix") => `(tactic| refine ⟨_, _, _, _, rfl, rfl, (by walk_at "sq" : SqL _ _ _ _), by rfl, ?_⟩)
local macro_rules | `(tactic| walk_at "set") => `(tactic| refine ⟨_, _, _, _, rfl, rfl, by first | assumption | exact upd_same, by rfl, ?_⟩)
local macro_rules | `(tactic| walk_at "len") => `(tactic| refine ⟨_, _, rfl, Or.inl (by walk_at "sq" : SqL _ _ _ _), ?_⟩)
local macro_rules | `(tactic| walk_at "g") => `(tactic| repeat (first | refine ⟨_, rfl, ?_⟩ | refine ⟨_, _, rfl, rfl, ?_⟩ | refine ⟨Or.inr (by decide), ?_⟩ | refine ⟨Or.inl (by decide), ?_⟩ | refine ⟨(by decide : (0 : Int) < _), ?_⟩ | refine ⟨(⟨by decide, by decide⟩ : CDiv _ _), ?_⟩ | refine ⟨(⟨by decide, by decide, by decide⟩ : CPow _ _), ?_⟩ | refine Or.inl ⟨_, rfl, ?_⟩ | refine ⟨rfl, ?_⟩ | walk_at "ix" | walk_at "ixt" | walk_at "len" | fail "g"))
local macro_rules | `(tactic| walk_at "if") => `(tactic| refine ite2 (fun e => ?_) (fun e => ?_))
def topS (i : Nat) : Stmt := PySem.Challenge.pw_drawnanew_k26_known_numbers.main.body.getD i (.Pass ⟨0, 0, 0, 0⟩)
abbrev s_BadForm___init__ : Stmt := inClass (topS 2) 0
theorem sc_BadForm___init__ : FnScope ["self", "part"] ["self", "part"] (defScope s_BadForm___init__) := ⟨rfl, rfl, rfl, by decide +kernel, rfl, by decide +kernel, by decide +kernel⟩
abbrev s_NoName___init__ : Stmt := inClass (topS 3) 0
theorem sc_NoName___init__ : FnScope ["self", "name"] ["self", "name"] (defScope s_NoName___init__) := ⟨rfl, rfl, rfl, by decide +kernel, rfl, by decide +kernel, by decide +kernel⟩
abbrev s_BadRow___init__ : Stmt := inClass (topS 4) 0
theorem sc_BadRow___init__ : FnScope ["self", "row"] ["self", "row"] (defScope s_BadRow___init__) := ⟨rfl, rfl, rfl, by decide +kernel, rfl, by decide +kernel, by decide +kernel⟩
abbrev s_NoItem___init__ : Stmt := inClass (topS 5) 0
theorem sc_NoItem___init__ : FnScope ["self", "item"] ["self", "item"] (defScope s_NoItem___init__) := ⟨rfl, rfl, rfl, by decide +kernel, rfl, by decide +kernel, by decide +kernel⟩
abbrev s_is_whole : Stmt := topS 10
theorem sc_is_whole : FnScope ["thing"] ["thing"] (defScope s_is_whole) := ⟨rfl, rfl, rfl, by decide +kernel, rfl, by decide +kernel, by decide +kernel⟩
abbrev s_is_value : Stmt := topS 11
theorem sc_is_value : FnScope ["thing"] ["thing"] (defScope s_is_value) := ⟨rfl, rfl, rfl, by decide +kernel, rfl, by decide +kernel, by decide +kernel⟩
abbrev s_is_name : Stmt := topS 12
theorem sc_is_name : FnScope ["thing", "sign"] ["thing"] (defScope s_is_name) := ⟨rfl, rfl, rfl, by decide +kernel, rfl, by decide +kernel, by decide +kernel⟩
abbrev s_inner_forms : Stmt := topS 13
theorem sc_inner_forms : FnScope ["form"] ["form"] (defScope s_inner_forms) := ⟨rfl, rfl, rfl, by decide +kernel, rfl, by decide +kernel, by decide +kernel⟩
abbrev s__well_made : Stmt := topS 14
theorem sc__well_made : FnScope ["part"] ["part"] (defScope s__well_made) := ⟨rfl, rfl, rfl, by decide +kernel, rfl, by decide +kernel, by decide +kernel⟩
abbrev s_check_form : Stmt := topS 15
theorem sc_check_form : FnScope ["parts", "deepest", "waiting", "part", "level", "inner", "form"] ["parts"] (defScope s_check_form) := ⟨rfl, rfl, rfl, by decide +kernel, rfl, by decide +kernel, by decide +kernel⟩
abbrev s_value_of : Stmt := topS 16
theorem sc_value_of : FnScope ["form", "values", "word", "first", "second"] ["form", "values"] (defScope s_value_of) := ⟨rfl, rfl, rfl, by decide +kernel, rfl, by decide +kernel, by decide +kernel⟩
abbrev s_names_in : Stmt := topS 17
theorem sc_names_in : FnScope ["form", "names", "inner", "name"] ["form"] (defScope s_names_in) := ⟨rfl, rfl, rfl, by decide +kernel, rfl, by decide +kernel, by decide +kernel⟩
abbrev s_is_row : Stmt := topS 20
theorem sc_is_row : FnScope ["thing", "item"] ["thing"] (defScope s_is_row) := ⟨rfl, rfl, rfl, by decide +kernel, rfl, by decide +kernel, by decide +kernel⟩
abbrev s_check_rows : Stmt := topS 21
theorem sc_check_rows : FnScope ["rows", "row"] ["rows"] (defScope s_check_rows) := ⟨rfl, rfl, rfl, by decide +kernel, rfl, by decide +kernel, by decide +kernel⟩
abbrev s__key_value : Stmt := topS 22
theorem sc__key_value : FnScope ["parts", "item", "at"] ["parts", "item", "at"] (defScope s__key_value) := ⟨rfl, rfl, rfl, by decide +kernel, rfl, by decide +kernel, by decide +kernel⟩
abbrev s_Key___init__ : Stmt := inClass (topS 23) 0
theorem sc_Key___init__ : FnScope ["self", "form", "name"] ["self", "form"] (defScope s_Key___init__) := ⟨rfl, rfl, rfl, by decide +kernel, rfl, by decide +kernel, by decide +kernel⟩
abbrev s_Key_parts : Stmt := inClass (topS 23) 1
theorem sc_Key_parts : FnScope ["self"] ["self"] (defScope s_Key_parts) := ⟨rfl, rfl, rfl, by decide +kernel, rfl, by decide +kernel, by decide +kernel⟩
abbrev s_Key___call__ : Stmt := inClass (topS 23) 2
theorem sc_Key___call__ : FnScope ["self", "item", "at"] ["self", "item", "at"] (defScope s_Key___call__) := ⟨rfl, rfl, rfl, by decide +kernel, rfl, by decide +kernel, by decide +kernel⟩
abbrev s_Key___le__ : Stmt := inClass (topS 23) 3
theorem sc_Key___le__ : FnScope ["self", "other", "values", "told", "item", "at", "first", "second"] ["self", "other"] (defScope s_Key___le__) := ⟨rfl, rfl, rfl, by decide +kernel, rfl, by decide +kernel, by decide +kernel⟩
abbrev s_Key_idents : Stmt := inClass (topS 23) 4
theorem sc_Key_idents : FnScope ["self", "row"] ["self", "row"] (defScope s_Key_idents) := ⟨rfl, rfl, rfl, by decide +kernel, rfl, by decide +kernel, by decide +kernel⟩
abbrev s__idents : Stmt := topS 24
theorem sc__idents : FnScope ["key", "row", "values", "at", "item", "value"] ["key", "row"] (defScope s__idents) := ⟨rfl, rfl, rfl, by decide +kernel, rfl, by decide +kernel, by decide +kernel⟩
abbrev s_Known___init__ : Stmt := inClass (topS 26) 0
theorem sc_Known___init__ : FnScope ["self", "key", "row"] ["self", "key", "row"] (defScope s_Known___init__) := ⟨rfl, rfl, rfl, by decide +kernel, rfl, by decide +kernel, by decide +kernel⟩
abbrev s_Known___getitem__ : Stmt := inClass (topS 26) 1
theorem sc_Known___getitem__ : FnScope ["self", "item"] ["self", "item"] (defScope s_Known___getitem__) := ⟨rfl, rfl, rfl, by decide +kernel, rfl, by decide +kernel, by decide +kernel⟩
abbrev s_Known___setitem__ : Stmt := inClass (topS 26) 2
theorem sc_Known___setitem__ : FnScope ["self", "item", "number"] ["self", "item", "number"] (defScope s_Known___setitem__) := ⟨rfl, rfl, rfl, by decide +kernel, rfl, by decide +kernel, by decide +kernel⟩
abbrev s_Known___iter__ : Stmt := inClass (topS 26) 3
theorem sc_Known___iter__ : FnScope ["self"] ["self"] (defScope s_Known___iter__) := ⟨rfl, rfl, rfl, by decide +kernel, rfl, by decide +kernel, by decide +kernel⟩
abbrev s_Known_show : Stmt := inClass (topS 26) 4
theorem sc_Known_show : FnScope ["self", "row", "idents", "ident", "item"] ["self", "row"] (defScope s_Known_show) := ⟨rfl, rfl, rfl, by decide +kernel, rfl, by decide +kernel, by decide +kernel⟩
abbrev s_Things___init__ : Stmt := inClass (topS 27) 0
theorem sc_Things___init__ : FnScope ["self", "row"] ["self", "row"] (defScope s_Things___init__) := ⟨rfl, rfl, rfl, by decide +kernel, rfl, by decide +kernel, by decide +kernel⟩
abbrev s_Things___getitem__ : Stmt := inClass (topS 27) 1
theorem sc_Things___getitem__ : FnScope ["self", "item"] ["self", "item"] (defScope s_Things___getitem__) := ⟨rfl, rfl, rfl, by decide +kernel, rfl, by decide +kernel, by decide +kernel⟩
abbrev s_Things___setitem__ : Stmt := inClass (topS 27) 2
theorem sc_Things___setitem__ : FnScope ["self", "item", "number"] ["self", "item", "number"] (defScope s_Things___setitem__) := ⟨rfl, rfl, rfl, by decide +kernel, rfl, by decide +kernel, by decide +kernel⟩
abbrev s_Things___iter__ : Stmt := inClass (topS 27) 3
theorem sc_Things___iter__ : FnScope ["self"] ["self"] (defScope s_Things___iter__) := ⟨rfl, rfl, rfl, by decide +kernel, rfl, by decide +kernel, by decide +kernel⟩
abbrev s_Things_show : Stmt := inClass (topS 27) 4
theorem sc_Things_show : FnScope ["self", "row", "item"] ["self", "row"] (defScope s_Things_show) := ⟨rfl, rfl, rfl, by decide +kernel, rfl, by decide +kernel, by decide +kernel⟩
abbrev s__law_mixed : Stmt := topS 29
theorem sc__law_mixed : FnScope ["_law_number_here", "_law_turn", "_law_first", "_law_second"] ["_law_number_here", "_law_turn"] (defScope s__law_mixed) := ⟨rfl, rfl, rfl, by decide +kernel, rfl, by decide +kernel, by decide +kernel⟩
abbrev s__law_bag : Stmt := topS 30
theorem sc__law_bag : FnScope ["_law_script", "_law_cell", "_law_numbers", "_law_seed", "_law_at"] ["_law_script"] (defScope s__law_bag) := ⟨rfl, rfl, rfl, by decide +kernel, rfl, by decide +kernel, by decide +kernel⟩
abbrev s__law_pick : Stmt := topS 31
theorem sc__law_pick : FnScope ["_law_bag_here", "_law_many", "_law_turn", "_law_cell", "_law_worth"] ["_law_bag_here", "_law_many"] (defScope s__law_pick) := ⟨rfl, rfl, rfl, by decide +kernel, rfl, by decide +kernel, by decide +kernel⟩
abbrev s__law_choice : Stmt := topS 32
theorem sc__law_choice : FnScope ["_law_bag_here", "_law_things"] ["_law_bag_here", "_law_things"] (defScope s__law_choice) := ⟨rfl, rfl, rfl, by decide +kernel, rfl, by decide +kernel, by decide +kernel⟩
abbrev s__law_mingled : Stmt := topS 33
theorem sc__law_mingled : FnScope ["_law_bag_here", "_law_things", "_law_left", "_law_out", "_law_step_here"] ["_law_bag_here", "_law_things"] (defScope s__law_mingled) := ⟨rfl, rfl, rfl, by decide +kernel, rfl, by decide +kernel, by decide +kernel⟩
abbrev s__law_number : Stmt := topS 34
theorem sc__law_number : FnScope ["_law_thing"] ["_law_thing"] (defScope s__law_number) := ⟨rfl, rfl, rfl, by decide +kernel, rfl, by decide +kernel, by decide +kernel⟩
abbrev s__law_form : Stmt := topS 35
theorem sc__law_form : FnScope ["_law_bag_here", "_law_readable", "_law_levels", "_law_way", "_law_first", "_law_second"] ["_law_bag_here", "_law_readable", "_law_levels"] (defScope s__law_form) := ⟨rfl, rfl, rfl, by decide +kernel, rfl, by decide +kernel, by decide +kernel⟩
abbrev s__law_value : Stmt := topS 36
theorem sc__law_value : FnScope ["_law_form_here", "_law_worths", "_law_word", "_law_first", "_law_second"] ["_law_form_here", "_law_worths"] (defScope s__law_value) := ⟨rfl, rfl, rfl, by decide +kernel, rfl, by decide +kernel, by decide +kernel⟩
abbrev s__law_idents : Stmt := topS 37
theorem sc__law_idents : FnScope ["_law_key", "_law_row_here", "_law_out", "_law_at", "_law_item", "_law_worth", "_law_told"] ["_law_key", "_law_row_here"] (defScope s__law_idents) := ⟨rfl, rfl, rfl, by decide +kernel, rfl, by decide +kernel, by decide +kernel⟩
abbrev s__law_row : Stmt := topS 38
theorem sc__law_row : FnScope ["_law_bag_here", "_law_most", "_law_items"] ["_law_bag_here", "_law_most"] (defScope s__law_row) := ⟨rfl, rfl, rfl, by decide +kernel, rfl, by decide +kernel, by decide +kernel⟩
abbrev s__law_any_key : Stmt := topS 39
theorem sc__law_any_key : FnScope ["_law_bag_here", "_law_way", "_law_worth", "_law_spot", "_law_item"] ["_law_bag_here"] (defScope s__law_any_key) := ⟨rfl, rfl, rfl, by decide +kernel, rfl, by decide +kernel, by decide +kernel⟩
abbrev s__law_changed : Stmt := topS 40
theorem sc__law_changed : FnScope ["_law_bag_here", "_law_row_here", "_law_items", "_law_spare", "_law_way", "_law_item"] ["_law_bag_here", "_law_row_here"] (defScope s__law_changed) := ⟨rfl, rfl, rfl, by decide +kernel, rfl, by decide +kernel, by decide +kernel⟩
abbrev s__law_rows_shown : Stmt := topS 41
theorem sc__law_rows_shown : FnScope ["_law_bag_here", "_law_rows", "_law_way", "_law_step_here", "_law_old"] ["_law_bag_here"] (defScope s__law_rows_shown) := ⟨rfl, rfl, rfl, by decide +kernel, rfl, by decide +kernel, by decide +kernel⟩
abbrev s__law_known_by : Stmt := topS 42
theorem sc__law_known_by : FnScope ["_law_form_here", "_law_row_here"] ["_law_form_here", "_law_row_here"] (defScope s__law_known_by) := ⟨rfl, rfl, rfl, by decide +kernel, rfl, by decide +kernel, by decide +kernel⟩
abbrev s__law_shows : Stmt := topS 43
theorem sc__law_shows : FnScope ["_law_model", "_law_row_here", "_law_numbers", "_law_mark"] ["_law_model", "_law_row_here"] (defScope s__law_shows) := ⟨rfl, rfl, rfl, by decide +kernel, rfl, by decide +kernel, by decide +kernel⟩
abbrev s__law_agrees : Stmt := topS 44
theorem sc__law_agrees : FnScope ["_law_box", "_law_model", "_law_marks", "_law_at", "_law_told"] ["_law_box", "_law_model"] (defScope s__law_agrees) := ⟨rfl, rfl, rfl, by decide +kernel, rfl, by decide +kernel, by decide +kernel⟩
abbrev s__law_not_read : Stmt := topS 45
theorem sc__law_not_read : FnScope ["_law_box", "_law_item", "_law_told", "e"] ["_law_box", "_law_item"] (defScope s__law_not_read) := ⟨rfl, rfl, rfl, by decide +kernel, rfl, by decide +kernel, by decide +kernel⟩
abbrev s__law_not_set : Stmt := topS 46
theorem sc__law_not_set : FnScope ["_law_box", "_law_item", "e"] ["_law_box", "_law_item"] (defScope s__law_not_set) := ⟨rfl, rfl, rfl, by decide +kernel, rfl, by decide +kernel, by decide +kernel⟩
abbrev s__law_step : Stmt := topS 47
theorem sc__law_step : FnScope ["_law_bag_here", "_law_box", "_law_model", "_law_rows", "_law_way", "_law_row_here", "_law_shown", "_law_at", "_law_number_here", "_law_numbers", "_law_item", "_law_missing"] ["_law_bag_here", "_law_box", "_law_model", "_law_rows"] (defScope s__law_step) := ⟨rfl, rfl, rfl, by decide +kernel, rfl, by decide +kernel, by decide +kernel⟩
abbrev s_law : Stmt := topS 48
theorem sc_law : FnScope ["_law_script", "_law_bag_here", "_law_forms", "_law_rows", "_law_starts", "_law_boxes", "_law_models", "_law_which", "_law_step_here", "_law_other", "_law_form_here"] ["_law_script"] (defScope s_law) := ⟨rfl, rfl, rfl, by decide +kernel, rfl, by decide +kernel, by decide +kernel⟩

structure Txt (K : PySem.W.Frag) (mg : Str → Option Value) where
  f_is_whole : Addr
  d_is_whole : FuncData
  F_is_whole : Fun K "is_whole" "is_whole" s_is_whole f_is_whole d_is_whole
  b_is_whole : Binds K d_is_whole ["thing"] []
  g_is_whole : mg "is_whole" = some (.ref f_is_whole)
  f_is_value : Addr
  d_is_value : FuncData
  F_is_value : Fun K "is_value" "is_value" s_is_value f_is_value d_is_value
  b_is_value : Binds K d_is_value ["thing"] []
  g_is_value : mg "is_value" = some (.ref f_is_value)
  f_is_name : Addr
  d_is_name : FuncData
  F_is_name : Fun K "is_name" "is_name" s_is_name f_is_name d_is_name
  b_is_name : Binds K d_is_name ["thing"] []
  g_is_name : mg "is_name" = some (.ref f_is_name)
  f_inner_forms : Addr
  d_inner_forms : FuncData
  F_inner_forms : Fun K "inner_forms" "inner_forms" s_inner_forms f_inner_forms d_inner_forms
  b_inner_forms : Binds K d_inner_forms ["form"] []
  g_inner_forms : mg "inner_forms" = some (.ref f_inner_forms)
  f__well_made : Addr
  d__well_made : FuncData
  F__well_made : Fun K "_well_made" "_well_made" s__well_made f__well_made d__well_made
  b__well_made : Binds K d__well_made ["part"] []
  g__well_made : mg "_well_made" = some (.ref f__well_made)
  f_check_form : Addr
  d_check_form : FuncData
  F_check_form : Fun K "check_form" "check_form" s_check_form f_check_form d_check_form
  b_check_form : Binds K d_check_form ["parts"] []
  g_check_form : mg "check_form" = some (.ref f_check_form)
  f_value_of : Addr
  d_value_of : FuncData
  F_value_of : Fun K "value_of" "value_of" s_value_of f_value_of d_value_of
  b_value_of : Binds K d_value_of ["form", "values"] []
  g_value_of : mg "value_of" = some (.ref f_value_of)
  f_names_in : Addr
  d_names_in : FuncData
  F_names_in : Fun K "names_in" "names_in" s_names_in f_names_in d_names_in
  b_names_in : Binds K d_names_in ["form"] []
  g_names_in : mg "names_in" = some (.ref f_names_in)
  f_is_row : Addr
  d_is_row : FuncData
  F_is_row : Fun K "is_row" "is_row" s_is_row f_is_row d_is_row
  b_is_row : Binds K d_is_row ["thing"] []
  g_is_row : mg "is_row" = some (.ref f_is_row)
  f_check_rows : Addr
  d_check_rows : FuncData
  F_check_rows : Fun K "check_rows" "check_rows" s_check_rows f_check_rows d_check_rows
  b_check_rows : Binds K d_check_rows ["rows"] []
  g_check_rows : mg "check_rows" = some (.ref f_check_rows)
  f__key_value : Addr
  d__key_value : FuncData
  F__key_value : Fun K "_key_value" "_key_value" s__key_value f__key_value d__key_value
  b__key_value : Binds K d__key_value ["parts", "item", "at"] []
  g__key_value : mg "_key_value" = some (.ref f__key_value)
  f__idents : Addr
  d__idents : FuncData
  F__idents : Fun K "_idents" "_idents" s__idents f__idents d__idents
  b__idents : Binds K d__idents ["key", "row"] []
  g__idents : mg "_idents" = some (.ref f__idents)
  f__law_mixed : Addr
  d__law_mixed : FuncData
  F__law_mixed : Fun K "_law_mixed" "_law_mixed" s__law_mixed f__law_mixed d__law_mixed
  b__law_mixed : Binds K d__law_mixed ["_law_number_here", "_law_turn"] []
  g__law_mixed : mg "_law_mixed" = some (.ref f__law_mixed)
  f__law_bag : Addr
  d__law_bag : FuncData
  F__law_bag : Fun K "_law_bag" "_law_bag" s__law_bag f__law_bag d__law_bag
  b__law_bag : Binds K d__law_bag ["_law_script"] []
  g__law_bag : mg "_law_bag" = some (.ref f__law_bag)
  f__law_pick : Addr
  d__law_pick : FuncData
  F__law_pick : Fun K "_law_pick" "_law_pick" s__law_pick f__law_pick d__law_pick
  b__law_pick : Binds K d__law_pick ["_law_bag_here", "_law_many"] []
  g__law_pick : mg "_law_pick" = some (.ref f__law_pick)
  f__law_choice : Addr
  d__law_choice : FuncData
  F__law_choice : Fun K "_law_choice" "_law_choice" s__law_choice f__law_choice d__law_choice
  b__law_choice : Binds K d__law_choice ["_law_bag_here", "_law_things"] []
  g__law_choice : mg "_law_choice" = some (.ref f__law_choice)
  f__law_mingled : Addr
  d__law_mingled : FuncData
  F__law_mingled : Fun K "_law_mingled" "_law_mingled" s__law_mingled f__law_mingled d__law_mingled
  b__law_mingled : Binds K d__law_mingled ["_law_bag_here", "_law_things"] []
  g__law_mingled : mg "_law_mingled" = some (.ref f__law_mingled)
  f__law_number : Addr
  d__law_number : FuncData
  F__law_number : Fun K "_law_number" "_law_number" s__law_number f__law_number d__law_number
  b__law_number : Binds K d__law_number ["_law_thing"] []
  g__law_number : mg "_law_number" = some (.ref f__law_number)
  f__law_form : Addr
  d__law_form : FuncData
  F__law_form : Fun K "_law_form" "_law_form" s__law_form f__law_form d__law_form
  b__law_form : Binds K d__law_form ["_law_bag_here", "_law_readable", "_law_levels"] []
  g__law_form : mg "_law_form" = some (.ref f__law_form)
  f__law_value : Addr
  d__law_value : FuncData
  F__law_value : Fun K "_law_value" "_law_value" s__law_value f__law_value d__law_value
  b__law_value : Binds K d__law_value ["_law_form_here", "_law_worths"] []
  g__law_value : mg "_law_value" = some (.ref f__law_value)
  f__law_idents : Addr
  d__law_idents : FuncData
  F__law_idents : Fun K "_law_idents" "_law_idents" s__law_idents f__law_idents d__law_idents
  b__law_idents : Binds K d__law_idents ["_law_key", "_law_row_here"] []
  g__law_idents : mg "_law_idents" = some (.ref f__law_idents)
  f__law_row : Addr
  d__law_row : FuncData
  F__law_row : Fun K "_law_row" "_law_row" s__law_row f__law_row d__law_row
  b__law_row : Binds K d__law_row ["_law_bag_here", "_law_most"] []
  g__law_row : mg "_law_row" = some (.ref f__law_row)
  f__law_any_key : Addr
  d__law_any_key : FuncData
  F__law_any_key : Fun K "_law_any_key" "_law_any_key" s__law_any_key f__law_any_key d__law_any_key
  b__law_any_key : Binds K d__law_any_key ["_law_bag_here"] []
  g__law_any_key : mg "_law_any_key" = some (.ref f__law_any_key)
  f__law_changed : Addr
  d__law_changed : FuncData
  F__law_changed : Fun K "_law_changed" "_law_changed" s__law_changed f__law_changed d__law_changed
  b__law_changed : Binds K d__law_changed ["_law_bag_here", "_law_row_here"] []
  g__law_changed : mg "_law_changed" = some (.ref f__law_changed)
  f__law_rows_shown : Addr
  d__law_rows_shown : FuncData
  F__law_rows_shown : Fun K "_law_rows_shown" "_law_rows_shown" s__law_rows_shown f__law_rows_shown d__law_rows_shown
  b__law_rows_shown : Binds K d__law_rows_shown ["_law_bag_here"] []
  g__law_rows_shown : mg "_law_rows_shown" = some (.ref f__law_rows_shown)
  f__law_known_by : Addr
  d__law_known_by : FuncData
  F__law_known_by : Fun K "_law_known_by" "_law_known_by" s__law_known_by f__law_known_by d__law_known_by
  b__law_known_by : Binds K d__law_known_by ["_law_form_here", "_law_row_here"] []
  g__law_known_by : mg "_law_known_by" = some (.ref f__law_known_by)
  f__law_shows : Addr
  d__law_shows : FuncData
  F__law_shows : Fun K "_law_shows" "_law_shows" s__law_shows f__law_shows d__law_shows
  b__law_shows : Binds K d__law_shows ["_law_model", "_law_row_here"] []
  g__law_shows : mg "_law_shows" = some (.ref f__law_shows)
  f__law_agrees : Addr
  d__law_agrees : FuncData
  F__law_agrees : Fun K "_law_agrees" "_law_agrees" s__law_agrees f__law_agrees d__law_agrees
  b__law_agrees : Binds K d__law_agrees ["_law_box", "_law_model"] []
  g__law_agrees : mg "_law_agrees" = some (.ref f__law_agrees)
  f__law_not_read : Addr
  d__law_not_read : FuncData
  F__law_not_read : Fun K "_law_not_read" "_law_not_read" s__law_not_read f__law_not_read d__law_not_read
  b__law_not_read : Binds K d__law_not_read ["_law_box", "_law_item"] []
  g__law_not_read : mg "_law_not_read" = some (.ref f__law_not_read)
  f__law_not_set : Addr
  d__law_not_set : FuncData
  F__law_not_set : Fun K "_law_not_set" "_law_not_set" s__law_not_set f__law_not_set d__law_not_set
  b__law_not_set : Binds K d__law_not_set ["_law_box", "_law_item"] []
  g__law_not_set : mg "_law_not_set" = some (.ref f__law_not_set)
  f__law_step : Addr
  d__law_step : FuncData
  F__law_step : Fun K "_law_step" "_law_step" s__law_step f__law_step d__law_step
  b__law_step : Binds K d__law_step ["_law_bag_here", "_law_box", "_law_model", "_law_rows"] []
  g__law_step : mg "_law_step" = some (.ref f__law_step)
  f_law : Addr
  d_law : FuncData
  F_law : Fun K "law" "law" s_law f_law d_law
  b_law : Binds K d_law ["_law_script"] []
  g_law : mg "law" = some (.ref f_law)
  C_Key : Addr
  g_Key : mg "Key" = some (.ref C_Key)
  cl_Key : Cls K C_Key
  mk_Key : PySem.W.makesIn K C_Key = true
  kc_Key : PySem.W.keepIn K (.ref C_Key) = true
  nf_Key : PySem.W.notFirst K C_Key (.ref C_Key) = true
  in_Key : C8.InsC K C_Key
  nA_Key__parts : NoAttr K C_Key "_parts"
  f_Key___init__ : Addr
  d_Key___init__ : FuncData
  F_Key___init__ : Fun K "__init__" "Key.__init__" s_Key___init__ f_Key___init__ d_Key___init__
  b_Key___init__ : Binds K d_Key___init__ ["self", "form"] []
  a_Key___init__ : PySem.W.findIn K (.ref C_Key) "__init__" = some (some (.ref f_Key___init__))
  i_Key___init__ : PySem.W.isFn K (.ref f_Key___init__) = true
  n_Key___init__ : PySem.W.fnIn K f_Key___init__ = true
  f_Key_parts : Addr
  d_Key_parts : FuncData
  F_Key_parts : Fun K "parts" "Key.parts" s_Key_parts f_Key_parts d_Key_parts
  b_Key_parts : Binds K d_Key_parts ["self"] []
  p_Key_parts : Addr
  P_Key_parts : PropOf K C_Key "parts" p_Key_parts f_Key_parts
  f_Key___call__ : Addr
  d_Key___call__ : FuncData
  F_Key___call__ : Fun K "__call__" "Key.__call__" s_Key___call__ f_Key___call__ d_Key___call__
  b_Key___call__ : Binds K d_Key___call__ ["self", "item", "at"] []
  a_Key___call__ : PySem.W.findIn K (.ref C_Key) "__call__" = some (some (.ref f_Key___call__))
  i_Key___call__ : PySem.W.isFn K (.ref f_Key___call__) = true
  n_Key___call__ : PySem.W.fnIn K f_Key___call__ = true
  f_Key___le__ : Addr
  d_Key___le__ : FuncData
  F_Key___le__ : Fun K "__le__" "Key.__le__" s_Key___le__ f_Key___le__ d_Key___le__
  b_Key___le__ : Binds K d_Key___le__ ["self", "other"] []
  a_Key___le__ : PySem.W.findIn K (.ref C_Key) "__le__" = some (some (.ref f_Key___le__))
  i_Key___le__ : PySem.W.isFn K (.ref f_Key___le__) = true
  n_Key___le__ : PySem.W.fnIn K f_Key___le__ = true
  f_Key_idents : Addr
  d_Key_idents : FuncData
  F_Key_idents : Fun K "idents" "Key.idents" s_Key_idents f_Key_idents d_Key_idents
  b_Key_idents : Binds K d_Key_idents ["self", "row"] []
  a_Key_idents : PySem.W.findIn K (.ref C_Key) "idents" = some (some (.ref f_Key_idents))
  i_Key_idents : PySem.W.isFn K (.ref f_Key_idents) = true
  n_Key_idents : PySem.W.fnIn K f_Key_idents = true
  C_Known : Addr
  g_Known : mg "Known" = some (.ref C_Known)
  cl_Known : Cls K C_Known
  mk_Known : PySem.W.makesIn K C_Known = true
  kc_Known : PySem.W.keepIn K (.ref C_Known) = true
  nf_Known : PySem.W.notFirst K C_Known (.ref C_Known) = true
  in_Known : C8.InsC K C_Known
  ns_Known : PySem.W.noSeq K C_Known = true
  nA_Known__idents : NoAttr K C_Known "_idents"
  nA_Known__key : NoAttr K C_Known "_key"
  nA_Known__numbers : NoAttr K C_Known "_numbers"
  nA_Known_row : NoAttr K C_Known "row"
  f_Known___init__ : Addr
  d_Known___init__ : FuncData
  F_Known___init__ : Fun K "__init__" "Known.__init__" s_Known___init__ f_Known___init__ d_Known___init__
  b_Known___init__ : Binds K d_Known___init__ ["self", "key", "row"] []
  a_Known___init__ : PySem.W.findIn K (.ref C_Known) "__init__" = some (some (.ref f_Known___init__))
  i_Known___init__ : PySem.W.isFn K (.ref f_Known___init__) = true
  n_Known___init__ : PySem.W.fnIn K f_Known___init__ = true
  f_Known___getitem__ : Addr
  d_Known___getitem__ : FuncData
  F_Known___getitem__ : Fun K "__getitem__" "Known.__getitem__" s_Known___getitem__ f_Known___getitem__ d_Known___getitem__
  b_Known___getitem__ : Binds K d_Known___getitem__ ["self", "item"] []
  a_Known___getitem__ : PySem.W.findIn K (.ref C_Known) "__getitem__" = some (some (.ref f_Known___getitem__))
  i_Known___getitem__ : PySem.W.isFn K (.ref f_Known___getitem__) = true
  n_Known___getitem__ : PySem.W.fnIn K f_Known___getitem__ = true
  f_Known___setitem__ : Addr
  d_Known___setitem__ : FuncData
  F_Known___setitem__ : Fun K "__setitem__" "Known.__setitem__" s_Known___setitem__ f_Known___setitem__ d_Known___setitem__
  b_Known___setitem__ : Binds K d_Known___setitem__ ["self", "item", "number"] []
  a_Known___setitem__ : PySem.W.findIn K (.ref C_Known) "__setitem__" = some (some (.ref f_Known___setitem__))
  i_Known___setitem__ : PySem.W.isFn K (.ref f_Known___setitem__) = true
  n_Known___setitem__ : PySem.W.fnIn K f_Known___setitem__ = true
  f_Known___iter__ : Addr
  d_Known___iter__ : FuncData
  F_Known___iter__ : Fun K "__iter__" "Known.__iter__" s_Known___iter__ f_Known___iter__ d_Known___iter__
  b_Known___iter__ : Binds K d_Known___iter__ ["self"] []
  a_Known___iter__ : PySem.W.findIn K (.ref C_Known) "__iter__" = some (some (.ref f_Known___iter__))
  i_Known___iter__ : PySem.W.isFn K (.ref f_Known___iter__) = true
  n_Known___iter__ : PySem.W.fnIn K f_Known___iter__ = true
  f_Known_show : Addr
  d_Known_show : FuncData
  F_Known_show : Fun K "show" "Known.show" s_Known_show f_Known_show d_Known_show
  b_Known_show : Binds K d_Known_show ["self", "row"] []
  a_Known_show : PySem.W.findIn K (.ref C_Known) "show" = some (some (.ref f_Known_show))
  i_Known_show : PySem.W.isFn K (.ref f_Known_show) = true
  n_Known_show : PySem.W.fnIn K f_Known_show = true
  li_Known : ItK K C_Known f_Known___iter__
  C_Things : Addr
  g_Things : mg "Things" = some (.ref C_Things)
  cl_Things : Cls K C_Things
  mk_Things : PySem.W.makesIn K C_Things = true
  kc_Things : PySem.W.keepIn K (.ref C_Things) = true
  nf_Things : PySem.W.notFirst K C_Things (.ref C_Things) = true
  in_Things : C8.InsC K C_Things
  ns_Things : PySem.W.noSeq K C_Things = true
  nA_Things__numbers : NoAttr K C_Things "_numbers"
  nA_Things_row : NoAttr K C_Things "row"
  f_Things___init__ : Addr
  d_Things___init__ : FuncData
  F_Things___init__ : Fun K "__init__" "Things.__init__" s_Things___init__ f_Things___init__ d_Things___init__
  b_Things___init__ : Binds K d_Things___init__ ["self", "row"] []
  a_Things___init__ : PySem.W.findIn K (.ref C_Things) "__init__" = some (some (.ref f_Things___init__))
  i_Things___init__ : PySem.W.isFn K (.ref f_Things___init__) = true
  n_Things___init__ : PySem.W.fnIn K f_Things___init__ = true
  f_Things___getitem__ : Addr
  d_Things___getitem__ : FuncData
  F_Things___getitem__ : Fun K "__getitem__" "Things.__getitem__" s_Things___getitem__ f_Things___getitem__ d_Things___getitem__
  b_Things___getitem__ : Binds K d_Things___getitem__ ["self", "item"] []
  a_Things___getitem__ : PySem.W.findIn K (.ref C_Things) "__getitem__" = some (some (.ref f_Things___getitem__))
  i_Things___getitem__ : PySem.W.isFn K (.ref f_Things___getitem__) = true
  n_Things___getitem__ : PySem.W.fnIn K f_Things___getitem__ = true
  f_Things___setitem__ : Addr
  d_Things___setitem__ : FuncData
  F_Things___setitem__ : Fun K "__setitem__" "Things.__setitem__" s_Things___setitem__ f_Things___setitem__ d_Things___setitem__
  b_Things___setitem__ : Binds K d_Things___setitem__ ["self", "item", "number"] []
  a_Things___setitem__ : PySem.W.findIn K (.ref C_Things) "__setitem__" = some (some (.ref f_Things___setitem__))
  i_Things___setitem__ : PySem.W.isFn K (.ref f_Things___setitem__) = true
  n_Things___setitem__ : PySem.W.fnIn K f_Things___setitem__ = true
  f_Things___iter__ : Addr
  d_Things___iter__ : FuncData
  F_Things___iter__ : Fun K "__iter__" "Things.__iter__" s_Things___iter__ f_Things___iter__ d_Things___iter__
  b_Things___iter__ : Binds K d_Things___iter__ ["self"] []
  a_Things___iter__ : PySem.W.findIn K (.ref C_Things) "__iter__" = some (some (.ref f_Things___iter__))
  i_Things___iter__ : PySem.W.isFn K (.ref f_Things___iter__) = true
  n_Things___iter__ : PySem.W.fnIn K f_Things___iter__ = true
  f_Things_show : Addr
  d_Things_show : FuncData
  F_Things_show : Fun K "show" "Things.show" s_Things_show f_Things_show d_Things_show
  b_Things_show : Binds K d_Things_show ["self", "row"] []
  a_Things_show : PySem.W.findIn K (.ref C_Things) "show" = some (some (.ref f_Things_show))
  i_Things_show : PySem.W.isFn K (.ref f_Things_show) = true
  n_Things_show : PySem.W.fnIn K f_Things_show = true
  li_Things : ItK K C_Things f_Things___iter__
  C_ScreenError : Addr
  g_ScreenError : mg "ScreenError" = some (.ref C_ScreenError)
  hd_ScreenError : PySem.W.hasDictIn K C_ScreenError = true
  ty_ScreenError : PySem.W.typeIn K (.ref C_ScreenError) = some (.type "type")
  be_ScreenError : PySem.W.subIn K (.ref C_ScreenError) (.type "BaseException") = some true
  vb_ScreenError : PySem.W.subIn K (.ref C_ScreenError) (.type "ValueError") = some true
  C_NoName : Addr
  g_NoName : mg "NoName" = some (.ref C_NoName)
  hd_NoName : PySem.W.hasDictIn K C_NoName = true
  ty_NoName : PySem.W.typeIn K (.ref C_NoName) = some (.type "type")
  be_NoName : PySem.W.subIn K (.ref C_NoName) (.type "BaseException") = some true
  vb_NoName : PySem.W.subIn K (.ref C_NoName) (.type "ValueError") = some true
  ox_NoName : OexC K C_NoName
  xf_NoName : XfC K C_NoName
  is_NoName : ExcC K C_NoName
  f_NoName___init__ : Addr
  d_NoName___init__ : FuncData
  F_NoName___init__ : Fun K "__init__" "NoName.__init__" s_NoName___init__ f_NoName___init__ d_NoName___init__
  b_NoName___init__ : Binds K d_NoName___init__ ["self", "name"] []
  iC_NoName : PySem.W.findIn K (.ref C_NoName) "__init__" = some (some (.ref f_NoName___init__))
  tI_NoName : PySem.W.typeIn K (.ref f_NoName___init__) = some (.type "function")
  nf_NoName_name : PySem.W.findIn K (.ref C_NoName) "name" = some none
  C_BadRow : Addr
  g_BadRow : mg "BadRow" = some (.ref C_BadRow)
  hd_BadRow : PySem.W.hasDictIn K C_BadRow = true
  ty_BadRow : PySem.W.typeIn K (.ref C_BadRow) = some (.type "type")
  be_BadRow : PySem.W.subIn K (.ref C_BadRow) (.type "BaseException") = some true
  vb_BadRow : PySem.W.subIn K (.ref C_BadRow) (.type "ValueError") = some true
  ox_BadRow : OexC K C_BadRow
  xf_BadRow : XfC K C_BadRow
  is_BadRow : ExcC K C_BadRow
  f_BadRow___init__ : Addr
  d_BadRow___init__ : FuncData
  F_BadRow___init__ : Fun K "__init__" "BadRow.__init__" s_BadRow___init__ f_BadRow___init__ d_BadRow___init__
  b_BadRow___init__ : Binds K d_BadRow___init__ ["self", "row"] []
  iC_BadRow : PySem.W.findIn K (.ref C_BadRow) "__init__" = some (some (.ref f_BadRow___init__))
  tI_BadRow : PySem.W.typeIn K (.ref f_BadRow___init__) = some (.type "function")
  nf_BadRow_row : PySem.W.findIn K (.ref C_BadRow) "row" = some none
  C_NoItem : Addr
  g_NoItem : mg "NoItem" = some (.ref C_NoItem)
  hd_NoItem : PySem.W.hasDictIn K C_NoItem = true
  ty_NoItem : PySem.W.typeIn K (.ref C_NoItem) = some (.type "type")
  be_NoItem : PySem.W.subIn K (.ref C_NoItem) (.type "BaseException") = some true
  vb_NoItem : PySem.W.subIn K (.ref C_NoItem) (.type "ValueError") = some true
  ox_NoItem : OexC K C_NoItem
  xf_NoItem : XfC K C_NoItem
  is_NoItem : ExcC K C_NoItem
  f_NoItem___init__ : Addr
  d_NoItem___init__ : FuncData
  F_NoItem___init__ : Fun K "__init__" "NoItem.__init__" s_NoItem___init__ f_NoItem___init__ d_NoItem___init__
  b_NoItem___init__ : Binds K d_NoItem___init__ ["self", "item"] []
  iC_NoItem : PySem.W.findIn K (.ref C_NoItem) "__init__" = some (some (.ref f_NoItem___init__))
  tI_NoItem : PySem.W.typeIn K (.ref f_NoItem___init__) = some (.type "function")
  nf_NoItem_item : PySem.W.findIn K (.ref C_NoItem) "item" = some none
  ne_NoName_ScreenError : C_NoName ≠ C_ScreenError
  s_NoName_ScreenError : PySem.W.subIn K (.ref C_NoName) (.ref C_ScreenError) = some true
  ne_NoName_BadRow : C_NoName ≠ C_BadRow
  s_NoName_BadRow : PySem.W.subIn K (.ref C_NoName) (.ref C_BadRow) = some false
  ne_NoName_NoItem : C_NoName ≠ C_NoItem
  s_NoName_NoItem : PySem.W.subIn K (.ref C_NoName) (.ref C_NoItem) = some false
  ne_BadRow_ScreenError : C_BadRow ≠ C_ScreenError
  s_BadRow_ScreenError : PySem.W.subIn K (.ref C_BadRow) (.ref C_ScreenError) = some true
  ne_BadRow_NoName : C_BadRow ≠ C_NoName
  s_BadRow_NoName : PySem.W.subIn K (.ref C_BadRow) (.ref C_NoName) = some false
  ne_BadRow_NoItem : C_BadRow ≠ C_NoItem
  s_BadRow_NoItem : PySem.W.subIn K (.ref C_BadRow) (.ref C_NoItem) = some false
  ne_NoItem_ScreenError : C_NoItem ≠ C_ScreenError
  s_NoItem_ScreenError : PySem.W.subIn K (.ref C_NoItem) (.ref C_ScreenError) = some true
  ne_NoItem_NoName : C_NoItem ≠ C_NoName
  s_NoItem_NoName : PySem.W.subIn K (.ref C_NoItem) (.ref C_NoName) = some false
  ne_NoItem_BadRow : C_NoItem ≠ C_BadRow
  s_NoItem_BadRow : PySem.W.subIn K (.ref C_NoItem) (.ref C_BadRow) = some false
  m_ValueError : mg "ValueError" = none
  m_abs : mg "abs" = none
  m_all : mg "all" = none
  m_bool : mg "bool" = none
  m_enumerate : mg "enumerate" = none
  m_int : mg "int" = none
  m_isinstance : mg "isinstance" = none
  m_iter : mg "iter" = none
  m_len : mg "len" = none
  m_list : mg "list" = none
  m_range : mg "range" = none
  m_set : mg "set" = none
  m_str : mg "str" = none
  m_tuple : mg "tuple" = none
  m_zip : mg "zip" = none
  t_MOST_LETTERS : Tok
  c_MOST_LETTERS : mg "MOST_LETTERS" = some (.int 8 t_MOST_LETTERS)
  t_MOST_LEVELS : Tok
  c_MOST_LEVELS : mg "MOST_LEVELS" = some (.int 5 t_MOST_LEVELS)
  t_MOST_ITEMS : Tok
  c_MOST_ITEMS : mg "MOST_ITEMS" = some (.int 5 t_MOST_ITEMS)
section
variable {P : Program} {w : World} {K : PySem.W.Frag} {mg : Str → Option Value} {base : Heap}
def sp_mixed : Sp := fun vs H Q _ => ∃ a t : Int, vs = [.int a, .int t] ∧ ∀ w : Int, 0 ≤ w → Q (.int w) H
theorem ok_mixed (T : Txt K mg) : FnOk P w K mg base CX0 1 T.f__law_mixed T.d__law_mixed ["_law_number_here", "_law_turn"] sp_mixed := by
  refine T.F__law_mixed.ok sc__law_mixed (fun vs H Q E h => ?_) (fun cdv A outer s H vs Q E hr h => ?_)
  · obtain ⟨a, t, rfl, _⟩ := h
    rfl
  · obtain ⟨a, t, rfl, q⟩ := h
    refine ⟨_, (pss_cons (ps_set (i := 2) sc__law_mixed.nd rfl (Or.inl rfl) (pe_op op_mod (pe_callTy call_int1 (by rfl) T.m_int (by decide +kernel) (pa_cons (pe_op op_add (pe_op op_mul (pe_op op_add (pv 0) pe_int) pe_int) (pe_op op_mul (pe_op op_add (pv 1) pe_int) pe_int)) pa_nil)) pe_int))
      (pss_cons (ps_set (i := 3) sc__law_mixed.nd rfl (Or.inl rfl) (pe_op op_mod (pe_callTy call_int1 (by rfl) T.m_int (by decide +kernel) (pa_cons (pe_op op_add (pe_op op_add (pe_op op_mul (pv 2) (pv 2)) (pe_op op_mul (pv 2) pe_int)) (pe_op op_mul (pe_op op_add (pv 1) pe_int) pe_int)) pa_nil)) pe_int))
      (pss_one (ps_ret (pe_op op_mod (pe_callTy call_int1 (by rfl) T.m_int (by decide +kernel) (pa_cons (pe_op op_add (pe_op op_add (pe_op op_fdiv (pv 3) pe_int) (pe_op op_mul (pv 3) pe_int)) (pv 1)) pa_nil)) pe_int))))), ?_⟩
    walk_at "g"
    have h0 := Int.emod_nonneg ((a + 1) * 48271 + (t + 1) * 1103515245) (by decide : (2147483647 : Int) ≠ 0)
    have h1 := Int.emod_lt_of_pos ((a + 1) * 48271 + (t + 1) * 1103515245) (by decide : (0 : Int) < 2147483647)
    refine ⟨Or.inr ⟨by omega, by omega⟩, ?_⟩
    walk_at "g"
    refine q _ (Int.emod_nonneg _ (by decide))
/-- the bag is made -/
def sp_bag (K : PySem.W.Frag) : Sp := fun vs H Q _ => ∃ (a : Addr) (ns : List Int), vs = [.ref a] ∧ SqL K H a (ns.map V.int) ∧ ns.length ≤ 63 ∧
  ∀ b H', Same H H' → H b = none → Bag K (one b) H' b → Q (.ref b) H'
theorem ok_bag (T : Txt K mg) : FnOk P w K mg base CX0 1 T.f__law_bag T.d__law_bag ["_law_script"] (sp_bag K) := by
  refine T.F__law_bag.ok sc__law_bag (fun vs H Q E h => ?_) (fun cdv A outer s H vs Q E hr h => ?_)
  · obtain ⟨a, t, rfl, _⟩ := h
    rfl
  · obtain ⟨a, ns, rfl, hS, hlen, q⟩ := h
    refine ⟨_, (pss_cons (ps_setLc (i := 2) (own := [("_law_cell", 1)]) (g := gName 1) (tt := tYes) (by rfl) sc__law_bag.nd rfl rfl (sw_true rfl rfl rfl (by decide +kernel)) (pi_listK (K := K) rfl (pv 0)) (blkOk_by (own := [("_law_cell", 1)]) (N := ["_law_script", "_law_cell", "_law_numbers", "_law_seed", "_law_at"]) (sc := defScope s__law_bag) (by decide +kernel)) (fun _ _ _ _ _ => (pg_name (i := 1) sc__law_bag.nd rfl (Or.inl rfl))) (fun _ _ _ _ _ => pts_nil) (fun _ _ _ _ _ => (pe_callTy call_int1 (by rfl) T.m_int (by decide +kernel) (pa_cons (pv 1) pa_nil))))
      (pss_cons (ps_set (i := 3) sc__law_bag.nd rfl (Or.inl rfl) (pe_callB (call_lenK (K := K) rfl) (by rfl) T.m_len PySem.boot_len (pa_cons (pv 2) pa_nil)))
      (pss_cons (ps_for PassesOwn.never rfl (pi_enumK (K := K) rfl (by rfl) T.m_enumerate (pa_cons (pe_slice (sl_listK (K := K) rfl) (pv 2) po_none (po_some pe_int)) pa_nil)) (pg_tupK (K := K) rfl rfl (pgs_cons (pg_name (i := 4) sc__law_bag.nd rfl (Or.inl rfl)) (pgs_cons (pg_name (i := 1) sc__law_bag.nd rfl (Or.inl rfl)) pgs_nil))) (pss_one (ps_set (i := 3) sc__law_bag.nd rfl (Or.inl rfl) (pe_op op_mod (pe_callTy call_int1 (by rfl) T.m_int (by decide +kernel) (pa_cons (pe_op op_add (pe_op op_add (pe_op op_mul (pv 3) pe_int) (pe_op op_mod (pe_callTy call_int1 (by rfl) T.m_int (by decide +kernel) (pa_cons (pe_callB call_abs (by rfl) T.m_abs (by decide +kernel) (pa_cons (pv 1) pa_nil)) pa_nil)) pe_int)) (pe_op op_mul_ib (pe_op op_add (pv 4) pe_int) (pe_cmpR op_lt (pv 1) pe_int (nomark _)))) pa_nil)) pe_int))))
      (pss_one (ps_ret (pe_lst (pa_cons (pv 2) (pa_cons pe_int (pa_cons pe_int (pa_cons pe_int (pa_cons (pv 3) pa_nil))))))))))), ?_⟩
    refine ⟨.ref a, rfl, a, rfl, ⟨_, hS⟩, fun n hn => ?_⟩
    refine lc_list (K := K) (a := a) (xs := ns.map V.int) (fun i H' => Same H H' ∧ H' n = some (.lst ((ns.take i).map V.int))) ⟨same_new hn, by rw [upd_same]; rfl⟩ (fun i H' _ h => h.1.seq hS) (fun i x H' hx h => ?_) (fun H' h => ?_)
    · rw [List.getElem?_map] at hx
      obtain ⟨z, hz, rfl⟩ := Option.map_eq_some_iff.mp hx
      refine ⟨rfl, ?_⟩
      refine ⟨_, rfl, ?_⟩
      refine Or.inl ⟨_, rfl, ?_⟩
      refine ⟨_, h.2, ?_, fun b o e => ?_, ?_⟩
      · rw [List.length_map, List.length_take]
        exact small1000 (by omega)
      · rw [upd_ne (ne_of_none e hn)]
        exact h.1 b o e
      · rw [upd_same, List.take_add_one, hz, List.map_append]
        rfl
    · have h2 : H' n = some (.lst (ns.map V.int)) := by
        have e := h.2
        rwa [List.length_map, List.take_length] at e
      refine ⟨_, rfl, n, _, rfl, .inl (SqL.of h2), ?_⟩
      refine ⟨_, rfl, 63, rfl, n, _, rfl, SqL.of h2, fun c hc => ?_⟩
      have hcut : cutV (ns.map V.int) none (some 63) = ns.map V.int := by
        unfold cutV
        rw [show HT.sIx (ns.map V.int).length 0 none = 0 from HT.sIx_none .., show HT.sIx (ns.map V.int).length (ns.map V.int).length (some 63) = min 63 (ns.map V.int).length from HT.sIx_nat _ _ 63, List.drop_zero, Nat.sub_zero]
        rw [List.length_map, Nat.min_eq_right hlen]
        exact List.take_of_length_le (by rw [List.length_map]; exact Nat.le_refl _)
      rw [hcut]
      have hn' : n ≠ c := ne_of_none h2 hc
      refine ⟨c, _, rfl, SqL.of upd_same, ?_⟩
      refine for_enum (a := c) (xs := ns.map V.int) (fun i σ H2 => (∃ y1 z y4, σ = [some (.ref a), y1, some (.ref n), some (.int z), y4]) ∧ Same H H2 ∧ H2 n = some (.lst (ns.map V.int)) ∧ H2 c = some (.lst (ns.map V.int))) ⟨⟨_, _, _, rfl⟩, fun b o e => ?_, ?_, ?_⟩ (fun i σ H2 _ p => SqL.of p.2.2.2) (fun i x T σ H2 hx hT p => ?_) (fun σ H2 p => ?_)
      · rw [upd_ne (fun z => ?_)]
        · exact h.1 b o e
        · subst z
          rw [h.1 b o e] at hc
          cases hc
      · rw [upd_ne hn']
        exact h2
      · exact upd_same
      · obtain ⟨⟨y1, z, y4, rfl⟩, hs, e2, e3⟩ := p
        rw [List.getElem?_map] at hx
        obtain ⟨v, hv, rfl⟩ := Option.map_eq_some_iff.mp hx
        refine ⟨T, _, rfl, SqT.of upd_same, rfl, _, _, rfl, _, _, rfl, rfl, ?_⟩
        walk_at "g"
        have nT : n ≠ T := ne_of_none e2 hT
        have cT : c ≠ T := ne_of_none e3 hT
        refine ⟨⟨_, _, _, rfl⟩, fun b o e => same_new hT b o (hs b o e), ?_, ?_⟩
        · rw [upd_ne nT]
          exact e2
        · rw [upd_ne cT]
          exact e3
      · obtain ⟨⟨y1, z, y4, rfl⟩, hs, e2, e3⟩ := p
        refine ⟨_, rfl, _, rfl, (by show 5 ≤ sizeLine; decide), fun b hb => ?_⟩
        refine q b _ (fun x o e => same_new hb x o (hs x o e)) (hs.free hb) ⟨rfl, n, ns, 0, 0, 0, z, upd_same, fun e => ?_, .inl ?_, by decide, by decide⟩
        · exact ne_of_none e2 hb e
        · rw [upd_ne (ne_of_none e2 hb)]
          exact e2
/-- a number is drawn -/
def sp_pick (K : PySem.W.Frag) : Sp := fun vs H Q _ => ∃ (b : Addr) (m : Int) (M : Ms), vs = [.ref b, .int m] ∧ Bag K M H b ∧ 0 < m ∧ m < 1073741824 ∧
  ∀ (w : Int) (H' : Hp), 0 ≤ w → w < m → At b H H' → Bag K M H' b → Q (.int w) H'
theorem At.bag {M : Ms} {H H' : Hp} {b n : Addr} {ns : List Int} {p r t s : Int} (w : M b) (hn : ¬ M n) (rd : Rd H n (.lst (ns.map V.int))) (h : At b H H') (e : H' b = some (.lst [.ref n, .int p, .int r, .int t, .int s])) (hp : 0 ≤ p) (hr : 0 ≤ r) : Bag K M H' b :=
  ⟨w, n, ns, p, r, t, s, e, hn, sx_rd h.sx (fun z => hn (by rw [show n = b from z]; exact w)) rd, hp, hr⟩
theorem At.trans {H H1 H2 : Hp} {b : Addr} (h : At b H H1) (h' : At b H1 H2) : At b H H2 := fun a n => (h' a n).trans (h a n)
theorem ok_pick (T : Txt K mg) : FnOk P w K mg base CX0 2 T.f__law_pick T.d__law_pick ["_law_bag_here", "_law_many"] (sp_pick K) := by
  have G__law_mixed := ok_mixed (P := P) (w := w) (base := base) T
  refine T.F__law_pick.ok sc__law_pick (fun vs H Q E h => ?_) (fun cdv A outer s H vs Q E hr h => ?_)
  · obtain ⟨_, _, _, rfl, _⟩ := h
    rfl
  · obtain ⟨b, m, M, rfl, ⟨wb, n, ns, p, r, t, sd, hb, hn, rd, hp, hr0⟩, hm, hm2, q⟩ := h
    refine ⟨_, (pss_cons (ps_set (i := 2) sc__law_pick.nd rfl (Or.inl rfl) (pe_ix (ix_listK (K := K) rfl) (pv 0) pe_int (fun _ _ => rfl)))
      (pss_cons (ps_asg (pe_op op_add (pv 2) pe_int) (pg_sub (pv 0) pe_int set_list))
      (pss_cons (ps_if (PW.pt (pw_and (pt_cmpR op_eq (pe_ix (ix_listK (K := K) rfl) (pv 0) pe_int (fun _ _ => rfl)) pe_int (nomark _)) (pw_and1 (pt_cmpR op_lt (pe_ix (ix_listK (K := K) rfl) (pv 0) pe_int (fun _ _ => rfl)) (pe_callB (call_lenK (K := K) rfl) (by rfl) T.m_len PySem.boot_len (pa_cons (pe_ix (ix_listK (K := K) rfl) (pv 0) pe_int (fun _ _ => rfl)) pa_nil)) (nomark _))))) (pss_cons (ps_set (i := 3) sc__law_pick.nd rfl (Or.inl rfl) (pe_ix (ix_listK (K := K) rfl) (pe_ix (ix_listK (K := K) rfl) (pv 0) pe_int (fun _ _ => rfl)) (pe_ix (ix_listK (K := K) rfl) (pv 0) pe_int (fun _ _ => rfl)) (fun _ _ => rfl)))
      (pss_cons (ps_asg (pe_op op_add (pe_ix (ix_listK (K := K) rfl) (pv 0) pe_int (fun _ _ => rfl)) pe_int) (pg_sub (pv 0) pe_int set_list))
      (pss_cons (ps_if (pt_cmpR op_lt (pe_callB call_abs (by rfl) T.m_abs (by decide +kernel) (pa_cons (pv 3) pa_nil)) (pe_op op_pow pe_int pe_int) (nomark _)) (pss_one (ps_ret (pe_op op_mod (pe_callTy call_int1 (by rfl) T.m_int (by decide +kernel) (pa_cons (pe_call G__law_mixed (hr.mono (by omega)) (by rfl) T.g__law_mixed T.F__law_mixed.kp T.b__law_mixed .nil pass0 (pa_cons (pe_op op_add_ib (pe_op op_mul pe_int (pe_callB call_abs (by rfl) T.m_abs (by decide +kernel) (pa_cons (pv 3) pa_nil))) (pe_cmpR op_lt (pv 3) pe_int (nomark _))) (pa_cons (pv 2) pa_nil))) pa_nil)) (pv 1)))) pss_nil)
      (pss_one (ps_asg (pe_callB call_abs (by rfl) T.m_abs (by decide +kernel) (pa_cons (pv 3) pa_nil)) (pg_sub (pv 0) pe_int set_list)))))) pss_nil)
      (pss_cons (ps_if (pt_cmpR op_eq (pe_ix (ix_listK (K := K) rfl) (pv 0) pe_int (fun _ _ => rfl)) pe_int (nomark _)) (pss_one (ps_ret (pe_op op_mod (pe_callTy call_int1 (by rfl) T.m_int (by decide +kernel) (pa_cons (pe_call G__law_mixed (hr.mono (by omega)) (by rfl) T.g__law_mixed T.F__law_mixed.kp T.b__law_mixed .nil pass0 (pa_cons (pe_ix (ix_listK (K := K) rfl) (pv 0) pe_int (fun _ _ => rfl)) (pa_cons (pv 2) pa_nil))) pa_nil)) (pv 1)))) pss_nil)
      (pss_cons (ps_set (i := 4) sc__law_pick.nd rfl (Or.inl rfl) (pe_op op_mod (pe_callTy call_int1 (by rfl) T.m_int (by decide +kernel) (pa_cons (pe_ix (ix_listK (K := K) rfl) (pv 0) pe_int (fun _ _ => rfl)) pa_nil)) (pv 1)))
      (pss_cons (ps_asg (pe_op op_fdiv (pe_ix (ix_listK (K := K) rfl) (pv 0) pe_int (fun _ _ => rfl)) (pv 1)) (pg_sub (pv 0) pe_int set_list))
      (pss_one (ps_ret (pv 4))))))))), ?_⟩
    -- turn
    walk_at "g"
    walk_at "set"
    generalize e1 : upd H b _ = H1
    have a1 : At b H H1 := by rw [← e1]; exact At.upd
    have b1 : H1 b = some (.lst [.ref n, .int p, .int r, .int (t + 1), .int sd]) := by rw [← e1, upd_same]; rfl
    have rd1 : Rd H1 n (.lst (ns.map V.int)) := sx_rd a1.sx (fun z => hn (by rw [show n = b from z]; exact wb)) rd
    clear e1
    have fin : ∀ (w : Int) (H' : Hp) (p' r' t' : Int), At b H H' → H' b = some (.lst [.ref n, .int p', .int r', .int t', .int sd]) → 0 ≤ p' → 0 ≤ r' → Q (.int (w % m)) H' := fun w H' p' r' t' ha e h1 h2 =>
      q _ _ (Int.emod_nonneg _ (by omega)) (Int.emod_lt_of_pos _ hm) ha (ha.bag wb hn rd e h1 h2)
    with_reducible refine seq_join (fun σ H' => ∃ y3 p' r', σ = [some (.ref b), some (.int m), some (.int t), y3, none] ∧ At b H H' ∧ H' b = some (.lst [.ref n, .int p', .int r', .int (t + 1), .int sd]) ∧ 0 ≤ p' ∧ 0 ≤ r') (fun hN => ?_) (fun σ H' c => ?_)
    · have hN0 := hN _ _ ⟨none, p, r, rfl, a1, b1, hp, hr0⟩
      walk_at "g"
      walk_at "if"
      · walk_at "g"
        walk_at "if"
        · rename_i ep
          have ep' : p < ((ns.map V.int).length : Int) := of_decide_eq_true ep
          obtain ⟨j, rfl⟩ : ∃ j : Nat, p = (j : Int) := ⟨p.toNat, by omega⟩
          have hj : j < ns.length := by
            rw [List.length_map] at ep'
            omega
          have hcell : (ns.map V.int)[j]? = some (.int ns[j]) := by
            rw [List.getElem?_map, List.getElem?_eq_getElem hj]
            rfl
          walk_at "g"
          refine ⟨n, _, _, _, rfl, rfl, Or.inl rd1, atI_nat hcell, ?_⟩
          walk_at "g"
          walk_at "set"
          generalize e2 : upd H1 b _ = H2
          have a2 : At b H H2 := by rw [← e2]; exact a1.trans At.upd
          have b2 : H2 b = some (.lst [.ref n, .int ((j : Int) + 1), .int r, .int (t + 1), .int sd]) := by rw [← e2, upd_same]; rfl
          clear e2
          generalize ns[j] = c
          walk_at "g"
          walk_at "if"
          · walk_at "g"
            refine ⟨_, _, rfl, fun z hz => ?_⟩
            walk_at "g"
            refine ⟨hm, ?_⟩
            exact fin _ _ _ _ _ a2 b2 (by omega) hr0
          · walk_at "g"
            walk_at "set"
            exact hN _ _ ⟨_, _, _, rfl, a2.trans At.upd, upd_same, by omega, by split <;> omega⟩
        · exact hN0
      · exact hN0
    · obtain ⟨y3, p', r', rfl, a2, b2, hp2, hr2⟩ := c
      walk_at "g"
      walk_at "if"
      · walk_at "g"
        refine ⟨_, _, rfl, fun z hz => ?_⟩
        walk_at "g"
        refine ⟨hm, ?_⟩
        exact fin _ _ _ _ _ a2 b2 hp2 hr2
      · walk_at "g"
        refine ⟨hm, ?_⟩
        walk_at "g"
        refine ⟨⟨hm, hm2⟩, ?_⟩
        walk_at "g"
        walk_at "set"
        walk_at "g"
        exact fin _ _ _ _ _ (a2.trans At.upd) upd_same hp2 (Int.ediv_nonneg hr2 (by omega))
/-- one thing of a list is chosen -/
def sp_choice (K : PySem.W.Frag) : Sp := fun vs H Q _ => ∃ (b a : Addr) (xs : List V) (M : Ms), vs = [.ref b, .ref a] ∧ Bag K M H b ∧ SqL K H a xs ∧ a ≠ b ∧ 0 < xs.length ∧ xs.length < 1000000 ∧
  ∀ (v : V) (H' : Hp), v ∈ xs → At b H H' → Bag K M H' b → Q v H'
theorem at_pos {α : Type} {xs : List α} {w : Int} (h0 : 0 ≤ w) (h1 : w < (xs.length : Int)) : ∃ v, atI xs w = some v ∧ v ∈ xs ∧ xs[w.toNat]? = some v := by
  obtain ⟨j, rfl⟩ : ∃ j : Nat, w = (j : Int) := ⟨w.toNat, by omega⟩
  have hj : j < xs.length := by omega
  exact ⟨xs[j], atI_nat (List.getElem?_eq_getElem hj), List.getElem_mem hj, List.getElem?_eq_getElem hj⟩
theorem ok_choice (T : Txt K mg) : FnOk P w K mg base CX0 3 T.f__law_choice T.d__law_choice ["_law_bag_here", "_law_things"] (sp_choice K) := by
  have G__law_pick := ok_pick (P := P) (w := w) (base := base) T
  refine T.F__law_choice.ok sc__law_choice (fun vs H Q E h => ?_) (fun cdv A outer s H vs Q E hr h => ?_)
  · obtain ⟨_, _, _, _, rfl, _⟩ := h
    rfl
  · obtain ⟨b, a, xs, M, rfl, hB, hS, hab, hl, hl2, q⟩ := h
    refine ⟨_, (pss_one (ps_ret (pe_ix (ix_listK (K := K) rfl) (pv 1) (pe_call G__law_pick (hr.mono (by omega)) (by rfl) T.g__law_pick T.F__law_pick.kp T.b__law_pick .nil pass0 (pa_cons (pv 0) (pa_cons (pe_callB (call_lenK (K := K) rfl) (by rfl) T.m_len PySem.boot_len (pa_cons (pv 1) pa_nil)) pa_nil))) (fun _ _ => rfl)))), ?_⟩
    walk_at "g"
    refine ⟨b, _, M, rfl, hB, by omega, by omega, fun w H' h0 h1 hA hB' => ?_⟩
    have hS' := sx_l hA.sx (fun z : a = b => hab z) hS
    obtain ⟨v, hv, hm, _⟩ := at_pos h0 h1
    exact ⟨_, _, _, _, rfl, rfl, hS', hv, q v H' hm hA hB'⟩
/-- a list is mingled -/
def sp_mingled (K : PySem.W.Frag) : Sp := fun vs H Q _ => ∃ (b : Addr) (a : V) (ds : List PyData) (M : Ms), vs = [.ref b, a] ∧ Bag K M H b ∧ Mk M H ∧ Rp M H a (.list ds) ∧ ds.length < 1000000 ∧
  Dr K M b H (fun d => ∃ es, d = .list es ∧ es.Perm ds) Q
theorem erase_perm {α : Type} : ∀ (l : List α) (j : Nat) (d : α), l[j]? = some d → (d :: l.eraseIdx j).Perm l
  | [], j, d, h => by simp at h
  | x :: r, 0, d, h => by
    have e := Option.some.inj h
    subst e
    exact .refl _
  | x :: r, j + 1, d, h => by
    have ih := erase_perm r j d h
    show (d :: x :: r.eraseIdx j).Perm (x :: r)
    exact (List.Perm.swap x d _).trans (ih.cons x)
theorem ok_mingled (T : Txt K mg) : FnOk P w K mg base CX0 3 T.f__law_mingled T.d__law_mingled ["_law_bag_here", "_law_things"] (sp_mingled K) := by
  have G__law_pick := ok_pick (P := P) (w := w) (base := base) T
  refine T.F__law_mingled.ok sc__law_mingled (fun vs H Q E h => ?_) (fun cdv A outer s H vs Q E hr h => ?_)
  · obtain ⟨_, _, _, _, rfl, _⟩ := h
    rfl
  · obtain ⟨b, a, ds, M, rfl, hB, hM, hR, hl, q⟩ := h
    cases hR with
    | @lst a xs _ na hS hA =>
    have el := hA.length
    refine ⟨_, (pss_cons (ps_set (i := 2) sc__law_mingled.nd rfl (Or.inl rfl) (pe_callTy (call_listK (K := K) rfl) (by rfl) T.m_list (by decide +kernel) (pa_cons (pv 1) pa_nil)))
      (pss_cons (ps_set (i := 3) sc__law_mingled.nd rfl (Or.inl rfl) (pe_lst pa_nil))
      (pss_cons (ps_for PassesOwn.never rfl (pi_range1 (by rfl) T.m_range (pa_cons (pe_callB (call_lenK (K := K) rfl) (by rfl) T.m_len PySem.boot_len (pa_cons (pv 1) pa_nil)) pa_nil)) (pg_name (i := 4) sc__law_mingled.nd rfl (Or.inl rfl)) (pss_one (ps_expr (pe_bmK2 (K := K) rfl PySem.F.plainAttrs_list PySem.F.slot_list_append PySem.F.type_list_append mt_append (pv 3) (pa_cons (pe_bmK2 (K := K) rfl PySem.F.plainAttrs_list PySem.F.slot_list_pop PySem.F.type_list_pop mt_popAt (pv 2) (pa_cons (pe_call G__law_pick (hr.mono (by omega)) (by rfl) T.g__law_pick T.F__law_pick.kp T.b__law_pick .nil pass0 (pa_cons (pv 0) (pa_cons (pe_callB (call_lenK (K := K) rfl) (by rfl) T.m_len PySem.boot_len (pa_cons (pv 2) pa_nil)) pa_nil))) pa_nil)) pa_nil)))))
      (pss_one (ps_ret (pv 3)))))), ?_⟩
    refine ⟨.ref a, rfl, a, xs, rfl, .inl (.inl hS), fun l nl => ?_⟩
    refine ⟨by show 0 ≤ sizeLine; exact Nat.zero_le _, fun o no => ?_⟩
    have lo : l ≠ o := ne_of_none upd_same no
    have Rl := hA.fresh nl
    generalize e1 : upd (upd H l _) o _ = H1
    have s1 : Same H H1 := fun c u e => by rw [← e1]; exact same_new no c u (same_new nl c u e)
    have l1 : H1 l = some (.lst xs) := by rw [← e1, upd_ne lo, upd_same]
    have o1 : H1 o = some (.lst []) := by rw [← e1, upd_same]
    have no0 : H o = none := by
      rw [upd_ne lo.symm] at no
      exact no
    clear e1
    refine ⟨.ref a, rfl, a, xs, rfl, .inl (s1.seq (.inl hS)), ?_⟩
    refine ⟨_, rfl, by omega, by omega, ?_⟩
    have hbl : b ≠ l := fun z => hB.there (by rw [z]; exact nl)
    have hbo : b ≠ o := fun z => hB.there (by rw [z]; exact no0)
    let N : Ms := also (also M l) o
    let F : Ms := also (also (one b) l) o
    have FN : ∀ c, F c → N c := fun c z => z.elim (fun z => z.elim (fun z => .inl (.inl (one_le hB.w c z))) fun z => .inl (.inr z)) .inr
    have hB1 : Bag K N H1 b := by
      have h1 := (hB.more nl).more no0
      exact h1.keep (N := fun _ => False) (fun c u _ e => s1 c u e) (fun z => z) (fun _ z => z.elim)
    have R1 : RpAll N H1 xs ds := (Rl.fresh no0).sx (Sx.same s1)
    refine for_range (lo := 0) (n := (xs.length : Int).toNat) (fun i σ H2 => (∃ y4, σ = [some (.ref b), some (.ref a), some (.ref l), some (.ref o), y4]) ∧ Sx F H H2 ∧ Gr H H2 ∧ Bag K N H2 b ∧
      ∃ ls os es fs, H2 l = some (.lst ls) ∧ H2 o = some (.lst os) ∧ RpAll N H2 ls es ∧ RpAll N H2 os fs ∧ ls.length + i = xs.length ∧ os.length = i ∧ (es ++ fs).Perm ds) ?_ (fun i σ H2 hi p => ?_) (fun σ H2 p => ?_)
    · exact ⟨⟨_, rfl⟩, Sx.same s1, Gr.same s1, hB1, xs, [], ds, [], l1, o1, R1, .nil, by omega, rfl, by rw [List.append_nil]⟩
    · obtain ⟨⟨y4, rfl⟩, s2, g2, hB2, ls, os, es, fs, l2, o2, Re, Rf, e1, e2, m1⟩ := p
      have hls : 0 < ls.length := by omega
      refine ⟨.ref o, rfl, .inl ⟨rfl, _, SqL.of o2⟩, .ref l, rfl, .inl ⟨rfl, _, SqL.of l2⟩, ?_⟩
      walk_at "g"
      refine ⟨b, _, N, rfl, hB2, by omega, by omega, fun w H3 h0 h1 hA3 hB3 => ?_⟩
      have l3 : H3 l = some (.lst ls) := (hA3 l hbl.symm).trans l2
      have o3 : H3 o = some (.lst os) := (hA3 o hbo.symm).trans o2
      obtain ⟨j, rfl⟩ : ∃ j : Nat, w = (j : Int) := ⟨w.toNat, by omega⟩
      have hj : j < ls.length := by omega
      have s3 : Sx F H2 H3 := hA3.sx.le fun c z => .inl (.inl z)
      have Re3 := Re.sx (s3.le FN)
      obtain ⟨d, hd, Rd⟩ := Re3.get (List.getElem?_eq_getElem hj)
      refine ⟨l, ls, (j : Int), j, ls[j], rfl, rfl, l3, by omega, by omega, ?_, List.getElem?_eq_getElem hj, ?_⟩
      · exact seqIx hj
      · have lno : o ≠ l := lo.symm
        have o4 : upd H3 l (.lst (ls.eraseIdx j)) o = some (.lst os) := by rw [upd_ne lno]; exact o3
        refine ⟨o, os, ls[j], rfl, rfl, o4, small1000000 (by omega), ?_⟩
        have s4 : Sx F H3 (upd (upd H3 l (.lst (ls.eraseIdx j))) o (.lst (os ++ [ls[j]]))) := (Sx.put (show F l from .inl (.inr rfl))).trans (Sx.put (show F o from .inr rfl))
        have em := Re3.length
        refine ⟨⟨_, rfl⟩, s2.trans (s3.trans s4), g2.trans ((At.gr hA3 hB3.there).trans (Gr.upd.trans Gr.upd)), ?_, ls.eraseIdx j, os ++ [ls[j]], es.eraseIdx j, fs ++ [d], ?_, upd_same, (Re3.eraseIdx j).sx (s4.le FN), ((Rf.sx (s3.le FN)).append (.one Rd)).sx (s4.le FN), ?_, ?_, ?_⟩
        · exact (hB3.keep (N := one l) (Sx.put rfl) hbl (fun c z => by rw [show c = l from z]; exact .inl (.inr rfl))).keep (N := one o) (Sx.put rfl) hbo (fun c z => by rw [show c = o from z]; exact .inr rfl)
        · rw [upd_ne lo, upd_same]
        · rw [List.length_eraseIdx_of_lt hj]
          omega
        · rw [List.length_append, e2]
          rfl
        · refine List.Perm.trans ?_ m1
          rw [← List.append_assoc]
          refine (List.perm_append_comm).trans ?_
          exact (List.Perm.append_right fs (erase_perm es j d hd))
    · obtain ⟨⟨y4, rfl⟩, s2, g2, hB2, ls, os, es, fs, l2, o2, Re, Rf, e1, e2, m1⟩ := p
      refine ⟨.ref o, rfl, q _ _ (.list fs) ((s2.cut no0).cut nl) g2 (hB2.less hB.w fun c z => .inl (.inl z)) (.lst (hM.out no0) (.inl o2) (Rf.less fun c z => .inl (.inl z))) ⟨fs, rfl, ?_⟩⟩
      have el0 := Re.length
      have z : es = [] := List.length_eq_zero_iff.mp (by omega)
      rw [z] at m1
      exact m1
def sp_number : Sp := fun vs H Q _ => ∃ i : Int, vs = [.int i] ∧ Q (.bl true) H
theorem ok_number (T : Txt K mg) : FnOk P w K mg base CX0 1 T.f__law_number T.d__law_number ["_law_thing"] sp_number := by
  refine T.F__law_number.ok sc__law_number (fun vs H Q E h => ?_) (fun cdv A outer s H vs Q E hr h => ?_)
  · obtain ⟨_, rfl, _⟩ := h
    rfl
  · obtain ⟨i, rfl, q⟩ := h
    refine ⟨_, (pss_one (ps_ret (pe_and (pe_callB (call_isi1K (K := K) rfl) (by rfl) T.m_isinstance (by decide +kernel) (pa_cons (pv 0) (pa_cons (pe_bltn (v := .ty "int") (u := .type "int") (by rfl) T.m_int (by decide +kernel) rfl) pa_nil))) (pe_one (pe_not (pe_callB (call_isi1K (K := K) rfl) (by rfl) T.m_isinstance (by decide +kernel) (pa_cons (pv 0) (pa_cons (pe_bltn (v := .ty "bool") (u := .type "bool") (by rfl) T.m_bool (by decide +kernel) rfl) pa_nil)))))))), ?_⟩
    walk_at "g"
    refine ⟨_, _, _, _, true, rfl, .ty _, .base (.int _), kit_ty (by decide +kernel), ?_⟩
    walk_at "g"
    walk_at "g"
    refine ⟨_, _, _, _, false, rfl, .ty _, .base (.int _), kit_ty (by decide +kernel), ?_⟩
    walk_at "g"
    exact q
end
end D


namespace D
open PySem PySem.Spec PyProof.Rows L2
local macro_rules | `(tactic| walk_at "st") => `(tactic| first | exact SqT.of (by assumption) | exact Or.inl (by assumption) | exact SqT.of upd_same | fail "st")
local macro_rules | `(tactic| walk_at "ixt") => `(tactic| refine ⟨_, _, _, _, rfl, rfl, (by walk_at "st" : SqT _ _ _ _), by rfl, ?_⟩)
local macro_rules | `(tactic| walk_at "sq") => `(tactic| first | exact SqL.of (by assumption) | assumption | exact Or.inl (by assumption) | exact SqL.of upd_same | fail "sq")
local macro_rules | `(tactic| walk_at "ix") => `(tactic| refine ⟨_, _, _, _, rfl, rfl, (by walk_at "sq" : SqL _ _ _ _), by rfl, ?_⟩)
local macro_rules | `(tactic| walk_at "set") => `(tactic| refine ⟨_, _, _, _, rfl, rfl, by first | assumption | exact upd_same, by rfl, ?_⟩)
local macro_rules | `(tactic| walk_at "len") => `(tactic| refine ⟨_, _, rfl, Or.inl (by walk_at "sq" : SqL _ _ _ _), ?_⟩)
local macro_rules | `(tactic| walk_at "g") => `(tactic| repeat (first | refine ⟨_, rfl, ?_⟩ | refine ⟨_, _, rfl, rfl, ?_⟩ | refine ⟨Or.inr (by decide), ?_⟩ | refine ⟨Or.inl (by decide), ?_⟩ | refine ⟨(by decide : (0 : Int) < _), ?_⟩ | refine ⟨(⟨by decide, by decide⟩ : CDiv _ _), ?_⟩ | refine ⟨(⟨by decide, by decide, by decide⟩ : CPow _ _), ?_⟩ | refine Or.inl ⟨_, rfl, ?_⟩ | refine ⟨rfl, ?_⟩ | walk_at "ix" | walk_at "ixt" | walk_at "len" | fail "g"))
local macro_rules | `(tactic| walk_at "if") => `(tactic| refine ite2 (fun e => ?_) (fun e => ?_))
section
variable {P : Program} {w : World} {K : PySem.W.Frag} {mg : Str → Option Value} {base : Heap}
def sp_value (d : Nat) : Sp := fun vs H Q _ => ∃ (v : V) (dd : Addr) (f : Fm) (M : Ms) (kvs : List (Key × V)) (ρ : Str → Int) (nm : Str → Prop), vs = [v, .ref dd] ∧ Rp M H v f.enc ∧ f.dep ≤ d ∧ f.ok nm ∧ H dd = some (.dK kvs) ∧
  (∀ x, nm x → valV kvs (.inr x) = some (.int (ρ x))) ∧ Q (.int (f.val ρ)) H
theorem ok_value_of (T : Txt K mg) : ∀ d, FnOk P w K mg base CX0 (d + 1) T.f_value_of T.d_value_of ["form", "values"] (sp_value d) := by
  intro d
  induction d with
  | zero =>
    refine T.F_value_of.ok sc_value_of (fun vs H Q E h => ?_) (fun cdv A outer s H vs Q E hr h => ?_)
    · obtain ⟨_, _, _, _, _, _, _, rfl, _⟩ := h
      rfl
    · obtain ⟨v, dd, f, M, kvs, ρ, nm, rfl, _, hd, _⟩ := h
      exact absurd f.dep_pos (by omega)
  | succ d ih =>
    have G_value_of := ih
    refine T.F_value_of.ok sc_value_of (fun vs H Q E h => ?_) (fun cdv A outer s H vs Q E hr h => ?_)
    · obtain ⟨_, _, _, _, _, _, _, rfl, _⟩ := h
      rfl
    · obtain ⟨v, dd, f, M, kvs, ρ, nm, rfl, hR, hd, ho, hdd, hρ, q⟩ := h
      obtain ⟨a, xs, rfl, na, ha, hx⟩ := hR.form
      refine ⟨_, (pss_cons (ps_set (i := 2) sc_value_of.nd rfl (Or.inl rfl) (pe_ix (ix_tupK (K := K) rfl) (pv 0) pe_int (fun _ _ => rfl)))
      (pss_cons (ps_if (pt_cmpR op_eq (pv 2) pe_str (nomark _)) (pss_one (ps_ret (pe_ix (ix_tupK (K := K) rfl) (pv 0) pe_int (fun _ _ => rfl)))) pss_nil)
      (pss_cons (ps_if (pt_cmpR op_eq (pv 2) pe_str (nomark _)) (pss_cons (ps_if (pt_cmp (pc_dnotin (hu_of hr) (pe_ix (ix_tupK (K := K) rfl) (pv 0) pe_int (fun _ _ => rfl)) (pv 1))) (pss_one ps_never) pss_nil)
      (pss_one (ps_ret (pe_dget (hu_of hr) (pv 1) (pe_ix (ix_tupK (K := K) rfl) (pv 0) pe_int (fun _ _ => rfl)) (fun _ _ => rfl))))) pss_nil)
      (pss_cons (ps_set (i := 3) sc_value_of.nd rfl (Or.inl rfl) (pe_call G_value_of (hr.mono (by omega)) (by rfl) T.g_value_of T.F_value_of.kp T.b_value_of .nil pass0 (pa_cons (pe_ix (ix_tupK (K := K) rfl) (pv 0) pe_int (fun _ _ => rfl)) (pa_cons (pv 1) pa_nil))))
      (pss_cons (ps_if (pt_cmpR op_eq (pv 2) pe_str (nomark _)) (pss_one (ps_ret (pe_call G_value_of (hr.mono (by omega)) (by rfl) T.g_value_of T.F_value_of.kp T.b_value_of .nil pass0 (pa_cons (pe_ifExp (pt_cmpR op_eq (pv 3) pe_int (nomark _)) (pe_ix (ix_tupK (K := K) rfl) (pv 0) pe_int (fun _ _ => rfl)) (pe_ix (ix_tupK (K := K) rfl) (pv 0) pe_int (fun _ _ => rfl))) (pa_cons (pv 1) pa_nil))))) pss_nil)
      (pss_cons (ps_set (i := 4) sc_value_of.nd rfl (Or.inl rfl) (pe_call G_value_of (hr.mono (by omega)) (by rfl) T.g_value_of T.F_value_of.kp T.b_value_of .nil pass0 (pa_cons (pe_ix (ix_tupK (K := K) rfl) (pv 0) pe_int (fun _ _ => rfl)) (pa_cons (pv 1) pa_nil))))
      (pss_cons (ps_if (pt_cmpR op_eq (pv 2) pe_str (nomark _)) (pss_one (ps_ret (pe_op op_mod (pe_op op_add (pv 3) (pv 4)) pe_int))) pss_nil)
      (pss_one (ps_ret (pe_ifExp (pt_cmpR op_eq (pv 3) (pv 4) (nomark _)) pe_int pe_int)))))))))), ?_⟩
      cases hx with
      | is n =>
        walk_at "g"
        exact q
      | get x =>
        have hx := hρ x ho
        walk_at "g"
        refine ⟨dd, _, rfl, DGet.k (k := Sum.inr x) hdd, ?_⟩
        rw [hx]
        walk_at "g"
        refine ⟨dd, _, rfl, DGet.k (k := Sum.inr x) hdd |> fun z => by rw [hx] at z; exact z, ?_⟩
        exact q
      | @sum f g u w r1 r2 =>
        have hd' : f.dep ≤ d ∧ g.dep ≤ d := by
          have : max f.dep g.dep + 1 ≤ d + 1 := hd
          omega
        walk_at "g"
        refine ⟨u, dd, f, M, kvs, ρ, nm, rfl, r1, hd'.1, ho.1, hdd, hρ, ?_⟩
        walk_at "g"
        refine ⟨w, dd, g, M, kvs, ρ, nm, rfl, r2, hd'.2, ho.2, hdd, hρ, ?_⟩
        walk_at "g"
        exact q
      | @same f g u w r1 r2 =>
        have hd' : f.dep ≤ d ∧ g.dep ≤ d := by
          have : max f.dep g.dep + 1 ≤ d + 1 := hd
          omega
        walk_at "g"
        refine ⟨u, dd, f, M, kvs, ρ, nm, rfl, r1, hd'.1, ho.1, hdd, hρ, ?_⟩
        walk_at "g"
        refine ⟨w, dd, g, M, kvs, ρ, nm, rfl, r2, hd'.2, ho.2, hdd, hρ, ?_⟩
        walk_at "g"
        walk_at "if"
        · rename_i e
          have e' : f.val ρ = g.val ρ := V.int.inj (of_decide_eq_true e)
          have ev : (Fm.same f g).val ρ = 1 := if_pos e'
          rw [ev] at q
          exact q
        · rename_i e
          have e' : ¬ f.val ρ = g.val ρ := fun z => e (decide_eq_true (by rw [z]))
          have ev : (Fm.same f g).val ρ = 0 := if_neg e'
          rw [ev] at q
          exact q
      | @pick f g k u w z r1 r2 r3 =>
        have hd' : f.dep ≤ d ∧ g.dep ≤ d ∧ k.dep ≤ d := by
          have : max f.dep (max g.dep k.dep) + 1 ≤ d + 1 := hd
          omega
        walk_at "g"
        refine ⟨u, dd, f, M, kvs, ρ, nm, rfl, r1, hd'.1, ho.1, hdd, hρ, ?_⟩
        walk_at "g"
        walk_at "if"
        · rename_i e
          have e' : f.val ρ = 0 := V.int.inj (of_decide_eq_true e)
          have ev : (Fm.pick f g k).val ρ = k.val ρ := if_pos e'
          rw [ev] at q
          walk_at "g"
          exact ⟨z, dd, k, M, kvs, ρ, nm, rfl, r3, hd'.2.2, ho.2.2, hdd, hρ, q⟩
        · rename_i e
          have e' : ¬ f.val ρ = 0 := fun z => e (decide_eq_true (by rw [z]))
          have ev : (Fm.pick f g k).val ρ = g.val ρ := if_neg e'
          rw [ev] at q
          walk_at "g"
          exact ⟨w, dd, g, M, kvs, ρ, nm, rfl, r2, hd'.2.1, ho.2.1, hdd, hρ, q⟩
/-- the law's own walk -/
theorem ok_law_value (T : Txt K mg) : ∀ d, FnOk P w K mg base CX0 (d + 1) T.f__law_value T.d__law_value ["_law_form_here", "_law_worths"] (sp_value d) := by
  intro d
  induction d with
  | zero =>
    refine T.F__law_value.ok sc__law_value (fun vs H Q E h => ?_) (fun cdv A outer s H vs Q E hr h => ?_)
    · obtain ⟨_, _, _, _, _, _, _, rfl, _⟩ := h
      rfl
    · obtain ⟨v, dd, f, M, kvs, ρ, nm, rfl, _, hd, _⟩ := h
      exact absurd f.dep_pos (by omega)
  | succ d ih =>
    have G__law_value := ih
    refine T.F__law_value.ok sc__law_value (fun vs H Q E h => ?_) (fun cdv A outer s H vs Q E hr h => ?_)
    · obtain ⟨_, _, _, _, _, _, _, rfl, _⟩ := h
      rfl
    · obtain ⟨v, dd, f, M, kvs, ρ, nm, rfl, hR, hd, ho, hdd, hρ, q⟩ := h
      obtain ⟨a, xs, rfl, na, ha, hx⟩ := hR.form
      refine ⟨_, (pss_cons (ps_set (i := 2) sc__law_value.nd rfl (Or.inl rfl) (pe_ix (ix_tupK (K := K) rfl) (pv 0) pe_int (fun _ _ => rfl)))
      (pss_cons (ps_if (PW.pt (pw_or (pt_cmpR op_eq (pv 2) pe_str (nomark _)) (pw_or1 (pt_cmpR op_eq (pv 2) pe_str (nomark _))))) (pss_one (ps_ret (pe_ifExp (pt_cmpR op_eq (pv 2) pe_str (nomark _)) (pe_ix (ix_tupK (K := K) rfl) (pv 0) pe_int (fun _ _ => rfl)) (pe_dget (hu_of hr) (pv 1) (pe_ix (ix_tupK (K := K) rfl) (pv 0) pe_int (fun _ _ => rfl)) (fun _ _ => rfl))))) pss_nil)
      (pss_cons (ps_set (i := 3) sc__law_value.nd rfl (Or.inl rfl) (pe_call G__law_value (hr.mono (by omega)) (by rfl) T.g__law_value T.F__law_value.kp T.b__law_value .nil pass0 (pa_cons (pe_ix (ix_tupK (K := K) rfl) (pv 0) pe_int (fun _ _ => rfl)) (pa_cons (pv 1) pa_nil))))
      (pss_cons (ps_if (pt_cmpR op_eq (pv 2) pe_str (nomark _)) (pss_one (ps_ret (pe_call G__law_value (hr.mono (by omega)) (by rfl) T.g__law_value T.F__law_value.kp T.b__law_value .nil pass0 (pa_cons (pe_ifExp (pt_cmpR op_ne (pv 3) pe_int (nomark _)) (pe_ix (ix_tupK (K := K) rfl) (pv 0) pe_int (fun _ _ => rfl)) (pe_ix (ix_tupK (K := K) rfl) (pv 0) pe_int (fun _ _ => rfl))) (pa_cons (pv 1) pa_nil))))) pss_nil)
      (pss_cons (ps_set (i := 4) sc__law_value.nd rfl (Or.inl rfl) (pe_call G__law_value (hr.mono (by omega)) (by rfl) T.g__law_value T.F__law_value.kp T.b__law_value .nil pass0 (pa_cons (pe_ix (ix_tupK (K := K) rfl) (pv 0) pe_int (fun _ _ => rfl)) (pa_cons (pv 1) pa_nil))))
      (pss_one (ps_ret (pe_ifExp (pt_cmpR op_eq (pv 2) pe_str (nomark _)) (pe_op op_mod (pe_callTy call_int1 (by rfl) T.m_int (by decide +kernel) (pa_cons (pe_op op_add (pv 3) (pv 4)) pa_nil)) pe_int) (pe_callTy call_int1 (by rfl) T.m_int (by decide +kernel) (pa_cons (pe_cmpR op_eq (pv 3) (pv 4) (nomark _)) pa_nil)))))))))), ?_⟩
      cases hx with
      | is n =>
        walk_at "g"
        exact q
      | get x =>
        have hx := hρ x ho
        walk_at "g"
        exact ⟨dd, _, rfl, DGet.k (k := Sum.inr x) hdd |> fun z => by rw [hx] at z; exact z, q⟩
      | @sum f g u w r1 r2 =>
        have hd' : f.dep ≤ d ∧ g.dep ≤ d := by
          have : max f.dep g.dep + 1 ≤ d + 1 := hd
          omega
        walk_at "g"
        refine ⟨u, dd, f, M, kvs, ρ, nm, rfl, r1, hd'.1, ho.1, hdd, hρ, ?_⟩
        walk_at "g"
        refine ⟨w, dd, g, M, kvs, ρ, nm, rfl, r2, hd'.2, ho.2, hdd, hρ, ?_⟩
        walk_at "g"
        exact q
      | @same f g u w r1 r2 =>
        have hd' : f.dep ≤ d ∧ g.dep ≤ d := by
          have : max f.dep g.dep + 1 ≤ d + 1 := hd
          omega
        walk_at "g"
        refine ⟨u, dd, f, M, kvs, ρ, nm, rfl, r1, hd'.1, ho.1, hdd, hρ, ?_⟩
        walk_at "g"
        refine ⟨w, dd, g, M, kvs, ρ, nm, rfl, r2, hd'.2, ho.2, hdd, hρ, ?_⟩
        walk_at "g"
        refine .inr ⟨_, rfl, ?_⟩
        have ev : (Fm.same f g).val ρ = if decide (V.int (f.val ρ) = V.int (g.val ρ)) = true then 1 else 0 := by
          by_cases c : f.val ρ = g.val ρ
          · rw [if_pos (decide_eq_true (by rw [c]))]
            exact if_pos c
          · rw [if_neg (fun z => c (V.int.inj (of_decide_eq_true z)))]
            exact if_neg c
        rw [ev] at q
        exact q
      | @pick f g k u w z r1 r2 r3 =>
        have hd' : f.dep ≤ d ∧ g.dep ≤ d ∧ k.dep ≤ d := by
          have : max f.dep (max g.dep k.dep) + 1 ≤ d + 1 := hd
          omega
        walk_at "g"
        refine ⟨u, dd, f, M, kvs, ρ, nm, rfl, r1, hd'.1, ho.1, hdd, hρ, ?_⟩
        walk_at "g"
        by_cases e' : f.val ρ = 0
        · have ev : (Fm.pick f g k).val ρ = k.val ρ := if_pos e'
          rw [ev] at q
          rw [decide_eq_true (show V.int (f.val ρ) = V.int 0 by rw [e'])]
          walk_at "g"
          exact ⟨z, dd, k, M, kvs, ρ, nm, rfl, r3, hd'.2.2, ho.2.2, hdd, hρ, q⟩
        · have ev : (Fm.pick f g k).val ρ = g.val ρ := if_neg e'
          rw [ev] at q
          rw [decide_eq_false (show ¬ V.int (f.val ρ) = V.int 0 from fun z => e' (V.int.inj z))]
          walk_at "g"
          exact ⟨w, dd, g, M, kvs, ρ, nm, rfl, r2, hd'.2.1, ho.2.1, hdd, hρ, q⟩
end
end D

namespace D
open PySem PySem.Spec PyProof.Rows L2
local macro_rules | `(tactic| walk_at "st") => `(tactic| first | exact SqT.of (by assumption) | exact Or.inl (by assumption) | exact SqT.of upd_same | fail "st")
local macro_rules | `(tactic| walk_at "ixt") => `(tactic| refine ⟨_, _, _, _, rfl, rfl, (by walk_at "st" : SqT _ _ _ _), by rfl, ?_⟩)
local macro_rules | `(tactic| walk_at "sq") => `(tactic| first | exact SqL.of (by assumption) | assumption | exact Or.inl (by assumption) | exact SqL.of upd_same | fail "sq")
local macro_rules | `(tactic| walk_at "ix") => `(tactic| refine ⟨_, _, _, _, rfl, rfl, (by walk_at "sq" : SqL _ _ _ _), by rfl, ?_⟩)
local macro_rules | `(tactic| walk_at "set") => `(tactic| refine ⟨_, _, _, _, rfl, rfl, by first | assumption | exact upd_same, by rfl, ?_⟩)
local macro_rules | `(tactic| walk_at "len") => `(tactic| refine ⟨_, _, rfl, Or.inl (by walk_at "sq" : SqL _ _ _ _), ?_⟩)
local macro_rules | `(tactic| walk_at "g") => `(tactic| repeat (first | refine ⟨_, rfl, ?_⟩ | refine ⟨_, _, rfl, rfl, ?_⟩ | refine ⟨Or.inr (by decide), ?_⟩ | refine ⟨Or.inl (by decide), ?_⟩ | refine ⟨(by decide : (0 : Int) < _), ?_⟩ | refine ⟨(⟨by decide, by decide⟩ : CDiv _ _), ?_⟩ | refine ⟨(⟨by decide, by decide, by decide⟩ : CPow _ _), ?_⟩ | refine Or.inl ⟨_, rfl, ?_⟩ | refine ⟨rfl, ?_⟩ | walk_at "ix" | walk_at "ixt" | walk_at "len" | fail "g"))
local macro_rules | `(tactic| walk_at "if") => `(tactic| refine ite2 (fun e => ?_) (fun e => ?_))
section
variable {P : Program} {w : World} {K : PySem.W.Frag} {mg : Str → Option Value} {base : Heap}
/-- the table of the words with parts -/
structure TMany (K : PySem.W.Frag) (mg : Str → Option Value) (w : World) where
  p : Addr
  es : Array DictEntry
  n : Nat
  kd : KDict K w p es n
  g : mg "MANY_PARTS" = some (.ref p)
  is : PySem.W.nsIn K p sIs = some none
  get : PySem.W.nsIn K p sGet = some none
  sum : ∃ t, PySem.W.nsIn K p sSum = some (some (.int 2 t))
  same : ∃ t, PySem.W.nsIn K p sSame = some (some (.int 2 t))
  pick : ∃ t, PySem.W.nsIn K p sPick = some (some (.int 3 t))
def sp_whole : Sp := fun vs H Q _ => ∃ i : Int, vs = [.int i] ∧ Q (.bl true) H
theorem ok_is_whole (T : Txt K mg) : FnOk P w K mg base CX0 1 T.f_is_whole T.d_is_whole ["thing"] sp_whole := by
  refine T.F_is_whole.ok sc_is_whole (fun vs H Q E h => ?_) (fun cdv A outer s H vs Q E hr h => ?_)
  · obtain ⟨_, rfl, _⟩ := h
    rfl
  · obtain ⟨i, rfl, q⟩ := h
    refine ⟨_, (pss_one (ps_ret (pe_and (pe_callB (call_isi1K (K := K) rfl) (by rfl) T.m_isinstance (by decide +kernel) (pa_cons (pv 0) (pa_cons (pe_bltn (v := .ty "int") (u := .type "int") (by rfl) T.m_int (by decide +kernel) rfl) pa_nil))) (pe_one (pe_not (pe_callB (call_isi1K (K := K) rfl) (by rfl) T.m_isinstance (by decide +kernel) (pa_cons (pv 0) (pa_cons (pe_bltn (v := .ty "bool") (u := .type "bool") (by rfl) T.m_bool (by decide +kernel) rfl) pa_nil)))))))), ?_⟩
    walk_at "g"
    refine ⟨_, _, _, _, true, rfl, .ty _, .base (.int _), kit_ty (by decide +kernel), ?_⟩
    walk_at "g"
    refine ⟨_, _, _, _, false, rfl, .ty _, .base (.int _), kit_ty (by decide +kernel), ?_⟩
    walk_at "g"
    exact q
def sp_is_value : Sp := fun vs H Q _ => ∃ i : Int, vs = [.int i] ∧ 0 ≤ i ∧ i ≤ 9 ∧ Q (.bl true) H
theorem ok_is_value (T : Txt K mg) : FnOk P w K mg base CX0 2 T.f_is_value T.d_is_value ["thing"] sp_is_value := by
  have G_is_whole := ok_is_whole (P := P) (w := w) (base := base) T
  refine T.F_is_value.ok sc_is_value (fun vs H Q E h => ?_) (fun cdv A outer s H vs Q E hr h => ?_)
  · obtain ⟨_, rfl, _⟩ := h
    rfl
  · obtain ⟨i, rfl, h0, h9, q⟩ := h
    refine ⟨_, (pss_one (ps_ret (pe_and (pe_call G_is_whole (hr.mono (by omega)) (by rfl) T.g_is_whole T.F_is_whole.kp T.b_is_whole .nil pass0 (pa_cons (pv 0) pa_nil)) (pe_one (pe_chain op_le op_le pe_int (pv 0) pe_int))))), ?_⟩
    walk_at "g"
    rw [decide_eq_true h0]
    walk_at "g"
    show Q (V.bl (decide (i ≤ 9))) H
    rw [decide_eq_true h9]
    exact q
def sp_is_name : Sp := fun vs H Q _ => ∃ x : Str, vs = [.str x] ∧ isNm x ∧ ∀ H', Same H H' → Q (.bl true) H'
theorem ok_is_name (T : Txt K mg) : FnOk P w K mg base CX0 1 T.f_is_name T.d_is_name ["thing"] sp_is_name := by
  refine T.F_is_name.ok sc_is_name (fun vs H Q E h => ?_) (fun cdv A outer s H vs Q E hr h => ?_)
  · obtain ⟨_, rfl, _⟩ := h
    rfl
  · obtain ⟨x, rfl, hx, q⟩ := h
    refine ⟨_, (pss_cons (ps_if (PW.pt (pw_or (pt_not (pt_val (pe_callB (call_isi1K (K := K) rfl) (by rfl) T.m_isinstance (by decide +kernel) (pa_cons (pv 0) (pa_cons (pe_bltn (v := .ty "str") (u := .type "str") (by rfl) T.m_str (by decide +kernel) rfl) pa_nil))))) (pw_or1 (pt_not (pt_chain op_le op_le pe_int (pe_callB call_len_str (by rfl) T.m_len PySem.boot_len (pa_cons (pv 0) pa_nil)) (pe_glob (v := .int 8) rfl T.c_MOST_LETTERS ⟨_, rfl⟩)))))) (pss_one (ps_ret pe_bl)) pss_nil)
      (pss_one (ps_ret (pe_callB (cr_allK (K := K) rfl rfl) (by rfl) T.m_all (by decide +kernel) (pa_cons (pe_lc (own := [("sign", 1)]) (g := gName 1) (tt := tYes) (by rfl) sc_is_name.nd (pi_str (pv 0)) (blkOk_by (own := [("sign", 1)]) (N := ["thing", "sign"]) (sc := defScope s_is_name) (by decide +kernel)) (fun _ _ _ _ _ => (pg_name (i := 1) sc_is_name.nd rfl (Or.inl rfl))) (fun _ _ _ _ _ => pts_nil) (fun _ _ _ _ _ => (pe_chain op_le_str op_le_str pe_str (pv 1) pe_str))) pa_nil))))), ?_⟩
    walk_at "g"
    refine ⟨_, _, _, _, true, rfl, .ty _, .base (.str _), kit_ty (by decide +kernel), ?_⟩
    walk_at "g"
    have h8 := hx.2.1
    refine ⟨Nat.le_of_lt (small1000 (by omega)), ?_⟩
    walk_at "g"
    rw [decide_eq_true (show (1 : Int) ≤ (x.length : Int) by have := hx.1; omega)]
    walk_at "g"
    rw [decide_eq_true (show (x.length : Int) ≤ 8 by omega)]
    walk_at "g"
    intro D hD
    have hsz : x.cps.size = x.length := rfl
    refine lc_valsS (z := x) (ys := List.replicate x.length (V.bl true)) hD (by rw [List.length_replicate, hsz]) (by omega) (fun i c y H' C N hc hy hs hC => ?_) (fun H' hs hD' => ?_)
    · have ey : y = V.bl true := (List.mem_replicate.mp (List.mem_of_getElem? hy)).2
      subst ey
      have hm : c ∈ x.cps.toList := by
        rw [← Array.getElem?_toList] at hc
        exact List.mem_of_getElem? hc
      have hr := hx.2.2 c hm
      walk_at "g"
      rw [sign_lo hr.1]
      refine ⟨_, _, rfl, rfl, ?_⟩
      rw [sign_hi hr.2]
      exact hC
    · refine ⟨D, List.replicate x.length true, rfl, ?_, ?_⟩
      · rw [List.map_replicate]
        exact SqL.of hD'
      · rw [show (List.replicate x.length true).all id = true by rw [List.all_replicate]; simp]
        exact q _ hs
def sp_inner (U : TMany K mg w) : Sp := fun vs H Q _ => ∃ (v : V) (f : Fm) (M : Ms), vs = [v] ∧ Rp M H v f.enc ∧ Mk M H ∧ Pu M H (fun d => d = .tuple (f.subs.map Fm.enc)) Q
theorem ok_inner_forms (T : Txt K mg) (U : TMany K mg w) : FnOk P w K mg base CX0 1 T.f_inner_forms T.d_inner_forms ["form"] (sp_inner U) := by
  refine T.F_inner_forms.ok sc_inner_forms (fun vs H Q E h => ?_) (fun cdv A outer s H vs Q E hr h => ?_)
  · obtain ⟨_, _, _, rfl, _⟩ := h
    rfl
  · obtain ⟨v, f, M, rfl, hR, hM, q⟩ := h
    obtain ⟨a, xs, rfl, na, ha, hx⟩ := hR.form
    refine ⟨_, (pss_cons (ps_if (pt_cmpR (op_in_kd U.kd) (pe_ix (ix_tupK (K := K) rfl) (pv 0) pe_int (fun _ _ => rfl)) (pe_glob (v := .ref U.p) rfl U.g rfl) (by rfl)) (pss_one (ps_ret (pe_slice (sl_tupK (K := K) rfl) (pv 0) (po_some pe_int) po_none))) pss_nil)
      (pss_one (ps_ret (pe_tup pa_nil)))), ?_⟩
    have cut : ∀ (y : V) (r : List V) (es : List PyData), xs = y :: r → r ≠ [] → RpAll M H r es → es = f.subs.map Fm.enc → rSlA K (V.ref a) (some 1) none H Q := by
      rintro y r es rfl hr hR rfl
      refine ⟨a, _, rfl, .inl ha, fun z => ?_, fun _ p hp => ?_⟩
      · exfalso
        have z1 := z.1
        rw [show HT.sIx (y :: r).length 0 (some 1) = min 1 (y :: r).length from HT.sIx_nat _ _ 1] at z1
        rw [List.length_cons] at z1
        omega
      · rw [cut1]
        exact q _ _ _ (same_new hp) (.tup (hM.out hp) (.inl upd_same) (hR.sx (Sx.new hp))) rfl
    cases hx with
    | is n =>
      walk_at "g"
      refine ⟨sIs, none, rfl, rfl, U.is, ?_⟩
      walk_at "g"
      refine ⟨Nat.zero_le _, fun p hp => ?_⟩
      exact q _ _ _ (same_new hp) (.tup (hM.out hp) (.inl upd_same) .nil) rfl
    | get x =>
      walk_at "g"
      refine ⟨sGet, none, rfl, rfl, U.get, ?_⟩
      walk_at "g"
      refine ⟨Nat.zero_le _, fun p hp => ?_⟩
      exact q _ _ _ (same_new hp) (.tup (hM.out hp) (.inl upd_same) .nil) rfl
    | @sum f g u w r1 r2 =>
      obtain ⟨t, ht⟩ := U.sum
      walk_at "g"
      refine ⟨sSum, some (.int 2 t), rfl, rfl, ht, ?_⟩
      walk_at "g"
      exact cut _ _ _ rfl (by simp) (.cons r1 (.one r2)) rfl
    | @same f g u w r1 r2 =>
      obtain ⟨t, ht⟩ := U.same
      walk_at "g"
      refine ⟨sSame, some (.int 2 t), rfl, rfl, ht, ?_⟩
      walk_at "g"
      exact cut _ _ _ rfl (by simp) (.cons r1 (.one r2)) rfl
    | @pick f g k u w z r1 r2 r3 =>
      obtain ⟨t, ht⟩ := U.pick
      walk_at "g"
      refine ⟨sPick, some (.int 3 t), rfl, rfl, ht, ?_⟩
      walk_at "g"
      exact cut _ _ _ rfl (by simp) (.cons r1 (.cons r2 (.one r3))) rfl
def sp_well (U : TMany K mg w) : Sp := fun vs H Q _ => ∃ (v : V) (f : Fm) (M : Ms), vs = [v] ∧ Rp M H v f.enc ∧ f.ok isNm ∧ ∀ H', Same H H' → Q (.bl true) H'
theorem ok_well_made (T : Txt K mg) (U : TMany K mg w) : FnOk P w K mg base CX0 3 T.f__well_made T.d__well_made ["part"] (sp_well U) := by
  have G_is_value := ok_is_value (P := P) (w := w) (base := base) T
  have G_is_name := ok_is_name (P := P) (w := w) (base := base) T
  refine T.F__well_made.ok sc__well_made (fun vs H Q E h => ?_) (fun cdv A outer s H vs Q E hr h => ?_)
  · obtain ⟨_, _, _, rfl, _⟩ := h
    rfl
  · obtain ⟨v, f, M, rfl, hR, ho, q⟩ := h
    obtain ⟨a, xs, rfl, na, ha, hx⟩ := hR.form
    refine ⟨_, (pss_cons (ps_if (PW.pt (pw_or (pt_not (pt_val (pe_callB (call_isi1K (K := K) rfl) (by rfl) T.m_isinstance (by decide +kernel) (pa_cons (pv 0) (pa_cons (pe_bltn (v := .ty "tuple") (u := .type "tuple") (by rfl) T.m_tuple (by decide +kernel) rfl) pa_nil))))) (pw_or (pt_not (pt_truthK (K := K) rfl (pv 0) (by intro _; rfl))) (pw_or1 (pt_not (pt_val (pe_callB (call_isi1K (K := K) rfl) (by rfl) T.m_isinstance (by decide +kernel) (pa_cons (pe_ix (ix_tupK (K := K) rfl) (pv 0) pe_int (fun _ _ => rfl)) (pa_cons (pe_bltn (v := .ty "str") (u := .type "str") (by rfl) T.m_str (by decide +kernel) rfl) pa_nil))))))))) (pss_one (ps_ret pe_bl)) pss_nil)
      (pss_cons (ps_if (pt_cmpR op_eq (pe_ix (ix_tupK (K := K) rfl) (pv 0) pe_int (fun _ _ => rfl)) pe_str (nomark _)) (pss_one (ps_ret (pe_and (pe_cmpR op_eq (pe_callB (call_lenK (K := K) rfl) (by rfl) T.m_len PySem.boot_len (pa_cons (pv 0) pa_nil)) pe_int (nomark _)) (pe_one (pe_call G_is_value (hr.mono (by omega)) (by rfl) T.g_is_value T.F_is_value.kp T.b_is_value .nil pass0 (pa_cons (pe_ix (ix_tupK (K := K) rfl) (pv 0) pe_int (fun _ _ => rfl)) pa_nil)))))) pss_nil)
      (pss_cons (ps_if (pt_cmpR op_eq (pe_ix (ix_tupK (K := K) rfl) (pv 0) pe_int (fun _ _ => rfl)) pe_str (nomark _)) (pss_one (ps_ret (pe_and (pe_cmpR op_eq (pe_callB (call_lenK (K := K) rfl) (by rfl) T.m_len PySem.boot_len (pa_cons (pv 0) pa_nil)) pe_int (nomark _)) (pe_one (pe_call G_is_name (hr.mono (by omega)) (by rfl) T.g_is_name T.F_is_name.kp T.b_is_name .nil pass0 (pa_cons (pe_ix (ix_tupK (K := K) rfl) (pv 0) pe_int (fun _ _ => rfl)) pa_nil)))))) pss_nil)
      (pss_one (ps_ret (pe_and (pe_cmpR (op_in_kd U.kd) (pe_ix (ix_tupK (K := K) rfl) (pv 0) pe_int (fun _ _ => rfl)) (pe_glob (v := .ref U.p) rfl U.g rfl) (by rfl)) (pe_one (pe_cmpR op_eq (pe_callB (call_lenK (K := K) rfl) (by rfl) T.m_len PySem.boot_len (pa_cons (pv 0) pa_nil)) (pe_op op_add (pe_ix ix_kdict (pe_glob (v := .ref U.p) rfl U.g rfl) (pe_ix (ix_tupK (K := K) rfl) (pv 0) pe_int (fun _ _ => rfl)) (fun _ _ => rfl)) pe_int) (nomark _))))))))), ?_⟩
    walk_at "g"
    refine ⟨_, _, _, _, true, rfl, .ty _, rd_ty ha, kit_ty (by decide +kernel), ?_⟩
    cases hx with
    | is n =>
      walk_at "g"
      refine ⟨true, .inr (.inl ⟨_, .inl ha, rfl⟩), ?_⟩
      walk_at "g"
      refine ⟨_, _, _, _, true, rfl, .ty _, .base (.str _), kit_ty (by decide +kernel), ?_⟩
      walk_at "g"
      refine ⟨_, _, rfl, .inr (.inl ha), ?_⟩
      walk_at "g"
      exact ⟨ho.1, ho.2, q _ (Same.refl H)⟩
    | get x =>
      walk_at "g"
      refine ⟨true, .inr (.inl ⟨_, .inl ha, rfl⟩), ?_⟩
      walk_at "g"
      refine ⟨_, _, _, _, true, rfl, .ty _, .base (.str _), kit_ty (by decide +kernel), ?_⟩
      walk_at "g"
      refine ⟨_, _, rfl, .inr (.inl ha), ?_⟩
      walk_at "g"
      exact ⟨ho, q⟩
    | sum r1 r2 =>
      obtain ⟨t, ht⟩ := U.sum
      walk_at "g"
      refine ⟨true, .inr (.inl ⟨_, .inl ha, rfl⟩), ?_⟩
      walk_at "g"
      refine ⟨_, _, _, _, true, rfl, .ty _, .base (.str _), kit_ty (by decide +kernel), ?_⟩
      walk_at "g"
      refine ⟨_, _, rfl, rfl, ht, ?_⟩
      walk_at "g"
      refine ⟨_, _, rfl, .inr (.inl ha), ?_⟩
      walk_at "g"
      refine ⟨_, _, .int 2, rfl, rfl, ⟨_, _, _, U.kd.at_, U.kd.lit, ht, ⟨_, rfl⟩⟩, ?_⟩
      walk_at "g"
      exact q _ (Same.refl H)
    | same r1 r2 =>
      obtain ⟨t, ht⟩ := U.same
      walk_at "g"
      refine ⟨true, .inr (.inl ⟨_, .inl ha, rfl⟩), ?_⟩
      walk_at "g"
      refine ⟨_, _, _, _, true, rfl, .ty _, .base (.str _), kit_ty (by decide +kernel), ?_⟩
      walk_at "g"
      refine ⟨_, _, rfl, rfl, ht, ?_⟩
      walk_at "g"
      refine ⟨_, _, rfl, .inr (.inl ha), ?_⟩
      walk_at "g"
      refine ⟨_, _, .int 2, rfl, rfl, ⟨_, _, _, U.kd.at_, U.kd.lit, ht, ⟨_, rfl⟩⟩, ?_⟩
      walk_at "g"
      exact q _ (Same.refl H)
    | pick r1 r2 r3 =>
      obtain ⟨t, ht⟩ := U.pick
      walk_at "g"
      refine ⟨true, .inr (.inl ⟨_, .inl ha, rfl⟩), ?_⟩
      walk_at "g"
      refine ⟨_, _, _, _, true, rfl, .ty _, .base (.str _), kit_ty (by decide +kernel), ?_⟩
      walk_at "g"
      refine ⟨_, _, rfl, rfl, ht, ?_⟩
      walk_at "g"
      refine ⟨_, _, rfl, .inr (.inl ha), ?_⟩
      walk_at "g"
      refine ⟨_, _, .int 3, rfl, rfl, ⟨_, _, _, U.kd.at_, U.kd.lit, ht, ⟨_, rfl⟩⟩, ?_⟩
      walk_at "g"
      exact q _ (Same.refl H)
/-- sizes on the stack -/
def sp_check (U : TMany K mg w) : Sp := fun vs H Q _ => ∃ (v : V) (f : Fm) (M : Ms), vs = [v] ∧ Rp M H v f.enc ∧ Mk M H ∧ f.ok isNm ∧ f.dep ≤ 5 ∧ ∀ H', Same H H' → Q .non H'
theorem ok_check_form (T : Txt K mg) (U : TMany K mg w) : FnOk P w K mg base CX0 4 T.f_check_form T.d_check_form ["parts"] (sp_check U) := by
  have G__well_made := ok_well_made (P := P) (base := base) T U
  have G_inner_forms := ok_inner_forms (P := P) (base := base) T U
  refine T.F_check_form.ok sc_check_form (fun vs H Q E h => ?_) (fun cdv A outer s H vs Q E hr h => ?_)
  · obtain ⟨_, _, _, rfl, _⟩ := h
    rfl
  · obtain ⟨v, f, M, rfl, hR, hM, ho, hd, q⟩ := h
    refine ⟨_, (pss_cons (ps_set (i := 1) sc_check_form.nd rfl (Or.inl rfl) pe_int)
      (pss_cons (ps_set (i := 2) sc_check_form.nd rfl (Or.inl rfl) (pe_lst (pa_cons (pe_tup (pa_cons (pv 0) (pa_cons pe_int pa_nil))) pa_nil)))
      (pss_cons (ps_while PassesOwn.never (pt_truthK (K := K) rfl (pv 2) (by intro _; rfl)) (pss_cons (ps_asg (pe_bm0K2 (K := K) rfl PySem.F.plainAttrs_list PySem.F.slot_list_pop PySem.F.type_list_pop mt_pop (pv 2)) (pg_tupK (K := K) rfl rfl (pgs_cons (pg_name (i := 3) sc_check_form.nd rfl (Or.inl rfl)) (pgs_cons (pg_name (i := 4) sc_check_form.nd rfl (Or.inr rfl)) pgs_nil))))
      (pss_cons (ps_if (pt_not (pt_val (pe_call G__well_made (hr.mono (by omega)) (by rfl) T.g__well_made T.F__well_made.kp T.b__well_made .nil pass0 (pa_cons (pv 3) pa_nil)))) (pss_one ps_never) pss_nil)
      (pss_cons (ps_if (pt_cmpR op_gt (pv 4) (pv 1) (nomark _)) (pss_one (ps_set (i := 1) sc_check_form.nd rfl (Or.inl rfl) (pv 4))) pss_nil)
      (pss_cons (ps_setLc (i := 5) (own := [("form", 6)]) (g := gName 6) (tt := tYes) (by rfl) sc_check_form.nd rfl rfl (sw_true rfl rfl rfl (by decide +kernel)) (pi_tupK (K := K) rfl (pe_call G_inner_forms (hr.mono (by omega)) (by rfl) T.g_inner_forms T.F_inner_forms.kp T.b_inner_forms .nil pass0 (pa_cons (pv 3) pa_nil))) (blkOk_by (own := [("form", 6)]) (N := ["parts", "deepest", "waiting", "part", "level", "inner", "form"]) (sc := defScope s_check_form) (by decide +kernel)) (fun _ _ _ _ _ => (pg_name (i := 6) sc_check_form.nd rfl (Or.inl rfl))) (fun _ _ _ _ _ => pts_nil) (fun _ _ _ _ _ => (pe_tup (pa_cons (pv 6) (pa_cons (pe_op op_add (pv 4) pe_int) pa_nil)))))
      (pss_one (ps_expr (pe_bmK2 (K := K) rfl PySem.F.plainAttrs_list PySem.F.slot_list_extend PySem.F.type_list_extend mt_extend (pv 2) (pa_cons (pe_revL (pv 5)) pa_nil)))))))))
      (pss_one (ps_if (pt_cmpR op_gt (pv 1) (pe_glob (v := .int 5) rfl T.c_MOST_LEVELS ⟨_, rfl⟩) (nomark _)) (pss_one ps_never) pss_nil))))), ?_⟩
    walk_at "g"
    refine ⟨sz2, fun t ht => ?_⟩
    refine ⟨szK rfl, fun s ns => ?_⟩
    have ts : t ≠ s := ne_of_none upd_same ns
    have ns0 : H s = none := by
      rw [upd_ne ts.symm] at ns
      exact ns
    let N : Ms := also M s
    have hs0 : Same H (upd (upd H t (.tup [v, .int 1])) s (.lst [.ref t])) := fun c o e => same_new ns c o (same_new ht c o e)
    have hMN : Mk N (upd (upd H t (.tup [v, .int 1])) s (.lst [.ref t])) := (hM.gr (Gr.same hs0)).also upd_there
    refine ⟨fun m σ H' => ∃ y3 y4 y5 y6 dp ps xs, σ = [some v, some (.int dp), some (.ref s), y3, y4, y5, y6] ∧ dp ≤ 5 ∧ Same H H' ∧ Mk N H' ∧ H' s = some (.lst xs) ∧ RpAll N H' xs (ps.map lvD) ∧ (∀ p ∈ ps, p.1.ok isNm ∧ p.1.dep + p.2 ≤ 6 ∧ 1 ≤ p.2) ∧ szs ps ≤ 10000 ∧ m = szs ps, ⟨_, none, none, none, none, 0, [(f, 1)], _, rfl, by decide, hs0, hMN, upd_same, ?_, ?_, ?_, rfl⟩, fun m σ H' hW => ?_⟩
    · refine .one (.tup (fun z => z.elim (hM.out ht) ts) (.inl (by rw [upd_ne ts, upd_same]; rfl)) (.cons ?_ (.one (.int _))))
      exact (hR.fresh ns0).sx (Sx.same hs0)
    · intro p hp
      rw [List.mem_singleton.mp hp]
      exact ⟨ho, by show f.dep + 1 ≤ 6; omega, Nat.le_refl _⟩
    · have := Fm.size_le 5 f hd
      show ([(f, 1)].map fun p => p.1.size).sum ≤ 10000
      simp
      omega
    · obtain ⟨y3, y4, y5, y6, dp, ps, xs, rfl, hdp, hs, hMk, es, rs, hp, hsz, rfl⟩ := hW
      have lx := rs.length
      rw [List.length_map] at lx
      walk_at "g"
      refine ⟨!xs.isEmpty, .inl ⟨xs, SqL.of es, rfl⟩, ?_⟩
      walk_at "if"
      · rename_i e
        have hne : ps ≠ [] := fun z => by
          have : xs = [] := List.length_eq_zero_iff.mp (by rw [lx, z]; rfl)
          rw [this] at e
          cases e
        obtain ⟨qs, p, rfl⟩ : ∃ qs p, ps = qs ++ [p] := ⟨ps.dropLast, ps.getLast hne, (List.dropLast_concat_getLast hne).symm⟩
        rw [List.map_append] at rs
        obtain ⟨us, u, rfl, ru, rp⟩ := rs.last
        obtain ⟨pu, xu, rfl, nu, hu, rxu⟩ := Rp.tupN rp
        obtain ⟨w1, w2, rfl, r1, r2⟩ := rxu.inv2
        cases r2
        obtain ⟨fo, fd, fl⟩ := hp p (by simp)
        have hsz2 : szs qs + p.1.size ≤ 10000 := by
          rw [szs_app] at hsz
          exact hsz
        have hM1 : szs (qs ++ [p]) = szs qs + p.1.size := szs_app _ _
        generalize hm : szs (qs ++ [p]) = m at *
        refine ⟨fun σ2 H2 => ∃ y3 y4 y5 y6 dp ps xs, σ2 = [some v, some (.int dp), some (.ref s), y3, y4, y5, y6] ∧ dp ≤ 5 ∧ Same H H2 ∧ Mk N H2 ∧ H2 s = some (.lst xs) ∧ RpAll N H2 xs (ps.map lvD) ∧ (∀ p ∈ ps, p.1.ok isNm ∧ p.1.dep + p.2 ≤ 6 ∧ 1 ≤ p.2) ∧ szs ps < m, fun σ2 H2 h2 => ?_, ?_⟩
        · obtain ⟨y3, y4, y5, y6, dp, ps, xs, a1, a2, a3, a4, a5, a6, a7, a8⟩ := h2
          exact ⟨_, a8, y3, y4, y5, y6, dp, ps, xs, a1, a2, a3, a4, a5, a6, a7, by omega, rfl⟩
        walk_at "g"
        refine ⟨.inl ⟨rfl, _, SqL.of es⟩, s, _, .ref pu, rfl, rfl, es, ?_, ?_⟩
        · rw [List.length_append, List.length_singleton, Nat.add_sub_cancel, List.getElem?_append_right (Nat.le_refl _), Nat.sub_self]
          rfl
        rw [List.dropLast_concat]
        generalize q1 : upd H' s (.lst us) = H1
        have s1 : Sx N H' H1 := q1 ▸ Sx.put (.inr rfl)
        have e1 : H1 s = some (.lst us) := q1 ▸ upd_same
        have hs1 : Same H H1 := q1 ▸ same_put hs ns0
        have g1 : Gr H' H1 := q1 ▸ Gr.upd
        clear q1
        have hu1 := sx_rd s1 nu hu
        have r11 := r1.sx s1
        have hMk1 := hMk.gr g1
        refine ⟨pu, _, rfl, .inl hu1, rfl, _, _, rfl, _, _, rfl, rfl, ?_⟩
        with_reducible refine seq_join (fun σ3 H3 => σ3 = [some v, some (.int dp), some (.ref s), some w1, some (.int (p.2 : Int)), y5, y6] ∧ Same H1 H3) (fun hN => ?_) (fun σ3 H2 c => ?_)
        · walk_at "g"
          exact ⟨_, p.1, N, rfl, r11, fo, fun H2 s2 => ⟨_, rfl, hN _ _ ⟨rfl, s2⟩⟩⟩
        obtain ⟨rfl, s2⟩ := c
        have lev5 : (p.2 : Int) ≤ 5 := by have := p.1.dep_pos; omega
        with_reducible refine seq_join (fun σ3 H3 => ∃ dp', σ3 = [some v, some (.int dp'), some (.ref s), some w1, some (.int (p.2 : Int)), y5, y6] ∧ dp' ≤ 5 ∧ H3 = H2) (fun hN => ?_) (fun σ3 H3 c => ?_)
        · walk_at "g"
          walk_at "if"
          · exact ⟨_, rfl, hN _ _ ⟨_, rfl, lev5, rfl⟩⟩
          · exact hN _ _ ⟨_, rfl, hdp, rfl⟩
        · obtain ⟨dp', rfl, hdp', rfl⟩ := c
          walk_at "g"
          have r12 := r11.sx (Sx.same s2)
          have hMk2 := hMk1.gr (Gr.same s2)
          refine ⟨_, p.1, N, rfl, r12, hMk2, fun v3 H3 d3 s3 r3 e3 => ?_⟩
          subst e3
          obtain ⟨p3, x3, rfl, n3, h3, rx3⟩ := Rp.tupN r3
          have l3 := rx3.length
          rw [List.length_map] at l3
          have hMk3 := hMk2.gr (Gr.same s3)
          refine ⟨p3, rfl, ⟨_, .inl h3⟩, fun D hD => ?_⟩
          refine lc_dataT (xs := x3) (ys := (p.1.subs.map fun g => (g, p.2 + 1)).map lvD) N hMk3 hD (.inl h3) (by rw [List.length_map, List.length_map, l3]) (by have := subs_len p.1; omega) (fun i x y Ha C Nx hx hy hsa hm hC => ?_) (fun H4 s4 L4 => ?_)
          · obtain ⟨d, hd1, rd⟩ := rx3.get hx
            rw [List.getElem?_map] at hd1 hy
            rw [List.getElem?_map] at hy
            obtain ⟨g, hg, rfl⟩ := Option.map_eq_some_iff.mp hd1
            rw [hg] at hy
            cases hy
            refine ⟨rfl, ?_⟩
            walk_at "g"
            refine ⟨sz2, fun u hu => ?_⟩
            refine hC _ _ (same_new hu) (.tup (hm.out hu) (.inl upd_same) (.cons ?_ (.one ?_)))
            · exact (((rd.fresh hD).sx (Sx.same hsa)).sx (Sx.new hu))
            · exact .int _
          · obtain ⟨nD, ys, eD, rD⟩ := L4
            have lD := rD.length
            rw [List.length_map, List.length_map] at lD
            have s24 := s2.trans (s3.trans s4)
            have e4 := s24 _ _ e1
            refine ⟨.ref s, rfl, .inl ⟨rfl, _, SqL.of e4⟩, .ref D, rfl, D, ys, rfl, SqL.of eD, fun z hz => ?_⟩
            have sz : s ≠ z := ne_of_none e4 hz
            have lu := ru.length
            refine ⟨s, z, us, ys.reverse, rfl, rfl, by rw [upd_ne sz]; exact e4, upd_same, ?_, ?_⟩
            · have := szs_len qs
              rw [List.length_map] at lu
              have := subs_len p.1
              rw [List.length_reverse]
              exact Nat.le_of_lt (small1000000 (by omega))
            · have s5 : Sx N H4 (upd (upd H4 z (.lst ys.reverse)) s (.lst (us ++ ys.reverse))) := (Sx.new hz).trans (Sx.put (.inr rfl))
              have hs5 : Same H (upd (upd H4 z (.lst ys.reverse)) s (.lst (us ++ ys.reverse))) := same_put ((hs1.trans s24).trans (same_new hz)) ns0
              refine ⟨_, _, _, _, dp', qs ++ (p.1.subs.map fun g => (g, p.2 + 1)).reverse, us ++ ys.reverse, rfl, hdp', hs5, (hMk3.gr (Gr.same s4)).gr (Gr.upd.trans Gr.upd), upd_same, ?_, ?_, ?_⟩
              · rw [List.map_append, List.map_reverse]
                exact (((ru.sx s1).sx (Sx.same s24)).append rD.reverse).sx s5
              · intro r hr
                rcases List.mem_append.mp hr with hr | hr
                · exact hp r (List.mem_append_left _ hr)
                · rw [List.mem_reverse] at hr
                  obtain ⟨g, hg, rfl⟩ := List.mem_map.mp hr
                  have := subs_dep hg
                  exact ⟨subs_ok fo hg, by show g.dep + (p.2 + 1) ≤ 6; omega, by show 1 ≤ p.2 + 1; omega⟩
              · rw [szs_app, szs_rev]
                have := subs_size p.1 (p.2 + 1)
                omega
      · rename_i e
        walk_at "g"
        rw [decide_eq_false (show ¬ (5 : Int) < dp by omega)]
        exact q _ hs
end
end D

namespace D
open PySem PySem.Spec PyProof.Rows L2
local macro_rules | `(tactic| walk_at "st") => `(tactic| first | exact SqT.of (by assumption) | exact Or.inl (by assumption) | exact SqT.of upd_same | fail "st")
local macro_rules | `(tactic| walk_at "ixt") => `(tactic| refine ⟨_, _, _, _, rfl, rfl, (by walk_at "st" : SqT _ _ _ _), by rfl, ?_⟩)
local macro_rules | `(tactic| walk_at "sq") => `(tactic| first | exact SqL.of (by assumption) | assumption | exact Or.inl (by assumption) | exact SqL.of upd_same | fail "sq")
local macro_rules | `(tactic| walk_at "ix") => `(tactic| refine ⟨_, _, _, _, rfl, rfl, (by walk_at "sq" : SqL _ _ _ _), by rfl, ?_⟩)
local macro_rules | `(tactic| walk_at "set") => `(tactic| refine ⟨_, _, _, _, rfl, rfl, by first | assumption | exact upd_same, by rfl, ?_⟩)
local macro_rules | `(tactic| walk_at "len") => `(tactic| refine ⟨_, _, rfl, Or.inl (by walk_at "sq" : SqL _ _ _ _), ?_⟩)
local macro_rules | `(tactic| walk_at "g") => `(tactic| repeat (first | refine ⟨_, rfl, ?_⟩ | refine ⟨_, _, rfl, rfl, ?_⟩ | refine ⟨Or.inr (by decide), ?_⟩ | refine ⟨Or.inl (by decide), ?_⟩ | refine ⟨(by decide : (0 : Int) < _), ?_⟩ | refine ⟨(⟨by decide, by decide⟩ : CDiv _ _), ?_⟩ | refine ⟨(⟨by decide, by decide, by decide⟩ : CPow _ _), ?_⟩ | refine Or.inl ⟨_, rfl, ?_⟩ | refine ⟨rfl, ?_⟩ | walk_at "ix" | walk_at "ixt" | walk_at "len" | fail "g"))
local macro_rules | `(tactic| walk_at "if") => `(tactic| refine ite2 (fun e => ?_) (fun e => ?_))
section
variable {P : Program} {w : World} {K : PySem.W.Frag} {mg : Str → Option Value} {base : Heap}
def sp_names (d : Nat) : Sp := fun vs H Q _ => ∃ (v : V) (f : Fm) (M : Ms), vs = [v] ∧ Rp M H v f.enc ∧ Mk M H ∧ f.dep ≤ d ∧ d ≤ 5 ∧ Pu M H (fun x => x = .tuple (f.names.map PyData.str)) Q
theorem ok_names_in (T : Txt K mg) (U : TMany K mg w) : ∀ d, FnOk P w K mg base CX0 (d + 2) T.f_names_in T.d_names_in ["form"] (sp_names d) := by
  have G_inner_forms := ok_inner_forms (P := P) (base := base) T U
  intro d
  induction d with
  | zero =>
    refine T.F_names_in.ok sc_names_in (fun vs H Q E h => ?_) (fun cdv A outer s H vs Q E hr h => ?_)
    · obtain ⟨_, _, _, rfl, _⟩ := h
      rfl
    · obtain ⟨v, f, M, rfl, _, _, hd, _⟩ := h
      exact absurd f.dep_pos (by omega)
  | succ d ih =>
    have G_names_in := ih
    refine T.F_names_in.ok sc_names_in (fun vs H Q E h => ?_) (fun cdv A outer s H vs Q E hr h => ?_)
    · obtain ⟨_, _, _, rfl, _⟩ := h
      rfl
    · obtain ⟨v, f, M, rfl, hR, hM, hd, hd5, q⟩ := h
      refine ⟨_, (pss_cons (ps_if (pt_cmpR op_eq (pe_ix (ix_tupK (K := K) rfl) (pv 0) pe_int (fun _ _ => rfl)) pe_str (nomark _)) (pss_one (ps_ret (pe_tup (pa_cons (pe_ix (ix_tupK (K := K) rfl) (pv 0) pe_int (fun _ _ => rfl)) pa_nil)))) pss_nil)
      (pss_cons (ps_set (i := 1) sc_names_in.nd rfl (Or.inl rfl) (pe_lst pa_nil))
      (pss_cons (ps_for PassesOwn.never rfl (pi_tupK (K := K) rfl (pe_call G_inner_forms (hr.mono (by omega)) (by rfl) T.g_inner_forms T.F_inner_forms.kp T.b_inner_forms .nil pass0 (pa_cons (pv 0) pa_nil))) (pg_name (i := 2) sc_names_in.nd rfl (Or.inl rfl)) (pss_one (ps_for PassesOwn.never rfl (pi_tupK (K := K) rfl (pe_call G_names_in (hr.mono (by omega)) (by rfl) T.g_names_in T.F_names_in.kp T.b_names_in .nil pass0 (pa_cons (pv 2) pa_nil))) (pg_name (i := 3) sc_names_in.nd rfl (Or.inl rfl)) (pss_one (ps_if (pt_cmpR (op_notIn_seqK (K := K) rfl) (pv 3) (pv 1) (by rfl)) (pss_one (ps_expr (pe_bmK2 (K := K) rfl PySem.F.plainAttrs_list PySem.F.slot_list_append PySem.F.type_list_append mt_append (pv 1) (pa_cons (pv 3) pa_nil)))) pss_nil)))))
      (pss_one (ps_ret (pe_callTy (call_tupleK (K := K) rfl) (by rfl) T.m_tuple (by decide +kernel) (pa_cons (pv 1) pa_nil))))))), ?_⟩
      have rest : (∀ x, f ≠ .get x) → ∀ (C : TS) (D : Ends), True := fun _ _ _ => trivial
      obtain ⟨a, xs, rfl, na, ha, hx⟩ := id hR.form
      by_cases hg : ∃ x, f = .get x
      · obtain ⟨x, rfl⟩ := hg
        cases hx with
        | get =>
        walk_at "g"
        refine ⟨szK rfl, fun p hp => ?_⟩
        exact q _ _ _ (same_new hp) (.tup (hM.out hp) (.inl upd_same) (.one (.str x))) rfl
      · have hng : ∀ x, f ≠ .get x := fun x e => hg ⟨x, e⟩
        obtain ⟨wd, ys, rfl, hw⟩ : ∃ wd ys, xs = .str wd :: ys ∧ wd ≠ sGet := by
          cases hx with
          | is n => exact ⟨_, _, rfl, by decide⟩
          | get x => exact absurd rfl (hng x)
          | sum a b => exact ⟨_, _, rfl, by decide⟩
          | same a b => exact ⟨_, _, rfl, by decide⟩
          | pick a b c => exact ⟨_, _, rfl, by decide⟩
        walk_at "g"
        refine ⟨_, _, _, _, rfl, rfl, .inl ha, atI_nat (j := 0) rfl, ?_⟩
        walk_at "g"
        rw [decide_eq_false (show ¬ V.str wd = V.str (Str.ofString "get") from fun z => hw (V.str.inj z))]
        walk_at "g"
        refine ⟨Nat.zero_le _, fun l nl => ?_⟩
        walk_at "g"
        let N : Ms := also M l
        generalize q1 : upd H l (.lst []) = H1
        have s1 : Same H H1 := q1 ▸ same_new nl
        have e1 : H1 l = some (.lst []) := q1 ▸ upd_same
        clear q1
        have hMN : Mk N H1 := (hM.gr (Gr.same s1)).also (ne_none e1)
        refine ⟨_, f, N, rfl, (hR.fresh nl).sx (Sx.same s1), hMN, fun v3 H3 d3 s3 r3 e3 => ?_⟩
        subst e3
        obtain ⟨p3, x3, rfl, n3, h3, rx3⟩ := Rp.tupN r3
        have l3 := rx3.length
        rw [List.length_map] at l3
        have e3 := s3 _ _ e1
        refine ⟨p3, rfl, ⟨_, .inl h3⟩, ?_⟩
        refine for_tup (K := K) (a := p3) (xs := x3) (fun i σ H' => ∃ y2 y3, σ = [some (.ref a), some (.ref l), y2, y3] ∧ Same H H' ∧ Sx N H3 H' ∧ Gr H3 H' ∧ H' l = some (.lst (((f.subs.take i).foldl stepN []).map V.str)) ∧ ((f.subs.take i).foldl stepN []).length ≤ i * 1024) ⟨none, none, rfl, s1.trans s3, Sx.refl, Gr.refl, e3, Nat.le_refl _⟩ (fun i σ H' _ p => ?_) (fun i x σ H' hx p => ?_) (fun σ H' p => ?_)
        · obtain ⟨y2, y3, rfl, sh, sx, g, e, le⟩ := p
          exact sx_t sx n3 (.inl h3)
        · obtain ⟨y2, y3, rfl, sh, sx, g, e, le⟩ := p
          obtain ⟨dd, hd1, rd⟩ := (rx3.sx sx).get hx
          rw [List.getElem?_map] at hd1
          obtain ⟨s, hs, rfl⟩ := Option.map_eq_some_iff.mp hd1
          have hsd := subs_dep (List.mem_of_getElem? hs)
          have hi3 : i < 3 := by
            have := (List.getElem?_eq_some_iff.mp hs).1
            have := subs_len f
            omega
          walk_at "g"
          have hMk3 : Mk N H' := (hMN.gr (Gr.same s3)).gr g
          refine ⟨x, s, N, rfl, rd, hMk3, by omega, by omega, fun v4 H4 d4 s4 r4 e4 => ?_⟩
          subst e4
          obtain ⟨p4, x4, rfl, n4, h4, rx4⟩ := Rp.tupN r4
          have ex4 := rx4.ofStrs
          subst ex4
          have nl4 : s.names.length ≤ 1024 := Nat.le_trans s.names_len (Nat.le_trans (Fm.size_le 5 s (by omega)) (by decide))
          have e4 := s4 _ _ e
          generalize hacc : (f.subs.take i).foldl stepN [] = acc at e e4 le
          refine ⟨p4, rfl, ⟨_, .inl h4⟩, ?_⟩
          refine for_tup (K := K) (a := p4) (xs := s.names.map V.str) (fun j σ H5 => ∃ y2 y3, σ = [some (.ref a), some (.ref l), y2, y3] ∧ Same H H5 ∧ Sx N H4 H5 ∧ Gr H4 H5 ∧ H5 l = some (.lst (((s.names.take j).foldl addN acc).map V.str)) ∧ ((s.names.take j).foldl addN acc).length ≤ acc.length + j) ⟨_, _, rfl, sh.trans s4, Sx.refl, Gr.refl, e4, Nat.le_refl _⟩ (fun j σ H5 _ p => ?_) (fun j x σ H5 hx p => ?_) (fun σ H5 p => ?_)
          · obtain ⟨y2, y3, rfl, sh5, sx5, g5, e5, le5⟩ := p
            exact sx_t sx5 n4 (.inl h4)
          · obtain ⟨y2, y3, rfl, sh5, sx5, g5, e5, le5⟩ := p
            rw [List.getElem?_map] at hx
            obtain ⟨n, hn, rfl⟩ := Option.map_eq_some_iff.mp hx
            have hj : j < s.names.length := (List.getElem?_eq_some_iff.mp hn).1
            have hst := fold_take addN acc s.names j n hn
            walk_at "g"
            refine ⟨flat_strs _, ?_⟩
            rw [in_strs]
            walk_at "g"
            walk_at "if"
            · rename_i c
              have c' : n ∉ (s.names.take j).foldl addN acc := of_decide_eq_false (by simpa using c)
              have ha : addN ((s.names.take j).foldl addN acc) n = (s.names.take j).foldl addN acc ++ [n] := if_neg c'
              refine ⟨.ref l, rfl, .inl ⟨rfl, _, SqL.of e5⟩, .str n, rfl, l, _, _, rfl, rfl, e5, ?_, ?_⟩
              · rw [List.length_map]
                exact small1000000 (by omega)
              · refine ⟨_, _, rfl, same_put sh5 nl, sx5.trans (Sx.put (.inr rfl)), g5.trans Gr.upd, ?_, ?_⟩
                · rw [upd_same, hst, ha, List.map_append]
                  rfl
                · rw [hst]
                  have := addN_len ((s.names.take j).foldl addN acc) n
                  omega
            · rename_i c
              have c' : n ∈ (s.names.take j).foldl addN acc := by
                by_cases z : n ∈ (s.names.take j).foldl addN acc
                · exact z
                · exact absurd (by simp [z]) c
              have ha : addN ((s.names.take j).foldl addN acc) n = (s.names.take j).foldl addN acc := if_pos c'
              refine ⟨_, _, rfl, sh5, sx5, g5, ?_, ?_⟩
              · rw [hst, ha]
                exact e5
              · rw [hst, ha]
                omega
          · obtain ⟨y2, y3, rfl, sh5, sx5, g5, e5, le5⟩ := p
            rw [List.length_map, List.take_length] at e5 le5
            have hst := fold_take stepN [] f.subs i s hs
            rw [hacc] at hst
            refine ⟨_, _, rfl, sh5, sx.trans ((Sx.same s4).trans sx5), g.trans ((Gr.same s4).trans g5), ?_, ?_⟩
            · rw [hst]
              exact e5
            · rw [hst]
              show (s.names.foldl addN acc).length ≤ (i + 1) * 1024
              omega
        · obtain ⟨y2, y3, rfl, sh, sx, g, e, le⟩ := p
          rw [show x3.length = f.subs.length from l3, List.take_length, ← names_fold f hng] at e
          walk_at "g"
          refine ⟨l, _, rfl, .inl ⟨SqL.of e, fun p hp => ?_⟩⟩
          have hMH : Mk M H' := hM.gr (Gr.same sh)
          exact q _ _ _ (sh.trans (same_new hp)) (.tup (hMH.out hp) (.inl upd_same) (RpAll.strs _)) rfl
end
end D


namespace D
open PySem PySem.Spec PyProof.Rows L2
local macro_rules | `(tactic| walk_at "st") => `(tactic| first | exact SqT.of (by assumption) | exact Or.inl (by assumption) | exact SqT.of upd_same | fail "st")
local macro_rules | `(tactic| walk_at "ixt") => `(tactic| refine ⟨_, _, _, _, rfl, rfl, (by walk_at "st" : SqT _ _ _ _), by rfl, ?_⟩)
local macro_rules | `(tactic| walk_at "sq") => `(tactic| first | exact SqL.of (by assumption) | assumption | exact Or.inl (by assumption) | exact SqL.of upd_same | fail "sq")
local macro_rules | `(tactic| walk_at "ix") => `(tactic| refine ⟨_, _, _, _, rfl, rfl, (by walk_at "sq" : SqL _ _ _ _), by rfl, ?_⟩)
local macro_rules | `(tactic| walk_at "set") => `(tactic| refine ⟨_, _, _, _, rfl, rfl, by first | assumption | exact upd_same, by rfl, ?_⟩)
local macro_rules | `(tactic| walk_at "len") => `(tactic| refine ⟨_, _, rfl, Or.inl (by walk_at "sq" : SqL _ _ _ _), ?_⟩)
local macro_rules | `(tactic| walk_at "g") => `(tactic| repeat (first | refine ⟨_, rfl, ?_⟩ | refine ⟨_, _, rfl, rfl, ?_⟩ | refine ⟨Or.inr (by decide), ?_⟩ | refine ⟨Or.inl (by decide), ?_⟩ | refine ⟨(by decide : (0 : Int) < _), ?_⟩ | refine ⟨(⟨by decide, by decide⟩ : CDiv _ _), ?_⟩ | refine ⟨(⟨by decide, by decide, by decide⟩ : CPow _ _), ?_⟩ | refine Or.inl ⟨_, rfl, ?_⟩ | refine ⟨rfl, ?_⟩ | walk_at "ix" | walk_at "ixt" | walk_at "len" | fail "g"))
local macro_rules | `(tactic| walk_at "if") => `(tactic| refine ite2 (fun e => ?_) (fun e => ?_))
section
variable {P : Program} {w : World} {K : PySem.W.Frag} {mg : Str → Option Value} {base : Heap}
/-- rows of items -/
def rowD (ns : List Int) : PyData := .tuple (ns.map PyData.int)
theorem Rp.rowAt {M : Ms} {H : Hp} {v : V} {ns : List Int} (h : Rp M H v (rowD ns)) : RowAt M H v ns := by
  obtain ⟨a, xs, rfl, na, ha, rx⟩ := Rp.tupN h
  have ex := rx.ofInts
  subst ex
  exact ⟨a, rfl, na, ha⟩
def goodRow (ns : List Int) : Prop := ns.length ≤ 5 ∧ ns.Nodup ∧ ∀ n ∈ ns, 0 ≤ n ∧ n ≤ 9
def spis_row : Sp := fun vs H Q _ => ∃ (v : V) (ns : List Int) (M : Ms), vs = [v] ∧ RowAt M H v ns ∧ goodRow ns ∧ ∀ H', Same H H' → Q (.bl true) H'
theorem okis_row (T : Txt K mg) : FnOk P w K mg base CX0 3 T.f_is_row T.d_is_row ["thing"] spis_row := by
  have G_is_value := ok_is_value (P := P) (w := w) (base := base) T
  refine T.F_is_row.ok sc_is_row (fun vs H Q E h => ?_) (fun cdv A outer s H vs Q E hr h => ?_)
  · obtain ⟨_, _, _, rfl, _⟩ := h
    rfl
  · obtain ⟨v, ns, M, rfl, hR, ⟨h5, hnd, h9⟩, q⟩ := h
    obtain ⟨a, rfl, na, ha⟩ := hR
    refine ⟨_, (pss_cons (ps_if (PW.pt (pw_or (pt_not (pt_val (pe_callB (call_isi1K (K := K) rfl) (by rfl) T.m_isinstance (by decide +kernel) (pa_cons (pv 0) (pa_cons (pe_bltn (v := .ty "tuple") (u := .type "tuple") (by rfl) T.m_tuple (by decide +kernel) rfl) pa_nil))))) (pw_or1 (pt_cmpR op_gt (pe_callB (call_lenK (K := K) rfl) (by rfl) T.m_len PySem.boot_len (pa_cons (pv 0) pa_nil)) (pe_glob (v := .int 5) rfl T.c_MOST_ITEMS ⟨_, rfl⟩) (nomark _))))) (pss_one (ps_ret pe_bl)) pss_nil)
      (pss_one (ps_ret (pe_and (pe_callB (cr_allK (K := K) rfl rfl) (by rfl) T.m_all (by decide +kernel) (pa_cons (pe_lc (own := [("item", 1)]) (g := gName 1) (tt := tYes) (by rfl) sc_is_row.nd (pi_tupK (K := K) rfl (pv 0)) (blkOk_by (own := [("item", 1)]) (N := ["thing", "item"]) (sc := defScope s_is_row) (by decide +kernel)) (fun _ _ _ _ _ => (pg_name (i := 1) sc_is_row.nd rfl (Or.inl rfl))) (fun _ _ _ _ _ => pts_nil) (fun _ _ _ _ _ => (pe_call G_is_value (hr.mono (by omega)) (by rfl) T.g_is_value T.F_is_value.kp T.b_is_value .nil pass0 (pa_cons (pv 1) pa_nil)))) pa_nil)) (pe_one (pe_cmpR op_eq (pe_lenSetT (K := K) rfl rfl (by rfl) T.m_len (by rfl) T.m_set (pv 0)) (pe_callB (call_lenK (K := K) rfl) (by rfl) T.m_len PySem.boot_len (pa_cons (pv 0) pa_nil)) (nomark _))))))), ?_⟩
    walk_at "g"
    refine ⟨_, _, _, _, true, rfl, .ty _, rd_ty ha, kit_ty (by decide +kernel), ?_⟩
    walk_at "g"
    refine ⟨_, _, rfl, .inr (.inl ha), ?_⟩
    walk_at "g"
    rw [decide_eq_false (show ¬ (5 : Int) < ((ns.map V.int).length : Int) by rw [List.length_map]; omega)]
    walk_at "g"
    refine ⟨⟨_, .inl ha⟩, fun D hD => ?_⟩
    refine lc_valsT (ys := (List.replicate ns.length true).map V.bl) hD (.inl ha) (by rw [List.length_map, List.length_replicate, List.length_map]) (by rw [List.length_map]; omega) (fun i x y H' C N hx hy hs hC => ?_) (fun H' hs hD' => ?_)
    · rw [List.getElem?_map] at hx hy
      obtain ⟨n, hn, rfl⟩ := Option.map_eq_some_iff.mp hx
      obtain ⟨b, hb, rfl⟩ := Option.map_eq_some_iff.mp hy
      have eb : b = true := (List.mem_replicate.mp (List.mem_of_getElem? hb)).2
      subst eb
      have h09 := h9 n (List.mem_of_getElem? hn)
      refine ⟨rfl, ?_⟩
      walk_at "g"
      exact ⟨h09.1, h09.2, hC⟩
    · refine ⟨D, List.replicate ns.length true, rfl, SqL.of hD', ?_⟩
      rw [show (List.replicate ns.length true).all id = true by rw [List.all_replicate]; simp]
      walk_at "g"
      have ha' := same_rd hs ha
      refine ⟨a, ns, rfl, .inl ha', by omega, fun c hc => ?_⟩
      have ec := hc.mpr hnd
      subst ec
      walk_at "g"
      refine ⟨_, _, rfl, .inr (.inl ha'), ?_⟩
      refine ⟨rfl, ?_⟩
      rw [List.length_map, decide_eq_true rfl]
      exact q _ hs
/-- item and at -/
def sItem : Str := "item"
def sAt : Str := "at"
def isKN (x : Str) : Prop := x = sItem ∨ x = sAt
def rho (i a : Int) (x : Str) : Int := if x = sItem then i else a
theorem isKN_nm (x : Str) (h : isKN x) : isNm x := by
  rcases h with rfl | rfl <;> exact ⟨by decide +kernel, by decide +kernel, by decide +kernel⟩
theorem Fm.ok_imp {n m : Str → Prop} (h : ∀ x, n x → m x) : ∀ f : Fm, f.ok n → f.ok m
  | .is _, o => o
  | .get x, o => h x o
  | .sum f g, o => ⟨f.ok_imp h o.1, g.ok_imp h o.2⟩
  | .same f g, o => ⟨f.ok_imp h o.1, g.ok_imp h o.2⟩
  | .pick f g k, o => ⟨f.ok_imp h o.1, g.ok_imp h o.2.1, k.ok_imp h o.2.2⟩
/-- keys -/
def goodKey (f : Fm) : Prop := f.dep ≤ 5 ∧ f.ok isKN
def kval (f : Fm) (i a : Int) : Int := f.val (rho i a)
theorem env_kvs (i a : Int) : ∀ x, isKN x → valV (mergeK [] [((Sum.inr sItem : Key), V.int i), (Sum.inr sAt, V.int a)]) (.inr x) = some (.int (rho i a x)) := by
  intro x h
  rcases h with rfl | rfl <;> rfl
def sp_key_value : Sp := fun vs H Q _ => ∃ (v : V) (f : Fm) (M : Ms) (i a : Int), vs = [v, .int i, .int a] ∧ Rp M H v f.enc ∧ goodKey f ∧ ∀ H', Same H H' → Q (.int (kval f i a)) H'
theorem ok_key_value (T : Txt K mg) : FnOk P w K mg base CX0 7 T.f__key_value T.d__key_value ["parts", "item", "at"] sp_key_value := by
  have G_value_of := ok_value_of (P := P) (w := w) (base := base) T 5
  refine T.F__key_value.ok sc__key_value (fun vs H Q E h => ?_) (fun cdv A outer s H vs Q E hr h => ?_)
  · obtain ⟨_, _, _, _, _, rfl, _⟩ := h
    rfl
  · obtain ⟨v, f, M, i, a, rfl, hR, hg, q⟩ := h
    refine ⟨_, (pss_one (ps_ret (pe_call G_value_of (hr.mono (by omega)) (by rfl) T.g_value_of T.F_value_of.kp T.b_value_of .nil pass0 (pa_cons (pv 0) (pa_cons (pe_disp (pps_cons pe_str (pv 1) (pps_cons pe_str (pv 2) pps_nil)) (by rfl) (by rfl) (fun z => by cases z) (by decide)) pa_nil))))), ?_⟩
    walk_at "g"
    intro p hp
    walk_at "g"
    refine ⟨upd_same, [(Sum.inr sItem, .int i), (Sum.inr sAt, .int a)], rfl, (by show 2 ≤ 15; decide), ?_⟩
    rw [upd_upd]
    have s1 := same_new (o := .dK (mergeK [] [((Sum.inr sItem : Key), V.int i), (Sum.inr sAt, V.int a)])) hp
    exact ⟨v, p, f, M, _, rho i a, isKN, rfl, hR.sx (Sx.same s1), hg.1, hg.2, upd_same, env_kvs i a, q _ s1⟩
end
end D


namespace D
open PySem PySem.Spec PyProof.Rows L2
local macro_rules | `(tactic| walk_at "st") => `(tactic| first | exact SqT.of (by assumption) | exact Or.inl (by assumption) | exact SqT.of upd_same | fail "st")
local macro_rules | `(tactic| walk_at "ixt") => `(tactic| refine ⟨_, _, _, _, rfl, rfl, (by walk_at "st" : SqT _ _ _ _), by rfl, ?_⟩)
local macro_rules | `(tactic| walk_at "sq") => `(tactic| first | exact SqL.of (by assumption) | assumption | exact Or.inl (by assumption) | exact SqL.of upd_same | fail "sq")
local macro_rules | `(tactic| walk_at "ix") => `(tactic| refine ⟨_, _, _, _, rfl, rfl, (by walk_at "sq" : SqL _ _ _ _), by rfl, ?_⟩)
local macro_rules | `(tactic| walk_at "set") => `(tactic| refine ⟨_, _, _, _, rfl, rfl, by first | assumption | exact upd_same, by rfl, ?_⟩)
local macro_rules | `(tactic| walk_at "len") => `(tactic| refine ⟨_, _, rfl, Or.inl (by walk_at "sq" : SqL _ _ _ _), ?_⟩)
local macro_rules | `(tactic| walk_at "g") => `(tactic| repeat (first | refine ⟨_, rfl, ?_⟩ | refine ⟨_, _, rfl, rfl, ?_⟩ | refine ⟨Or.inr (by decide), ?_⟩ | refine ⟨Or.inl (by decide), ?_⟩ | refine ⟨(by decide : (0 : Int) < _), ?_⟩ | refine ⟨(⟨by decide, by decide⟩ : CDiv _ _), ?_⟩ | refine ⟨(⟨by decide, by decide, by decide⟩ : CPow _ _), ?_⟩ | refine Or.inl ⟨_, rfl, ?_⟩ | refine ⟨rfl, ?_⟩ | walk_at "ix" | walk_at "ixt" | walk_at "len" | fail "g"))
local macro_rules | `(tactic| walk_at "if") => `(tactic| refine ite2 (fun e => ?_) (fun e => ?_))
section
variable {P : Program} {w : World} {K : PySem.W.Frag} {mg : Str → Option Value} {base : Heap}
def sp_check_rows : Sp := fun vs H Q _ => ∃ (a : Addr) (xs : List V) (M : Ms), vs = [.ref a] ∧ SqT K H a xs ∧ (∀ x ∈ xs, ∃ ns, RowAt M H x ns ∧ goodRow ns) ∧ ∀ H', Same H H' → Q .non H'
theorem ok_check_rows (T : Txt K mg) : FnOk P w K mg base CX0 4 T.f_check_rows T.d_check_rows ["rows"] (sp_check_rows (K := K)) := by
  have G_is_row := okis_row (P := P) (w := w) (base := base) T
  refine T.F_check_rows.ok sc_check_rows (fun vs H Q E h => ?_) (fun cdv A outer s H vs Q E hr h => ?_)
  · obtain ⟨_, _, _, rfl, _⟩ := h
    rfl
  · obtain ⟨a, xs, M, rfl, hS, hR, q⟩ := h
    refine ⟨_, (pss_one (ps_for PassesOwn.never rfl (pi_tupK (K := K) rfl (pv 0)) (pg_name (i := 1) sc_check_rows.nd rfl (Or.inl rfl)) (pss_one (ps_if (pt_not (pt_val (pe_call G_is_row (hr.mono (by omega)) (by rfl) T.g_is_row T.F_is_row.kp T.b_is_row .nil pass0 (pa_cons (pv 1) pa_nil)))) (pss_one ps_never) pss_nil)))), ?_⟩
    walk_at "g"
    refine ⟨⟨_, hS⟩, ?_⟩
    refine for_tup (K := K) (a := a) (xs := xs) (fun i σ H' => ∃ y, σ = [some (.ref a), y] ∧ Same H H') ⟨none, rfl, Same.refl H⟩ (fun i σ H' _ p => ?_) (fun i x σ H' hx p => ?_) (fun σ H' p => ?_)
    · obtain ⟨y, rfl, hs⟩ := p
      exact same_sqt hs hS
    · obtain ⟨y, rfl, hs⟩ := p
      obtain ⟨ns, rd, hg⟩ := hR x (List.mem_of_getElem? hx)
      walk_at "g"
      exact ⟨x, ns, M, rfl, rd.sx (Sx.same hs), hg, fun H2 s2 => ⟨_, rfl, _, rfl, hs.trans s2⟩⟩
    · obtain ⟨y, rfl, hs⟩ := p
      exact q _ hs
end
end D


namespace D
open PySem PySem.Spec PyProof.Rows L2
local macro_rules | `(tactic| walk_at "st") => `(tactic| first | exact SqT.of (by assumption) | exact Or.inl (by assumption) | exact SqT.of upd_same | fail "st")
local macro_rules | `(tactic| walk_at "ixt") => `(tactic| refine ⟨_, _, _, _, rfl, rfl, (by walk_at "st" : SqT _ _ _ _), by rfl, ?_⟩)
local macro_rules | `(tactic| walk_at "sq") => `(tactic| first | exact SqL.of (by assumption) | assumption | exact Or.inl (by assumption) | exact SqL.of upd_same | fail "sq")
local macro_rules | `(tactic| walk_at "ix") => `(tactic| refine ⟨_, _, _, _, rfl, rfl, (by walk_at "sq" : SqL _ _ _ _), by rfl, ?_⟩)
local macro_rules | `(tactic| walk_at "set") => `(tactic| refine ⟨_, _, _, _, rfl, rfl, by first | assumption | exact upd_same, by rfl, ?_⟩)
local macro_rules | `(tactic| walk_at "len") => `(tactic| refine ⟨_, _, rfl, Or.inl (by walk_at "sq" : SqL _ _ _ _), ?_⟩)
local macro_rules | `(tactic| walk_at "g") => `(tactic| repeat (first | refine ⟨_, rfl, ?_⟩ | refine ⟨_, _, rfl, rfl, ?_⟩ | refine ⟨Or.inr (by decide), ?_⟩ | refine ⟨Or.inl (by decide), ?_⟩ | refine ⟨(by decide : (0 : Int) < _), ?_⟩ | refine ⟨(⟨by decide, by decide⟩ : CDiv _ _), ?_⟩ | refine ⟨(⟨by decide, by decide, by decide⟩ : CPow _ _), ?_⟩ | refine Or.inl ⟨_, rfl, ?_⟩ | refine ⟨rfl, ?_⟩ | walk_at "ix" | walk_at "ixt" | walk_at "len" | fail "g"))
local macro_rules | `(tactic| walk_at "if") => `(tactic| refine ite2 (fun e => ?_) (fun e => ?_))
section
variable {P : Program} {w : World} {K : PySem.W.Frag} {mg : Str → Option Value} {base : Heap}
/-- a key that stands -/
def sParts : Str := "_parts"
def KeyAt (C : Addr) (M : Ms) (H : Hp) (k : V) (f : Fm) : Prop := ∃ a dx u, k = .ref a ∧ ¬ M a ∧ H a = some (.ins C dx [(sParts, u)]) ∧ Rp M H u f.enc ∧ goodKey f
theorem KeyAt.sx {C : Addr} {M : Ms} {H H' : Hp} {k : V} {f : Fm} (h : KeyAt C M H k f) (s : Sx M H H') : KeyAt C M H' k f := by
  obtain ⟨a, dx, u, e, n, ha, r, g⟩ := h
  exact ⟨a, dx, u, e, n, s _ _ n ha, r.sx s, g⟩
def sp_init (U : TMany K mg w) (C : Addr) : Sp := fun vs H Q _ => ∃ (a dx : Addr) (v : V) (f : Fm) (M : Ms), vs = [.ref a, v] ∧ H a = some (.ins C dx []) ∧ Rp M H v f.enc ∧ Mk M H ∧ goodKey f ∧ ∀ H', Same H H' → Q .non (upd H' a (.ins C dx [(sParts, v)]))
theorem ok_init (T : Txt K mg) (U : TMany K mg w) : FnOk P w K mg base CX0 8 T.f_Key___init__ T.d_Key___init__ ["self", "form"] (sp_init U T.C_Key) := by
  have G_check_form := ok_check_form (P := P) (w := w) (base := base) T U
  have G_names_in := ok_names_in (P := P) (w := w) (base := base) T U 5
  refine T.F_Key___init__.ok sc_Key___init__ (fun vs H Q E h => ?_) (fun cdv A outer s H vs Q E hr h => ?_)
  · obtain ⟨_, _, _, _, _, rfl, _⟩ := h
    rfl
  · obtain ⟨a, dx, v, f, M, rfl, ha, hR, hM, hg, q⟩ := h
    refine ⟨_, (pss_cons (ps_expr (pe_call G_check_form (hr.mono (by omega)) (by rfl) T.g_check_form T.F_check_form.kp T.b_check_form .nil pass0 (pa_cons (pv 1) pa_nil)))
      (pss_cons (ps_for PassesOwn.never rfl (pi_tupK (K := K) rfl (pe_call G_names_in (hr.mono (by omega)) (by rfl) T.g_names_in T.F_names_in.kp T.b_names_in .nil pass0 (pa_cons (pv 1) pa_nil))) (pg_name (i := 2) sc_Key___init__.nd rfl (Or.inl rfl)) (pss_one (ps_if (pt_cmpR (op_notIn_seqK (K := K) rfl) (pv 2) (pe_tup (pa_cons pe_str (pa_cons pe_str pa_nil))) (by rfl)) (pss_one ps_never) pss_nil)))
      (pss_one (ps_fld (pv 0) (pv 1) rfl)))), ?_⟩
    walk_at "g"
    refine ⟨v, f, M, rfl, hR, hM, f.ok_imp isKN_nm hg.2, hg.1, fun H1 s1 => ?_⟩
    walk_at "g"
    refine ⟨v, f, M, rfl, hR.sx (Sx.same s1), hM.gr (Gr.same s1), hg.1, by decide, fun w' H2 d s2 hR2 hd => ?_⟩
    subst hd
    obtain ⟨b, xs, rfl, nb, hb, rx⟩ := Rp.tupN hR2
    have ex := rx.ofStrs
    subst ex
    walk_at "g"
    refine ⟨⟨_, .inl hb⟩, ?_⟩
    refine for_tup (K := K) (a := b) (xs := f.names.map V.str) (fun i σ H' => ∃ y, σ = [some (.ref a), some v, y] ∧ Same H2 H') ⟨none, rfl, Same.refl _⟩ (fun i σ H' _ p => ?_) (fun i x σ H' hx p => ?_) (fun σ H' p => ?_)
    · obtain ⟨y, rfl, hs⟩ := p
      exact same_sqt hs (.inl hb)
    · obtain ⟨y, rfl, hs⟩ := p
      rw [List.getElem?_map] at hx
      obtain ⟨nm, hn, rfl⟩ := Option.map_eq_some_iff.mp hx
      have hk : isKN nm := f.names_ok hg.2 nm (List.mem_of_getElem? hn)
      walk_at "g"
      refine ⟨by decide, fun p hp => ?_⟩
      refine ⟨p, _, rfl, .inr (SqT.of upd_same), rfl, rfl, ?_⟩
      have e1 : inV (.str nm) [.str sItem, .str sAt] = true := by rcases hk with rfl | rfl <;> decide +kernel
      refine ⟨_, rfl, ?_⟩
      show if (!inV (.str nm) [.str sItem, .str sAt]) = true then _ else _
      rw [e1]
      exact ⟨_, rfl, hs.trans (same_new hp)⟩
    · obtain ⟨y, rfl, hs⟩ := p
      walk_at "g"
      have s3 := s1.trans (s2.trans hs)
      exact ⟨a, _, dx, [], rfl, s3 _ _ ha, T.cl_Key, T.nA_Key__parts, by decide, q _ s3⟩
def sp_parts (T : Txt K mg) : Sp := fun vs H Q _ => ∃ (k : V) (f : Fm) (M : Ms), vs = [k] ∧ KeyAt T.C_Key M H k f ∧ ∀ v, Rp M H v f.enc → Q v H
theorem ok_parts (T : Txt K mg) : FnOk P w K mg base CX0 1 T.f_Key_parts T.d_Key_parts ["self"] (sp_parts T) := by
  refine T.F_Key_parts.ok sc_Key_parts (fun vs H Q E h => ?_) (fun cdv A outer s H vs Q E hr h => ?_)
  · obtain ⟨_, _, _, rfl, _⟩ := h
    rfl
  · obtain ⟨k, f, M, rfl, ⟨a, dx, u, rfl, na, ha, hR, hg⟩, q⟩ := h
    refine ⟨_, (pss_one (ps_ret (pe_fldK (K := K) rfl (pv 0) rfl))), ?_⟩
    walk_at "g"
    exact ⟨a, _, dx, _, u, rfl, ha, T.cl_Key, T.nA_Key__parts, rfl, q u hR⟩
def sp_kcall (T : Txt K mg) : Sp := fun vs H Q _ => ∃ (k : V) (f : Fm) (M : Ms) (i a : Int), vs = [k, .int i, .int a] ∧ KeyAt T.C_Key M H k f ∧ ∀ H', Same H H' → Q (.int (kval f i a)) H'
theorem ok_kcall (T : Txt K mg) : FnOk P w K mg base CX0 8 T.f_Key___call__ T.d_Key___call__ ["self", "item", "at"] (sp_kcall T) := by
  have G__key_value := ok_key_value (P := P) (w := w) (base := base) T
  refine T.F_Key___call__.ok sc_Key___call__ (fun vs H Q E h => ?_) (fun cdv A outer s H vs Q E hr h => ?_)
  · obtain ⟨_, _, _, _, _, rfl, _⟩ := h
    rfl
  · obtain ⟨k, f, M, i, b, rfl, ⟨a, dx, u, rfl, na, ha, hR, hg⟩, q⟩ := h
    refine ⟨_, (pss_one (ps_ret (pe_call G__key_value (hr.mono (by omega)) (by rfl) T.g__key_value T.F__key_value.kp T.b__key_value .nil pass0 (pa_cons (pe_fldK (K := K) rfl (pv 0) rfl) (pa_cons (pv 1) (pa_cons (pv 2) pa_nil)))))), ?_⟩
    walk_at "g"
    refine ⟨a, _, dx, _, u, rfl, ha, T.cl_Key, T.nA_Key__parts, rfl, ?_⟩
    walk_at "g"
    exact ⟨u, f, M, i, b, rfl, hR, hg, q⟩
/-- idents -/
def wsOf (f : Fm) (ns : List Int) : List Int := ns.mapIdx fun i n => kval f n (i : Nat)
def idsOf (ws : List Int) : List PyData := ws.mapIdx fun i w => .tuple [.int w, .int ((ws.take i).count w : Nat)]
def identD (f : Fm) (ns : List Int) : PyData := .tuple (idsOf (wsOf f ns))
def sp_ids (T : Txt K mg) : Sp := fun vs H Q _ => ∃ (k v : V) (f : Fm) (ns : List Int) (M : Ms), vs = [k, v] ∧ KeyAt T.C_Key M H k f ∧ RowAt M H v ns ∧ ns.length ≤ 5 ∧ Mk M H ∧ Pu M H (fun d => d = identD f ns) Q
theorem ok_ids (T : Txt K mg) : FnOk P w K mg base CX0 9 T.f__idents T.d__idents ["key", "row"] (sp_ids T) := by
  have G_Key___call__ := ok_kcall (P := P) (w := w) (base := base) T
  refine T.F__idents.ok sc__idents (fun vs H Q E h => ?_) (fun cdv A outer s H vs Q E hr h => ?_)
  · obtain ⟨_, _, _, _, _, rfl, _⟩ := h
    rfl
  · obtain ⟨k, v, f, ns, M, rfl, hK, hR, h5, hM, q⟩ := h
    obtain ⟨b, rfl, nb, hb⟩ := hR
    refine ⟨_, (pss_cons (ps_set (i := 2) sc__idents.nd rfl (Or.inr rfl) (pe_lc (own := [("at", 3), ("item", 4)]) (g := gTup K 2 (gCons (gName 3) (gCons (gName 4) gNil))) (tt := tYes) (by rfl) sc__idents.nd (pi_enumTK (K := K) rfl (by rfl) T.m_enumerate (pa_cons (pv 1) pa_nil)) (blkOk_by (own := [("at", 3), ("item", 4)]) (N := ["key", "row", "values", "at", "item", "value"]) (sc := defScope s__idents) (by decide +kernel)) (fun _ _ _ _ _ => (pg_tupK (K := K) rfl rfl (pgs_cons (pg_name (i := 3) sc__idents.nd rfl (Or.inl rfl)) (pgs_cons (pg_name (i := 4) sc__idents.nd rfl (Or.inl rfl)) pgs_nil)))) (fun _ _ _ _ _ => pts_nil) (fun _ _ _ _ _ => (pe_callOI ⟨T.a_Key___call__, T.i_Key___call__, T.n_Key___call__⟩ G_Key___call__ T.b_Key___call__ (hr.mono (by omega)) pass0 (pv 0) (pa_cons (pv 4) (pa_cons (pv 3) pa_nil))))))
      (pss_one (ps_ret (pe_callTy (call_tupleK (K := K) rfl) (by rfl) T.m_tuple (by decide +kernel) (pa_cons (pe_lc (own := [("at", 3), ("value", 5)]) (g := gTup K 2 (gCons (gName 3) (gCons (gName 5) gNil))) (tt := tYes) (by rfl) sc__idents.nd (pi_enumK (K := K) rfl (by rfl) T.m_enumerate (pa_cons (pv 2) pa_nil)) (blkOk_by (own := [("at", 3), ("value", 5)]) (N := ["key", "row", "values", "at", "item", "value"]) (sc := defScope s__idents) (by decide +kernel)) (fun _ _ _ _ _ => (pg_tupK (K := K) rfl rfl (pgs_cons (pg_name (i := 3) sc__idents.nd rfl (Or.inl rfl)) (pgs_cons (pg_name (i := 5) sc__idents.nd rfl (Or.inl rfl)) pgs_nil)))) (fun _ _ _ _ _ => pts_nil) (fun _ _ _ _ _ => (pe_tup (pa_cons (pv 5) (pa_cons (pe_bmK2 (K := K) rfl PySem.F.plainAttrs_list PySem.F.slot_list_count PySem.F.type_list_count (mt_lcountK (K := K) rfl) (pe_slice (sl_listK (K := K) rfl) (pv 2) po_none (po_some (pv 3))) (pa_cons (pv 5) pa_nil)) pa_nil))))) pa_nil))))), ?_⟩
    walk_at "g"
    refine ⟨b, _, rfl, .inl hb, fun D hD => ?_⟩
    have lw : ((wsOf f ns).map V.int).length = (ns.map V.int).length := by
      rw [List.length_map, List.length_map]
      exact List.length_mapIdx
    refine lc_enumTV (ys := (wsOf f ns).map V.int) hD (.inl hb) lw (by rw [List.length_map]; omega) (fun i x y T' H' C N hx hy hT hs hDn hC => ?_) (fun H' hs hD' => ?_)
    · rw [List.getElem?_map] at hx hy
      obtain ⟨n, hn, rfl⟩ := Option.map_eq_some_iff.mp hx
      obtain ⟨w', hw, rfl⟩ := Option.map_eq_some_iff.mp hy
      have ew : w' = kval f n (i : Nat) := by
        unfold wsOf at hw
        rw [List.getElem?_mapIdx, hn] at hw
        exact (Option.some.inj hw).symm
      subst ew
      refine ⟨T', _, rfl, SqT.of upd_same, rfl, _, _, rfl, _, _, rfl, rfl, ?_⟩
      refine ⟨rfl, ?_⟩
      walk_at "g"
      have hK' := hK.sx (Sx.same (hs.trans (same_new (o := .tup [.int (i : Nat), .int n]) hT)))
      obtain ⟨a0, dx, u, rfl, na, ha, hu, hg⟩ := hK'
      refine ⟨a0, dx, [(sParts, u)], rfl, ?_⟩
      walk_at "g"
      refine ⟨ha, ?_⟩
      exact ⟨_, f, M, n, (i : Nat), rfl, ⟨a0, dx, u, rfl, na, ha, hu, hg⟩, fun H2 s2 => hC H2 s2⟩
    · walk_at "g"
      refine ⟨D, _, rfl, SqL.of hD', fun D2 hD2 => ?_⟩
      have l2 : (idsOf (wsOf f ns)).length = ((wsOf f ns).map V.int).length := by
        rw [List.length_map]
        exact List.length_mapIdx
      have lw5 : ((wsOf f ns).map V.int).length ≤ 5 := by rw [lw, List.length_map]; exact h5
      have hM' := hM.gr (Gr.same hs)
      refine lc_enumD (ys := idsOf (wsOf f ns)) M hM' hD2 (SqL.of hD') l2 (by omega) (fun i x y T' H2 C N hx hy hT s1 hMk hC => ?_) (fun H2 s2 hL => ?_)
      · rw [List.getElem?_map] at hx
        obtain ⟨w', hw, rfl⟩ := Option.map_eq_some_iff.mp hx
        have ey : y = .tuple [.int w', .int (((wsOf f ns).take i).count w' : Nat)] := by
          unfold idsOf at hy
          rw [List.getElem?_mapIdx, hw] at hy
          exact (Option.some.inj hy).symm
        subst ey
        have eD : upd H2 T' (.tup [.int (i : Nat), .int w']) D = some (.lst ((wsOf f ns).map V.int)) := same_new hT _ _ (s1 _ _ hD')
        refine ⟨T', _, rfl, SqT.of upd_same, rfl, _, _, rfl, _, _, rfl, rfl, ?_⟩
        refine ⟨rfl, ?_⟩
        walk_at "g"
        refine ⟨D, _, rfl, SqL.of eD, fun p hp => ⟨.inl ⟨rfl, _, SqL.of upd_same⟩, ?_⟩⟩
        refine ⟨_, rfl, p, (wsOf f ns).take i, w', rfl, rfl, SqL.of (by rw [upd_same, cut_hi, List.map_take]), ?_⟩
        refine ⟨szK rfl, fun p2 hp2 => ?_⟩
        have n1 : Same (upd H2 T' (.tup [.int (i : Nat), .int w'])) (upd (upd H2 T' (.tup [.int (i : Nat), .int w'])) p (.lst (cutV ((wsOf f ns).map V.int) none (some (i : Nat))))) := same_new hp
        refine hC _ _ (n1.trans (same_new hp2)) (.tup ((hMk.gr (Gr.same n1)).out hp2) (.inl upd_same) (.cons (.int _) (.one (.int _))))
      · walk_at "g"
        obtain ⟨nD, xs, eD2, rD⟩ := hL
        refine ⟨D2, xs, rfl, .inl ⟨SqL.of eD2, fun p hp => ?_⟩⟩
        have n1 : Same H2 (upd H2 p (.tup xs)) := same_new hp
        exact q _ _ _ (hs.trans (s2.trans n1)) (.tup ((hM'.gr (Gr.same s2)).out hp) (.inl upd_same) (rD.sx (Sx.same n1))) rfl
end
end D


namespace D
open PySem PySem.Spec PyProof.Rows L2
local macro_rules | `(tactic| walk_at "st") => `(tactic| first | exact SqT.of (by assumption) | exact Or.inl (by assumption) | exact SqT.of upd_same | fail "st")
local macro_rules | `(tactic| walk_at "ixt") => `(tactic| refine ⟨_, _, _, _, rfl, rfl, (by walk_at "st" : SqT _ _ _ _), by rfl, ?_⟩)
local macro_rules | `(tactic| walk_at "sq") => `(tactic| first | exact SqL.of (by assumption) | assumption | exact Or.inl (by assumption) | exact SqL.of upd_same | fail "sq")
local macro_rules | `(tactic| walk_at "ix") => `(tactic| refine ⟨_, _, _, _, rfl, rfl, (by walk_at "sq" : SqL _ _ _ _), by rfl, ?_⟩)
local macro_rules | `(tactic| walk_at "set") => `(tactic| refine ⟨_, _, _, _, rfl, rfl, by first | assumption | exact upd_same, by rfl, ?_⟩)
local macro_rules | `(tactic| walk_at "len") => `(tactic| refine ⟨_, _, rfl, Or.inl (by walk_at "sq" : SqL _ _ _ _), ?_⟩)
local macro_rules | `(tactic| walk_at "g") => `(tactic| repeat (first | refine ⟨_, rfl, ?_⟩ | refine ⟨_, _, rfl, rfl, ?_⟩ | refine ⟨Or.inr (by decide), ?_⟩ | refine ⟨Or.inl (by decide), ?_⟩ | refine ⟨(by decide : (0 : Int) < _), ?_⟩ | refine ⟨(⟨by decide, by decide⟩ : CDiv _ _), ?_⟩ | refine ⟨(⟨by decide, by decide, by decide⟩ : CPow _ _), ?_⟩ | refine Or.inl ⟨_, rfl, ?_⟩ | refine ⟨rfl, ?_⟩ | walk_at "ix" | walk_at "ixt" | walk_at "len" | fail "g"))
local macro_rules | `(tactic| walk_at "if") => `(tactic| refine ite2 (fun e => ?_) (fun e => ?_))
section
variable {P : Program} {w : World} {K : PySem.W.Frag} {mg : Str → Option Value} {base : Heap}
def namesD (ns : List Str) : PyData := .list (ns.map PyData.str)
def sp_form (K : PySem.W.Frag) (n : Nat) : Sp := fun vs H Q _ => ∃ (b : Addr) (v : V) (lv : Int) (ns : List Str) (M : Ms), vs = [.ref b, v, .int lv] ∧ Bag K M H b ∧ Mk M H ∧ Rp M H v (namesD ns) ∧ ns ≠ [] ∧ ns.length < 1000000 ∧ 1 ≤ lv ∧ lv ≤ n ∧
  Dr K M b H (fun x => ∃ f : Fm, x = f.enc ∧ (f.dep : Int) ≤ lv ∧ f.ok (· ∈ ns)) Q
theorem ok_form (T : Txt K mg) : ∀ n, FnOk P w K mg base CX0 (n + 3) T.f__law_form T.d__law_form ["_law_bag_here", "_law_readable", "_law_levels"] (sp_form K n) := by
  intro n
  induction n with
  | zero =>
    refine T.F__law_form.ok sc__law_form (fun vs H Q E h => ?_) (fun cdv A outer s H vs Q E hr h => ?_)
    · obtain ⟨_, _, _, _, _, _, _, _, _, _, _, h1, h2, _⟩ := h
      omega
    · obtain ⟨_, _, _, _, _, _, _, _, _, _, _, h1, h2, _⟩ := h
      omega
  | succ n ih =>
  have G__law_pick := ok_pick (P := P) (w := w) (base := base) T
  have G__law_choice := ok_choice (P := P) (w := w) (base := base) T
  have G__law_form := ih
  refine T.F__law_form.ok sc__law_form (fun vs H Q E h => ?_) (fun cdv A outer s H vs Q E hr h => ?_)
  · obtain ⟨_, _, _, _, _, rfl, _⟩ := h
    rfl
  · obtain ⟨b, v, lv, ns, M, rfl, hB, hM, hR, hne, hl, hlv1, hlv, q⟩ := h
    obtain ⟨a, xs, rfl, na, ha, rx⟩ := Rp.lstN hR
    have ex := rx.ofStrs
    subst ex
    have hpos : 0 < ns.length := List.length_pos_iff.mpr hne
    have hab : a ≠ b := fun z => na (by rw [z]; exact hB.w)
    have fin : ∀ (f : Fm) (H2 : Hp) (p : Addr) (us : List V), Sx (one b) H H2 → Gr H H2 → Bag K M H2 b → H2 p = none → FmAt M (upd H2 p (.tup us)) f us → (f.dep : Int) ≤ lv → f.ok (· ∈ ns) → Q (.ref p) (upd H2 p (.tup us)) := fun f H2 p us s g hB2 hp hf hd ho =>
      q _ _ f.enc (s.trans (Sx.new hp)) (g.trans Gr.upd) (hB2.same (same_new hp)) (hf.rp ((hM.gr g).out hp) (.inl upd_same)) ⟨f, rfl, hd, ho⟩
    refine ⟨_, (pss_cons (ps_set (i := 3) sc__law_form.nd rfl (Or.inl rfl) (pe_call G__law_pick (hr.mono (by omega)) (by rfl) T.g__law_pick T.F__law_pick.kp T.b__law_pick .nil pass0 (pa_cons (pv 0) (pa_cons pe_int pa_nil))))
      (pss_cons (ps_if (PW.pt (pw_or (pt_cmpR op_le (pv 2) pe_int (nomark _)) (pw_or1 (pt_cmpR op_lt (pv 3) pe_int (nomark _))))) (pss_cons (ps_if (PW.pt (pw_or (pt_not (pt_truthK (K := K) rfl (pv 1) (by intro _; rfl))) (pw_or1 (PW.pt (pw_and (pt_cmpR op_eq (pv 3) pe_int (nomark _)) (pw_and1 (pt_cmpR op_eq (pe_call G__law_pick (hr.mono (by omega)) (by rfl) T.g__law_pick T.F__law_pick.kp T.b__law_pick .nil pass0 (pa_cons (pv 0) (pa_cons pe_int pa_nil))) pe_int (nomark _)))))))) (pss_one (ps_ret (pe_tup (pa_cons pe_str (pa_cons (pe_call G__law_pick (hr.mono (by omega)) (by rfl) T.g__law_pick T.F__law_pick.kp T.b__law_pick .nil pass0 (pa_cons (pv 0) (pa_cons pe_int pa_nil))) pa_nil))))) pss_nil)
      (pss_one (ps_ret (pe_tup (pa_cons pe_str (pa_cons (pe_call G__law_choice (hr.mono (by omega)) (by rfl) T.g__law_choice T.F__law_choice.kp T.b__law_choice .nil pass0 (pa_cons (pv 0) (pa_cons (pv 1) pa_nil))) pa_nil)))))) pss_nil)
      (pss_cons (ps_set (i := 4) sc__law_form.nd rfl (Or.inl rfl) (pe_call G__law_form (hr.mono (by omega)) (by rfl) T.g__law_form T.F__law_form.kp T.b__law_form .nil pass0 (pa_cons (pv 0) (pa_cons (pv 1) (pa_cons (pe_op op_sub (pv 2) pe_int) pa_nil)))))
      (pss_cons (ps_set (i := 5) sc__law_form.nd rfl (Or.inl rfl) (pe_call G__law_form (hr.mono (by omega)) (by rfl) T.g__law_form T.F__law_form.kp T.b__law_form .nil pass0 (pa_cons (pv 0) (pa_cons (pv 1) (pa_cons (pe_op op_sub (pv 2) pe_int) pa_nil)))))
      (pss_cons (ps_if (pt_cmpR op_lt (pv 3) pe_int (nomark _)) (pss_one (ps_ret (pe_tup (pa_cons (pe_ix (ix_listK (K := K) rfl) (pe_lst (pa_cons pe_str (pa_cons pe_str (pa_cons pe_str pa_nil)))) (pe_op op_sub (pv 3) pe_int) (fun _ _ => rfl)) (pa_cons (pv 4) (pa_cons (pv 5) pa_nil)))))) pss_nil)
      (pss_one (ps_ret (pe_tup (pa_cons pe_str (pa_cons (pv 4) (pa_cons (pv 5) (pa_cons (pe_call G__law_form (hr.mono (by omega)) (by rfl) T.g__law_form T.F__law_form.kp T.b__law_form .nil pass0 (pa_cons (pv 0) (pa_cons (pv 1) (pa_cons (pe_op op_sub (pv 2) pe_int) pa_nil)))) pa_nil)))))))))))), ?_⟩
    walk_at "g"
    refine ⟨b, _, M, rfl, hB, by omega, by omega, fun way H1 h0 h1 hA1 hB1 => ?_⟩
    have g1 := At.gr hA1 hB1.there
    walk_at "g"
    have sM1 : Sx M H H1 := hA1.sx.le (one_le hB.w)
    have rest : ∀ f4 f5 : Fm, (f4.dep : Int) ≤ lv - 1 → (f5.dep : Int) ≤ lv - 1 → ((max f4.dep f5.dep + 1 : Nat) : Int) ≤ lv := fun f4 f5 h4 h5 => by omega
    have rest3 : ∀ f4 f5 f6 : Fm, (f4.dep : Int) ≤ lv - 1 → (f5.dep : Int) ≤ lv - 1 → (f6.dep : Int) ≤ lv - 1 → ((max f4.dep (max f5.dep f6.dep) + 1 : Nat) : Int) ≤ lv := fun f4 f5 f6 h4 h5 h6 => by omega
    have hw := hB.w
    refine ite2 (fun c1 => ?_) (fun c1 => ?_)
    rotate_left 1
    · walk_at "g"
      have c1' : ¬ lv ≤ 1 := fun z => c1 (decide_eq_true z)
      refine ite2 (fun c2 => ?_) (fun c2 => ?_)
      rotate_left 1
      · have c2' : ¬ way < 3 := fun z => c2 (decide_eq_true z)
        walk_at "g"
        refine ⟨b, .ref a, _, ns, M, rfl, hB1, hM.gr g1, hR.sx sM1, hne, hl, by omega, by omega, fun v4 H2 d4 s2 g2 hB2 hR4 hd4 => ?_⟩
        obtain ⟨f4, rfl, l4, o4⟩ := hd4
        have sM2 : Sx M H1 H2 := s2.le (one_le hw)
        walk_at "g"
        refine ⟨b, .ref a, _, ns, M, rfl, hB2, hM.gr (g1.trans g2), hR.sx (sM1.trans sM2), hne, hl, by omega, by omega, fun v5 H3 d5 s3 g3 hB3 hR5 hd5 => ?_⟩
        obtain ⟨f5, rfl, l5, o5⟩ := hd5
        have sM3 : Sx M H2 H3 := s3.le (one_le hw)
        have hR4' := hR4.sx sM3
        walk_at "g"
        walk_at "if"
        · rename_i c3
          have c3' : way < 6 := of_decide_eq_true c3
          have sf : ∀ p o, H3 p = none → Sx (one b) H (upd H3 p o) := fun p o hp => hA1.sx.trans (s2.trans (s3.trans (Sx.new hp)))
          have gf : ∀ p o, Gr H (upd H3 p o) := fun p o => g1.trans (g2.trans (g3.trans Gr.upd))
          obtain e | e | e : way = 3 ∨ way = 4 ∨ way = 5 := by omega
          all_goals
            subst e
            walk_at "g"
            refine ⟨szK rfl, fun p hp => ?_⟩
            walk_at "g"
            refine ⟨szK rfl, fun p2 hp2 => ?_⟩
          · exact fin (.sum f4 f5) _ p2 _ (sf _ _ hp) (gf _ _) (hB3.same (same_new hp)) hp2 (.sum ((hR4'.sx (Sx.new hp)).sx (Sx.new hp2)) ((hR5.sx (Sx.new hp)).sx (Sx.new hp2))) (rest f4 f5 l4 l5) ⟨o4, o5⟩
          · exact fin (.sum f4 f5) _ p2 _ (sf _ _ hp) (gf _ _) (hB3.same (same_new hp)) hp2 (.sum ((hR4'.sx (Sx.new hp)).sx (Sx.new hp2)) ((hR5.sx (Sx.new hp)).sx (Sx.new hp2))) (rest f4 f5 l4 l5) ⟨o4, o5⟩
          · exact fin (.same f4 f5) _ p2 _ (sf _ _ hp) (gf _ _) (hB3.same (same_new hp)) hp2 (.same ((hR4'.sx (Sx.new hp)).sx (Sx.new hp2)) ((hR5.sx (Sx.new hp)).sx (Sx.new hp2))) (rest f4 f5 l4 l5) ⟨o4, o5⟩
        · walk_at "g"
          refine ⟨b, .ref a, _, ns, M, rfl, hB3, hM.gr (g1.trans (g2.trans g3)), hR.sx (sM1.trans (sM2.trans sM3)), hne, hl, by omega, by omega, fun v6 H4 d6 s4 g4 hB4 hR6 hd6 => ?_⟩
          obtain ⟨f6, rfl, l6, o6⟩ := hd6
          have sM4 : Sx M H3 H4 := s4.le (one_le hw)
          refine ⟨szK rfl, fun p2 hp2 => ?_⟩
          exact fin (.pick f4 f5 f6) _ p2 _ (hA1.sx.trans (s2.trans (s3.trans s4))) (g1.trans (g2.trans (g3.trans g4))) hB4 hp2 (.pick ((hR4'.sx sM4).sx (Sx.new hp2)) ((hR5.sx sM4).sx (Sx.new hp2)) (hR6.sx (Sx.new hp2))) (rest3 f4 f5 f6 l4 l5 l6) ⟨o4, o5, o6⟩
      walk_at "g"
      have hS1 : SqL K H1 a (ns.map V.str) := sx_l hA1.sx (fun z : a = b => hab z) (.inl ha)
      refine ⟨true, .inl ⟨ns.map V.str, hS1, by cases ns with | nil => exact absurd rfl hne | cons _ _ => rfl⟩, ?_⟩
      walk_at "g"
      have one_lv : ((1 : Nat) : Int) ≤ lv := by omega
      have get : ∀ H2, At b H1 H2 → Bag K M H2 b → Gr H H2 → sp_choice K ([.ref b, .ref a] ++ []) H2 (fun v H3 => [V.str sGet, v].length ≤ sizeLine ∧ ∀ p, H3 p = none → Q (.ref p) (upd H3 p (.tup [.str sGet, v]))) E0 := fun H2 hA2 hB2 g2 => by
        refine ⟨b, a, _, M, rfl, hB2, sx_l hA2.sx (fun z : a = b => hab z) hS1, hab, by rw [List.length_map]; exact hpos, by rw [List.length_map]; exact hl, fun v H3 hv hA3 hB3 => ?_⟩
        obtain ⟨x, hx, rfl⟩ := List.mem_map.mp hv
        refine ⟨szK rfl, fun p hp => ?_⟩
        exact fin (.get x) _ p _ (hA1.sx.trans (hA2.sx.trans hA3.sx)) (g2.trans (At.gr hA3 hB3.there)) hB3 hp (.get x) one_lv hx
      walk_at "if"
      · walk_at "g"
        refine ⟨b, _, M, rfl, hB1, by omega, by omega, fun w2 H2 k0 k1 hA2 hB2 => ?_⟩
        walk_at "g"
        have g2 := g1.trans (At.gr hA2 hB2.there)
        walk_at "if"
        · walk_at "g"
          refine ⟨b, _, M, rfl, hB2, by omega, by omega, fun w3 H3 m0 m1 hA3 hB3 => ?_⟩
          refine ⟨szK rfl, fun p hp => ?_⟩
          exact fin (.is w3) _ p _ (hA1.sx.trans (hA2.sx.trans hA3.sx)) (g2.trans (At.gr hA3 hB3.there)) hB3 hp (.is _) one_lv ⟨m0, by omega⟩
        · walk_at "g"
          exact get H2 hA2 hB2 g2
      · walk_at "g"
        exact get H1 (fun _ _ => rfl) hB1 g1
    walk_at "g"
    have hS1 : SqL K H1 a (ns.map V.str) := sx_l hA1.sx (fun z : a = b => hab z) (.inl ha)
    refine ⟨true, .inl ⟨ns.map V.str, hS1, by cases ns with | nil => exact absurd rfl hne | cons _ _ => rfl⟩, ?_⟩
    walk_at "g"
    have one_lv : ((1 : Nat) : Int) ≤ lv := by omega
    have get : ∀ H2, At b H1 H2 → Bag K M H2 b → Gr H H2 → sp_choice K ([.ref b, .ref a] ++ []) H2 (fun v H3 => [V.str sGet, v].length ≤ sizeLine ∧ ∀ p, H3 p = none → Q (.ref p) (upd H3 p (.tup [.str sGet, v]))) E0 := fun H2 hA2 hB2 g2 => by
      refine ⟨b, a, _, M, rfl, hB2, sx_l hA2.sx (fun z : a = b => hab z) hS1, hab, by rw [List.length_map]; exact hpos, by rw [List.length_map]; exact hl, fun v H3 hv hA3 hB3 => ?_⟩
      obtain ⟨x, hx, rfl⟩ := List.mem_map.mp hv
      refine ⟨szK rfl, fun p hp => ?_⟩
      exact fin (.get x) _ p _ (hA1.sx.trans (hA2.sx.trans hA3.sx)) (g2.trans (At.gr hA3 hB3.there)) hB3 hp (.get x) one_lv hx
    walk_at "if"
    · walk_at "g"
      refine ⟨b, _, M, rfl, hB1, by omega, by omega, fun w2 H2 k0 k1 hA2 hB2 => ?_⟩
      walk_at "g"
      have g2 := g1.trans (At.gr hA2 hB2.there)
      walk_at "if"
      · walk_at "g"
        refine ⟨b, _, M, rfl, hB2, by omega, by omega, fun w3 H3 m0 m1 hA3 hB3 => ?_⟩
        refine ⟨szK rfl, fun p hp => ?_⟩
        exact fin (.is w3) _ p _ (hA1.sx.trans (hA2.sx.trans hA3.sx)) (g2.trans (At.gr hA3 hB3.there)) hB3 hp (.is _) one_lv ⟨m0, by omega⟩
      · walk_at "g"
        exact get H2 hA2 hB2 g2
    · walk_at "g"
      exact get H1 (fun _ _ => rfl) hB1 g1
end
end D

namespace D
open PySem PySem.Spec PyProof.Rows L2
local macro_rules | `(tactic| walk_at "st") => `(tactic| first | exact SqT.of (by assumption) | exact Or.inl (by assumption) | exact SqT.of upd_same | fail "st")
local macro_rules | `(tactic| walk_at "ixt") => `(tactic| refine ⟨_, _, _, _, rfl, rfl, (by walk_at "st" : SqT _ _ _ _), by rfl, ?_⟩)
local macro_rules | `(tactic| walk_at "sq") => `(tactic| first | exact SqL.of (by assumption) | assumption | exact Or.inl (by assumption) | exact SqL.of upd_same | fail "sq")
local macro_rules | `(tactic| walk_at "ix") => `(tactic| refine ⟨_, _, _, _, rfl, rfl, (by walk_at "sq" : SqL _ _ _ _), by rfl, ?_⟩)
local macro_rules | `(tactic| walk_at "set") => `(tactic| refine ⟨_, _, _, _, rfl, rfl, by first | assumption | exact upd_same, by rfl, ?_⟩)
local macro_rules | `(tactic| walk_at "len") => `(tactic| refine ⟨_, _, rfl, Or.inl (by walk_at "sq" : SqL _ _ _ _), ?_⟩)
local macro_rules | `(tactic| walk_at "g") => `(tactic| repeat (first | refine ⟨_, rfl, ?_⟩ | refine ⟨_, _, rfl, rfl, ?_⟩ | refine ⟨Or.inr (by decide), ?_⟩ | refine ⟨Or.inl (by decide), ?_⟩ | refine ⟨(by decide : (0 : Int) < _), ?_⟩ | refine ⟨(⟨by decide, by decide⟩ : CDiv _ _), ?_⟩ | refine ⟨(⟨by decide, by decide, by decide⟩ : CPow _ _), ?_⟩ | refine Or.inl ⟨_, rfl, ?_⟩ | refine ⟨rfl, ?_⟩ | walk_at "ix" | walk_at "ixt" | walk_at "len" | fail "g"))
local macro_rules | `(tactic| walk_at "if") => `(tactic| refine ite2 (fun e => ?_) (fun e => ?_))
section
variable {P : Program} {w : World} {K : PySem.W.Frag} {mg : Str → Option Value} {base : Heap}
def sp_row (K : PySem.W.Frag) : Sp := fun vs H Q _ => ∃ (b : Addr) (m : Int) (M : Ms), vs = [.ref b, .int m] ∧ Bag K M H b ∧ Mk M H ∧ 0 ≤ m ∧ m ≤ 1000 ∧
  DrR K M b H (fun ns => (ns.length : Int) ≤ m ∧ ns.Nodup ∧ ∀ n ∈ ns, 0 ≤ n ∧ n ≤ 9) Q
theorem ok_row (T : Txt K mg) : FnOk P w K mg base CX0 4 T.f__law_row T.d__law_row ["_law_bag_here", "_law_most"] (sp_row K) := by
  have G__law_pick := ok_pick (P := P) (w := w) (base := base) T
  have G__law_mingled := ok_mingled (P := P) (w := w) (base := base) T
  refine T.F__law_row.ok sc__law_row (fun vs H Q E h => ?_) (fun cdv A outer s H vs Q E hr h => ?_)
  · obtain ⟨_, _, _, rfl, _⟩ := h
    rfl
  · obtain ⟨b, m, M, rfl, hB, hM, hm0, hm1, q⟩ := h
    refine ⟨_, (pss_cons (ps_set (i := 2) sc__law_row.nd rfl (Or.inl rfl) (pe_call G__law_mingled (hr.mono (by omega)) (by rfl) T.g__law_mingled T.F__law_mingled.kp T.b__law_mingled .nil pass0 (pa_cons (pv 0) (pa_cons (pe_slice (sl_listK (K := K) rfl) (pe_lst (pa_cons pe_int (pa_cons pe_int (pa_cons pe_int (pa_cons pe_int (pa_cons pe_int (pa_cons pe_int (pa_cons pe_int (pa_cons pe_int (pa_cons pe_int (pa_cons pe_int pa_nil))))))))))) po_none (po_some (pe_op op_add pe_int (pe_call G__law_pick (hr.mono (by omega)) (by rfl) T.g__law_pick T.F__law_pick.kp T.b__law_pick .nil pass0 (pa_cons (pv 0) (pa_cons pe_int pa_nil)))))) pa_nil))))
      (pss_one (ps_ret (pe_callTy (call_tupleF (K := K) rfl) (by rfl) T.m_tuple (by decide +kernel) (pa_cons (pe_slice (sl_listK (K := K) rfl) (pv 2) po_none (po_some (pe_call G__law_pick (hr.mono (by omega)) (by rfl) T.g__law_pick T.F__law_pick.kp T.b__law_pick .nil pass0 (pa_cons (pv 0) (pa_cons (pe_op op_add (pv 1) pe_int) pa_nil))))) pa_nil))))), ?_⟩
    walk_at "g"
    refine ⟨szK rfl, fun p1 hp1 => ?_⟩
    walk_at "g"
    have hB1 : Bag K M (upd H p1 (.lst (ten.map V.int))) b := hB.same (same_new hp1)
    refine ⟨b, _, M, rfl, hB1, by omega, by omega, fun w1 H1 h0 h1 hA1 hB1 => ?_⟩
    walk_at "g"
    have hb1 : p1 ≠ b := fun z => hB.there (by rw [← z]; exact hp1)
    have e1 : H1 p1 = some (.lst (ten.map V.int)) := (hA1 p1 hb1).trans upd_same
    refine ⟨p1, _, rfl, SqL.of e1, fun p2 hp2 => ?_⟩
    obtain ⟨j, rfl⟩ : ∃ j : Nat, w1 = (j : Int) := ⟨w1.toNat, by omega⟩
    have ec : cutV (ten.map V.int) none (some (2 + (j : Int))) = (ten.take (2 + j)).map V.int := by
      rw [show (2 : Int) + (j : Int) = ((2 + j : Nat) : Int) by omega, cut_hi, List.map_take]
    have g1 : Gr H H1 := (Gr.upd (o := .lst (ten.map V.int))).trans (At.gr hA1 hB1.there)
    have hM1 := hM.gr g1
    have sH1 : Sx (one b) H H1 := (Sx.new hp1).trans hA1.sx
    have r2 : Rp M (upd H1 p2 (.lst (cutV (ten.map V.int) none (some (2 + (j : Int)))))) (.ref p2) (.list ((ten.take (2 + j)).map PyData.int)) := by
      rw [ec]
      exact Rp.newL hM1 hp2 (RpAll.ints _)
    refine ⟨b, .ref p2, _, M, rfl, hB1.same (same_new hp2), hM1.new, r2, by rw [List.length_map, List.length_take]; have : ten.length = 10 := rfl; omega, fun v H2 d s2 g2 hB2 hR2 hd => ?_⟩
    obtain ⟨es, rfl, hper⟩ := hd
    obtain ⟨ns, hns, rfl⟩ := perm_ints hper
    obtain ⟨a, xs, rfl, na, ha, rx⟩ := Rp.lstN hR2
    have ex := rx.ofInts
    subst ex
    walk_at "g"
    refine ⟨b, _, M, rfl, hB2, by omega, by omega, fun w2 H3 k0 k1 hA3 hB3 => ?_⟩
    obtain ⟨j2, rfl⟩ : ∃ j2 : Nat, w2 = (j2 : Int) := ⟨w2.toNat, by omega⟩
    have hab : a ≠ b := fun z => na (by rw [z]; exact hB.w)
    have hS3 : SqL K H3 a (ns.map V.int) := sx_l hA3.sx (fun z : a = b => hab z) (.inl ha)
    have g3 : Gr H H3 := g1.trans (Gr.upd.trans (g2.trans (At.gr hA3 hB3.there)))
    have s3 : Sx (one b) H H3 := sH1.trans ((Sx.new hp2).trans (s2.trans hA3.sx))
    walk_at "g"
    refine ⟨a, _, rfl, hS3, fun p3 hp3 => ?_⟩
    refine ⟨p3, _, rfl, SqL.of upd_same, fun p4 o4 hp4 oc od => ?_⟩
    have ec2 : cutV (ns.map V.int) none (some (j2 : Int)) = (ns.take j2).map V.int := by rw [cut_hi, List.map_take]
    rw [ec2] at hp4 ⊢
    have nd := ten_take (2 + j)
    refine q _ _ (ns.take j2) (s3.trans ((Sx.new hp3).trans (Sx.new hp4))) (g3.trans (Gr.upd.trans Gr.upd)) ((hB3.same (same_new hp3)).same (same_new hp4)) ⟨p4, o4, rfl, (hM.gr (g3.trans Gr.upd)).out hp4, upd_same, oc, od⟩ ⟨?_, ?_, fun n hn => ?_⟩
    · rw [List.length_take]
      omega
    · exact (hns.nodup_iff.mpr nd.1).sublist (List.take_sublist _ _)
    · exact nd.2 n (hns.mem_iff.mp (List.mem_of_mem_take hn))
end
end D

namespace D
open PySem PySem.Spec PyProof.Rows L2
local macro_rules | `(tactic| walk_at "st") => `(tactic| first | exact SqT.of (by assumption) | exact Or.inl (by assumption) | exact SqT.of upd_same | fail "st")
local macro_rules | `(tactic| walk_at "ixt") => `(tactic| refine ⟨_, _, _, _, rfl, rfl, (by walk_at "st" : SqT _ _ _ _), by rfl, ?_⟩)
local macro_rules | `(tactic| walk_at "sq") => `(tactic| first | exact SqL.of (by assumption) | assumption | exact Or.inl (by assumption) | exact SqL.of upd_same | fail "sq")
local macro_rules | `(tactic| walk_at "ix") => `(tactic| refine ⟨_, _, _, _, rfl, rfl, (by walk_at "sq" : SqL _ _ _ _), by rfl, ?_⟩)
local macro_rules | `(tactic| walk_at "set") => `(tactic| refine ⟨_, _, _, _, rfl, rfl, by first | assumption | exact upd_same, by rfl, ?_⟩)
local macro_rules | `(tactic| walk_at "len") => `(tactic| refine ⟨_, _, rfl, Or.inl (by walk_at "sq" : SqL _ _ _ _), ?_⟩)
local macro_rules | `(tactic| walk_at "g") => `(tactic| repeat (first | refine ⟨_, rfl, ?_⟩ | refine ⟨_, _, rfl, rfl, ?_⟩ | refine ⟨Or.inr (by decide), ?_⟩ | refine ⟨Or.inl (by decide), ?_⟩ | refine ⟨(by decide : (0 : Int) < _), ?_⟩ | refine ⟨(⟨by decide, by decide⟩ : CDiv _ _), ?_⟩ | refine ⟨(⟨by decide, by decide, by decide⟩ : CPow _ _), ?_⟩ | refine Or.inl ⟨_, rfl, ?_⟩ | refine ⟨rfl, ?_⟩ | walk_at "ix" | walk_at "ixt" | walk_at "len" | fail "g"))
local macro_rules | `(tactic| walk_at "if") => `(tactic| refine ite2 (fun e => ?_) (fun e => ?_))
section
variable {P : Program} {w : World} {K : PySem.W.Frag} {mg : Str → Option Value} {base : Heap}
def sp_anyKey (K : PySem.W.Frag) : Sp := fun vs H Q _ => ∃ (b : Addr) (M : Ms), vs = [.ref b] ∧ Bag K M H b ∧ Mk M H ∧ Dr K M b H (fun x => ∃ f : Fm, x = f.enc ∧ goodKey f) Q
theorem ok_anyKey (T : Txt K mg) : FnOk P w K mg base CX0 9 T.f__law_any_key T.d__law_any_key ["_law_bag_here"] (sp_anyKey K) := by
  have G__law_pick := ok_pick (P := P) (w := w) (base := base) T
  have G__law_choice := ok_choice (P := P) (w := w) (base := base) T
  have G__law_form := ok_form (P := P) (w := w) (base := base) T 5
  refine T.F__law_any_key.ok sc__law_any_key (fun vs H Q E h => ?_) (fun cdv A outer s H vs Q E hr h => ?_)
  · obtain ⟨_, _, rfl, _⟩ := h
    rfl
  · obtain ⟨b, M, rfl, hB, hM, q⟩ := h
    refine ⟨_, (pss_cons (ps_set (i := 1) sc__law_any_key.nd rfl (Or.inl rfl) (pe_call G__law_pick (hr.mono (by omega)) (by rfl) T.g__law_pick T.F__law_pick.kp T.b__law_pick .nil pass0 (pa_cons (pv 0) (pa_cons pe_int pa_nil))))
      (pss_cons (ps_set (i := 2) sc__law_any_key.nd rfl (Or.inl rfl) (pe_call G__law_choice (hr.mono (by omega)) (by rfl) T.g__law_choice T.F__law_choice.kp T.b__law_choice .nil pass0 (pa_cons (pv 0) (pa_cons (pe_lst (pa_cons pe_int (pa_cons pe_int (pa_cons pe_int (pa_cons pe_int (pa_cons pe_int (pa_cons pe_int (pa_cons pe_int (pa_cons pe_int (pa_cons pe_int (pa_cons pe_int (pa_cons pe_int pa_nil)))))))))))) pa_nil))))
      (pss_cons (ps_set (i := 3) sc__law_any_key.nd rfl (Or.inl rfl) (pe_call G__law_choice (hr.mono (by omega)) (by rfl) T.g__law_choice T.F__law_choice.kp T.b__law_choice .nil pass0 (pa_cons (pv 0) (pa_cons (pe_lst (pa_cons pe_int (pa_cons pe_int (pa_cons pe_int (pa_cons pe_int (pa_cons pe_int (pa_cons pe_int pa_nil))))))) pa_nil))))
      (pss_cons (ps_set (i := 4) sc__law_any_key.nd rfl (Or.inl rfl) (pe_tup (pa_cons pe_str (pa_cons pe_str pa_nil))))
      (pss_cons (ps_if (pt_cmpR op_eq (pv 1) pe_int (nomark _)) (pss_one (ps_ret (pv 4))) pss_nil)
      (pss_cons (ps_if (pt_cmpR op_eq (pv 1) pe_int (nomark _)) (pss_one (ps_ret (pe_tup (pa_cons pe_str (pa_cons pe_str pa_nil))))) pss_nil)
      (pss_cons (ps_if (pt_cmpR op_eq (pv 1) pe_int (nomark _)) (pss_one (ps_ret (pe_tup (pa_cons pe_str (pa_cons (pv 2) pa_nil))))) pss_nil)
      (pss_cons (ps_if (pt_cmpR op_eq (pv 1) pe_int (nomark _)) (pss_one (ps_ret (pe_tup (pa_cons pe_str (pa_cons (pv 4) (pa_cons (pe_tup (pa_cons pe_str (pa_cons (pv 2) pa_nil))) pa_nil)))))) pss_nil)
      (pss_cons (ps_if (pt_cmpR op_eq (pv 1) pe_int (nomark _)) (pss_one (ps_ret (pe_tup (pa_cons pe_str (pa_cons (pv 4) (pa_cons (pv 4) pa_nil)))))) pss_nil)
      (pss_cons (ps_if (pt_cmpR op_eq (pv 1) pe_int (nomark _)) (pss_one (ps_ret (pe_tup (pa_cons pe_str (pa_cons (pv 4) (pa_cons (pe_tup (pa_cons pe_str (pa_cons (pv 2) pa_nil))) pa_nil)))))) pss_nil)
      (pss_cons (ps_if (pt_cmpR op_eq (pv 1) pe_int (nomark _)) (pss_one (ps_ret (pe_tup (pa_cons pe_str (pa_cons (pe_tup (pa_cons pe_str (pa_cons (pv 4) (pa_cons (pe_tup (pa_cons pe_str (pa_cons (pv 2) pa_nil))) pa_nil)))) (pa_cons (pe_tup (pa_cons pe_str (pa_cons (pe_call G__law_pick (hr.mono (by omega)) (by rfl) T.g__law_pick T.F__law_pick.kp T.b__law_pick .nil pass0 (pa_cons (pv 0) (pa_cons pe_int pa_nil))) pa_nil))) (pa_cons (pv 4) pa_nil))))))) pss_nil)
      (pss_cons (ps_if (pt_cmpR op_eq (pv 1) pe_int (nomark _)) (pss_one (ps_ret (pe_tup (pa_cons pe_str (pa_cons (pv 4) (pa_cons (pe_tup (pa_cons pe_str (pa_cons pe_str pa_nil))) pa_nil)))))) pss_nil)
      (pss_cons (ps_if (pt_cmpR op_eq (pv 1) pe_int (nomark _)) (pss_one (ps_ret (pe_tup (pa_cons pe_str (pa_cons (pe_tup (pa_cons pe_str (pa_cons (pe_tup (pa_cons pe_str (pa_cons pe_str pa_nil))) (pa_cons (pe_tup (pa_cons pe_str (pa_cons (pv 3) pa_nil))) pa_nil)))) (pa_cons (pe_tup (pa_cons pe_str (pa_cons (pv 2) pa_nil))) (pa_cons (pv 4) pa_nil))))))) pss_nil)
      (pss_one (ps_ret (pe_call G__law_form (hr.mono (by omega)) (by rfl) T.g__law_form T.F__law_form.kp T.b__law_form .nil pass0 (pa_cons (pv 0) (pa_cons (pe_lst (pa_cons pe_str (pa_cons pe_str pa_nil))) (pa_cons (pe_op op_add pe_int (pe_call G__law_pick (hr.mono (by omega)) (by rfl) T.g__law_pick T.F__law_pick.kp T.b__law_pick .nil pass0 (pa_cons (pv 0) (pa_cons pe_int pa_nil)))) pa_nil))))))))))))))))))), ?_⟩
    have hw := hB.w
    walk_at "g"
    refine ⟨b, _, M, rfl, hB, by omega, by omega, fun way H1 h0 h1 hA1 hB1 => ?_⟩
    walk_at "g"
    walk_at "g"
    refine ⟨szK rfl, fun p1 hp1 => ?_⟩
    have n1 : p1 ≠ b := fun z => hB1.there (by rw [← z]; exact hp1)
    refine ⟨b, p1, _, M, rfl, hB1.same (same_new hp1), SqL.of upd_same, n1, by decide, by decide, fun v2 H2 hv2 hA2 hB2 => ?_⟩
    obtain ⟨worth, rfl, w0, w9⟩ := ints_mem (l := [9, 9, 0, 1, 2, 3, 4, 5, 6, 7, 8]) (by decide) hv2
    walk_at "g"
    walk_at "g"
    refine ⟨szK rfl, fun p2 hp2 => ?_⟩
    have n2 : p2 ≠ b := fun z => hB2.there (by rw [← z]; exact hp2)
    refine ⟨b, p2, _, M, rfl, hB2.same (same_new hp2), SqL.of upd_same, n2, by decide, by decide, fun v3 H3 hv3 hA3 hB3 => ?_⟩
    obtain ⟨spot, rfl, t0, t9⟩ := ints_mem (l := [4, 4, 0, 1, 2, 3]) (by decide) hv3
    walk_at "g"
    walk_at "g"
    refine ⟨szK rfl, fun p4 hp4 => ?_⟩
    have s4 : Sx (one b) H (upd H3 p4 (.tup [.str (Str.ofString "get"), .str (Str.ofString "item")])) := hA1.sx.trans ((Sx.new hp1).trans (hA2.sx.trans ((Sx.new hp2).trans (hA3.sx.trans (Sx.new hp4)))))
    have g4 : Gr H (upd H3 p4 (.tup [.str (Str.ofString "get"), .str (Str.ofString "item")])) := (At.gr hA1 hB1.there).trans (Gr.upd.trans ((At.gr hA2 hB2.there).trans (Gr.upd.trans ((At.gr hA3 hB3.there).trans Gr.upd))))
    have g3 : Gr H H3 := (At.gr hA1 hB1.there).trans (Gr.upd.trans ((At.gr hA2 hB2.there).trans (Gr.upd.trans (At.gr hA3 hB3.there))))
    have hB4 : Bag K M (upd H3 p4 (.tup [.str (Str.ofString "get"), .str (Str.ofString "item")])) b := hB3.same (same_new hp4)
    have hI : Rp M (upd H3 p4 (.tup [.str (Str.ofString "get"), .str (Str.ofString "item")])) (.ref p4) (Fm.get sItem).enc := Rp.newT (hM.gr g3) hp4 (.cons (.str _) (.one (.str _)))
    have hM4 := hM.gr g4
    generalize upd H3 p4 (.tup [.str (Str.ofString "get"), .str (Str.ofString "item")]) = H4 at s4 g4 hB4 hI hM4
    have fin : ∀ (f : Fm) v H', Sx (one b) H4 H' → Gr H4 H' → Bag K M H' b → Rp M H' v f.enc → f.dep ≤ 5 → f.ok isKN → Q v H' := fun f v H' sx gr hB' r d o => q v H' f.enc (s4.trans sx) (g4.trans gr) hB' r ⟨f, rfl, d, o⟩
    have finS : ∀ (f : Fm) v H', Same H4 H' → Rp M H' v f.enc → f.dep ≤ 5 → f.ok isKN → Q v H' := fun f v H' ss r d o => fin f v H' (Sx.same ss) (Gr.same ss) (hB4.same ss) r d o
    have kI : isKN sItem := .inl rfl
    have kA : isKN sAt := .inr rfl
    walk_at "g"
    walk_at "if"
    · walk_at "g"
      exact finS (.get sItem) _ _ (Same.refl _) hI (Nat.le_of_ble_eq_true rfl) kI
    walk_at "g"
    walk_at "if"
    · walk_at "g"
      walk_at "g"
      refine ⟨szK rfl, fun p5 hp5 => ?_⟩
      exact finS (.get sAt) _ _ (same_new hp5) (Rp.newT hM4 hp5 (.cons (.str _) (.one (.str _)))) (Nat.le_of_ble_eq_true rfl) kA
    walk_at "g"
    walk_at "if"
    · walk_at "g"
      walk_at "g"
      refine ⟨szK rfl, fun p5 hp5 => ?_⟩
      exact finS (.is worth) _ _ (same_new hp5) (Rp.newT hM4 hp5 (.cons (.str _) (.one (.int _)))) (Nat.le_of_ble_eq_true rfl) ⟨w0, w9⟩
    walk_at "g"
    walk_at "if"
    · walk_at "g"
      walk_at "g"
      refine ⟨szK rfl, fun p5 hp5 => ?_⟩
      walk_at "g"
      refine ⟨szK rfl, fun p6 hp6 => ?_⟩
      exact finS (.sum (.get sItem) (.is worth)) _ _ ((same_new hp5).trans (same_new hp6)) (Rp.newT hM4.new hp6 (.cons (.str _) (.cons (hI.sx (Sx.new hp5)) (.one (Rp.newT hM4 hp5 (.cons (.str _) (.one (.int _)))))))) (Nat.le_of_ble_eq_true rfl) ⟨kI, w0, w9⟩
    walk_at "g"
    walk_at "if"
    · walk_at "g"
      walk_at "g"
      refine ⟨szK rfl, fun p5 hp5 => ?_⟩
      exact finS (.sum (.get sItem) (.get sItem)) _ _ (same_new hp5) (Rp.newT hM4 hp5 (.cons (.str _) (.cons hI (.one hI)))) (Nat.le_of_ble_eq_true rfl) ⟨kI, kI⟩
    walk_at "g"
    walk_at "if"
    · walk_at "g"
      walk_at "g"
      refine ⟨szK rfl, fun p5 hp5 => ?_⟩
      walk_at "g"
      refine ⟨szK rfl, fun p6 hp6 => ?_⟩
      exact finS (.same (.get sItem) (.is worth)) _ _ ((same_new hp5).trans (same_new hp6)) (Rp.newT hM4.new hp6 (.cons (.str _) (.cons (hI.sx (Sx.new hp5)) (.one (Rp.newT hM4 hp5 (.cons (.str _) (.one (.int _)))))))) (Nat.le_of_ble_eq_true rfl) ⟨kI, w0, w9⟩
    walk_at "g"
    walk_at "if"
    · walk_at "g"
      walk_at "g"
      refine ⟨szK rfl, fun p5 hp5 => ?_⟩
      walk_at "g"
      refine ⟨szK rfl, fun p6 hp6 => ?_⟩
      have r6 : Rp M _ (.ref p6) (Fm.same (.get sItem) (.is worth)).enc := Rp.newT hM4.new hp6 (.cons (.str _) (.cons (hI.sx (Sx.new hp5)) (.one (Rp.newT hM4 hp5 (.cons (.str _) (.one (.int _)))))))
      walk_at "g"
      refine ⟨b, _, M, rfl, (hB4.same (same_new hp5)).same (same_new hp6), by omega, by omega, fun w7 H7 k0 k1 hA7 hB7 => ?_⟩
      have s7 := hA7.sx.le (one_le hw)
      have g7 := At.gr hA7 hB7.there
      have hM7 := (hM4.new.new).gr g7
      walk_at "g"
      refine ⟨szK rfl, fun p8 hp8 => ?_⟩
      walk_at "g"
      refine ⟨szK rfl, fun p9 hp9 => ?_⟩
      refine fin (.pick (.same (.get sItem) (.is worth)) (.is w7) (.get sItem)) _ _ ((Sx.new hp5).trans ((Sx.new hp6).trans (hA7.sx.trans ((Sx.new hp8).trans (Sx.new hp9))))) (Gr.upd.trans (Gr.upd.trans (g7.trans (Gr.upd.trans Gr.upd)))) ((hB7.same (same_new hp8)).same (same_new hp9)) ?_ (Nat.le_of_ble_eq_true rfl) ⟨⟨kI, w0, w9⟩, ⟨k0, by omega⟩, kI⟩
      exact Rp.newT hM7.new hp9 (.cons (.str _) (.cons ((r6.sx s7).sx (Sx.new hp8)) (.cons (Rp.newT hM7 hp8 (.cons (.str _) (.one (.int _)))) (.one ((((hI.sx (Sx.new hp5)).sx (Sx.new hp6)).sx s7).sx (Sx.new hp8))))))
    walk_at "g"
    walk_at "if"
    · walk_at "g"
      walk_at "g"
      refine ⟨szK rfl, fun p5 hp5 => ?_⟩
      walk_at "g"
      refine ⟨szK rfl, fun p6 hp6 => ?_⟩
      exact finS (.sum (.get sItem) (.get sAt)) _ _ ((same_new hp5).trans (same_new hp6)) (Rp.newT hM4.new hp6 (.cons (.str _) (.cons (hI.sx (Sx.new hp5)) (.one (Rp.newT hM4 hp5 (.cons (.str _) (.one (.str _)))))))) (Nat.le_of_ble_eq_true rfl) ⟨kI, kA⟩
    walk_at "g"
    walk_at "if"
    · walk_at "g"
      walk_at "g"
      refine ⟨szK rfl, fun p5 hp5 => ?_⟩
      walk_at "g"
      refine ⟨szK rfl, fun p6 hp6 => ?_⟩
      walk_at "g"
      refine ⟨szK rfl, fun p7 hp7 => ?_⟩
      walk_at "g"
      walk_at "g"
      refine ⟨szK rfl, fun p8 hp8 => ?_⟩
      walk_at "g"
      walk_at "g"
      refine ⟨szK rfl, fun p9 hp9 => ?_⟩
      refine finS (.pick (.same (.get sAt) (.is spot)) (.is worth) (.get sItem)) _ _ ((same_new hp5).trans ((same_new hp6).trans ((same_new hp7).trans ((same_new hp8).trans (same_new hp9))))) ?_ (Nat.le_of_ble_eq_true rfl) ⟨⟨kA, t0, t9⟩, ⟨w0, w9⟩, kI⟩
      exact Rp.newT hM4.new.new.new.new hp9 (.cons (.str _) (.cons ((Rp.newT hM4.new.new hp7 (.cons (.str _) (.cons ((Rp.newT hM4 hp5 (.cons (.str _) (.one (.str _)))).sx (Sx.new hp6)) (.one (Rp.newT hM4.new hp6 (.cons (.str _) (.one (.int _)))))))).sx (Sx.new hp8)) (.cons (Rp.newT hM4.new.new.new hp8 (.cons (.str _) (.one (.int _)))) (.one ((((hI.sx (Sx.new hp5)).sx (Sx.new hp6)).sx (Sx.new hp7)).sx (Sx.new hp8))))))
    walk_at "g"
    walk_at "g"
    refine ⟨szK rfl, fun p5 hp5 => ?_⟩
    walk_at "g"
    refine ⟨b, _, M, rfl, hB4.same (same_new hp5), by omega, by omega, fun w7 H7 k0 k1 hA7 hB7 => ?_⟩
    have s7 := hA7.sx.le (one_le hw)
    have g7 := At.gr hA7 hB7.there
    have r5 : Rp M _ (.ref p5) (namesD [sItem, sAt]) := (Rp.newL hM4 hp5 (RpAll.strs [sItem, sAt])).sx s7
    walk_at "g"
    refine ⟨b, .ref p5, _, [sItem, sAt], M, rfl, hB7, hM4.new.gr g7, r5, by simp, by decide, by omega, by omega, fun v H8 d s8 g8 hB8 r8 hd => ?_⟩
    obtain ⟨f, rfl, l8, o8⟩ := hd
    exact fin f v H8 ((Sx.new hp5).trans (hA7.sx.trans s8)) (Gr.upd.trans (g7.trans g8)) hB8 r8 (by omega) (f.ok_imp (fun x hx => by
      rcases List.mem_cons.mp hx with e | hx
      · exact .inl e
      · exact .inr (List.mem_singleton.mp hx)) o8)
end
end D

namespace D
open PySem PySem.Spec PyProof.Rows L2
local macro_rules | `(tactic| walk_at "st") => `(tactic| first | exact SqT.of (by assumption) | exact Or.inl (by assumption) | exact SqT.of upd_same | fail "st")
local macro_rules | `(tactic| walk_at "ixt") => `(tactic| refine ⟨_, _, _, _, rfl, rfl, (by walk_at "st" : SqT _ _ _ _), by rfl, ?_⟩)
local macro_rules | `(tactic| walk_at "sq") => `(tactic| first | exact SqL.of (by assumption) | assumption | exact Or.inl (by assumption) | exact SqL.of upd_same | fail "sq")
local macro_rules | `(tactic| walk_at "ix") => `(tactic| refine ⟨_, _, _, _, rfl, rfl, (by walk_at "sq" : SqL _ _ _ _), by rfl, ?_⟩)
local macro_rules | `(tactic| walk_at "set") => `(tactic| refine ⟨_, _, _, _, rfl, rfl, by first | assumption | exact upd_same, by rfl, ?_⟩)
local macro_rules | `(tactic| walk_at "len") => `(tactic| refine ⟨_, _, rfl, Or.inl (by walk_at "sq" : SqL _ _ _ _), ?_⟩)
local macro_rules | `(tactic| walk_at "g") => `(tactic| repeat (first | refine ⟨_, rfl, ?_⟩ | refine ⟨_, _, rfl, rfl, ?_⟩ | refine ⟨Or.inr (by decide), ?_⟩ | refine ⟨Or.inl (by decide), ?_⟩ | refine ⟨(by decide : (0 : Int) < _), ?_⟩ | refine ⟨(⟨by decide, by decide⟩ : CDiv _ _), ?_⟩ | refine ⟨(⟨by decide, by decide, by decide⟩ : CPow _ _), ?_⟩ | refine Or.inl ⟨_, rfl, ?_⟩ | refine ⟨rfl, ?_⟩ | walk_at "ix" | walk_at "ixt" | walk_at "len" | fail "g"))
local macro_rules | `(tactic| walk_at "if") => `(tactic| refine ite2 (fun e => ?_) (fun e => ?_))
section
variable {P : Program} {w : World} {K : PySem.W.Frag} {mg : Str → Option Value} {base : Heap}
def sp_lids : Sp := fun vs H Q _ => ∃ (k v : V) (f : Fm) (ns : List Int) (M : Ms), vs = [k, v] ∧ Rp M H k f.enc ∧ goodKey f ∧ RowAt M H v ns ∧ ns.length ≤ 5 ∧ Mk M H ∧ Pu M H (fun d => d = .list (idsOf (wsOf f ns))) Q
theorem ids_take {ws : List Int} {i : Nat} {w' : Int} (h : ws[i]? = some w') : (idsOf ws).take (i + 1) = (idsOf ws).take i ++ [.tuple [.int w', .int ((ws.take i).count w' : Nat)]] := by
  rw [List.take_add_one]
  congr 1
  unfold idsOf
  rw [List.getElem?_mapIdx, h]
  rfl
theorem ok_lids (T : Txt K mg) : FnOk P w K mg base CX0 7 T.f__law_idents T.d__law_idents ["_law_key", "_law_row_here"] (sp_lids) := by
  have G__law_value := ok_law_value (P := P) (w := w) (base := base) T 5
  refine T.F__law_idents.ok sc__law_idents (fun vs H Q E h => ?_) (fun cdv A outer s H vs Q E hr h => ?_)
  · obtain ⟨_, _, _, _, _, rfl, _⟩ := h
    rfl
  · obtain ⟨k, v, f, ns, M, rfl, hK, hg, hR, h5, hM, q⟩ := h
    obtain ⟨b, rfl, nb, hb⟩ := hR
    refine ⟨_, (pss_cons (ps_set (i := 2) sc__law_idents.nd rfl (Or.inl rfl) (pe_lst pa_nil))
      (pss_cons (ps_for PassesOwn.never rfl (pi_enumTK (K := K) rfl (by rfl) T.m_enumerate (pa_cons (pv 1) pa_nil)) (pg_tupK (K := K) rfl rfl (pgs_cons (pg_name (i := 3) sc__law_idents.nd rfl (Or.inl rfl)) (pgs_cons (pg_name (i := 4) sc__law_idents.nd rfl (Or.inl rfl)) pgs_nil))) (pss_cons (ps_set (i := 5) sc__law_idents.nd rfl (Or.inr rfl) (pe_call G__law_value (hr.mono (by omega)) (by rfl) T.g__law_value T.F__law_value.kp T.b__law_value .nil pass0 (pa_cons (pv 0) (pa_cons (pe_disp (pps_cons pe_str (pv 4) (pps_cons pe_str (pv 3) pps_nil)) (by rfl) (by rfl) (fun z => by cases z) (by decide)) pa_nil))))
      (pss_one (ps_expr (pe_bmK2 (K := K) rfl PySem.F.plainAttrs_list PySem.F.slot_list_append PySem.F.type_list_append mt_append (pv 2) (pa_cons (pe_tup (pa_cons (pv 5) (pa_cons (pe_callB (call_lenK (K := K) rfl) (by rfl) T.m_len PySem.boot_len (pa_cons (pe_lc (own := [("_law_told", 6)]) (g := gName 6)  (by rfl) sc__law_idents.nd (pi_listK (K := K) rfl (pv 2)) (blkOk_by (own := [("_law_told", 6)]) (N := ["_law_key", "_law_row_here", "_law_out", "_law_at", "_law_item", "_law_worth", "_law_told"]) (sc := defScope s__law_idents) (by decide +kernel)) (fun _ _ _ _ _ => (pg_name (i := 6) sc__law_idents.nd rfl (Or.inl rfl))) (fun _ _ _ _ _ => (pts_one (pt_cmpR op_eq (pe_ix (ix_tupK (K := K) rfl) (pv 6) pe_int (fun _ _ => rfl)) (pv 5) (nomark _)))) (fun _ _ _ _ _ => (pv 6))) pa_nil)) pa_nil))) pa_nil))))))
      (pss_one (ps_ret (pv 2))))), ?_⟩
    walk_at "g"
    refine ⟨szK rfl, fun o ho => ?_⟩
    walk_at "g"
    refine ⟨b, _, rfl, .inl (by have := same_rd (same_new (o := .lst []) ho) hb; exact this), ?_⟩
    have hlw : (wsOf f ns).length = ns.length := List.length_mapIdx
    refine for_enumT (K := K) (a := b) (xs := ns.map V.int) (fun i σ H' => ∃ y3 y4 y5 y6, σ = [some k, some (.ref b), some (.ref o), y3, y4, y5, y6] ∧ Same H H' ∧ ∃ acc, H' o = some (.lst acc) ∧ RpAll (also M o) H' acc ((idsOf (wsOf f ns)).take i)) ⟨_, _, _, _, rfl, same_new ho, [], upd_same, .nil⟩ (fun i σ H' _ p => ?_) (fun i x T' σ H' hx hT p => ?_) (fun σ H' p => ?_)
    · obtain ⟨_, _, _, _, rfl, hs, _⟩ := p
      exact same_sqt hs (.inl hb)
    · obtain ⟨_, _, _, _, rfl, hs, acc, eo, ra⟩ := p
      rw [List.getElem?_map] at hx
      obtain ⟨n, hn, rfl⟩ := Option.map_eq_some_iff.mp hx
      have hi : i < ns.length := (List.getElem?_eq_some_iff.mp hn).1
      have hw' : (wsOf f ns)[i]? = some (kval f n (i : Nat)) := by
        unfold wsOf
        rw [List.getElem?_mapIdx, hn]
        rfl
      generalize hws : wsOf f ns = ws at *
      have s1 : Same H' (upd H' T' (.tup [.int (i : Nat), .int n])) := same_new hT
      refine ⟨T', _, rfl, SqT.of upd_same, rfl, _, _, rfl, _, _, rfl, rfl, ?_⟩
      walk_at "g"
      intro p hp
      walk_at "g"
      refine ⟨upd_same, [(Sum.inr sItem, .int n), (Sum.inr sAt, .int (i : Nat))], rfl, (by show 2 ≤ 15; decide), ?_⟩
      rw [upd_upd]
      have s2 := same_new (o := .dK (mergeK [] [((Sum.inr sItem : Key), V.int n), (Sum.inr sAt, V.int (i : Nat))])) hp
      have s12 := s1.trans s2
      refine ⟨k, p, f, M, _, rho n (i : Nat), isKN, rfl, hK.sx (Sx.same (hs.trans s12)), hg.1, hg.2, upd_same, env_kvs n (i : Nat), ?_⟩
      walk_at "g"
      have eo' := s12 _ _ eo
      have ra' := (ra.sx (Sx.same s12))
      have hs' := hs.trans s12
      generalize upd (upd H' T' (.tup [.int (i : Nat), .int n])) p (.dK (mergeK [] [((Sum.inr sItem : Key), V.int n), (Sum.inr sAt, V.int (i : Nat))])) = Hc at eo' ra' hs'
      have lacc : acc.length = i := by
        have := ra.length
        have l2 : (idsOf ws).length = ws.length := List.length_mapIdx
        rw [List.length_take] at this
        omega
      refine ⟨.inl ⟨rfl, _, SqL.of eo'⟩, ?_⟩
      walk_at "g"
      refine ⟨⟨acc, SqL.of eo'⟩, fun D hD => ?_⟩
      have nDo : D ≠ o := fun z => by rw [z, eo'] at hD; cases hD
      refine list_loop (xs := acc) (fun j H2 => Same Hc H2 ∧ ∃ acc2, H2 D = some (.lst acc2) ∧ acc2.length = ((ws.take i).take j).count (kval f n (i : Nat))) ⟨same_new hD, [], upd_same, by rw [List.take_zero, List.count_nil]; rfl⟩ (fun j H2 _ pp => SqL.of (pp.1 _ _ eo')) (fun j x H2 hx2 pp => ?_) (fun H2 pp => ?_)
      · obtain ⟨s5, acc2, e5, l5⟩ := pp
        obtain ⟨d, hd, rd⟩ := (ra'.sx (Sx.same s5)).get hx2
        have hj : j < i := by
          have := (List.getElem?_eq_some_iff.mp hx2).1
          omega
        rw [List.getElem?_take_of_lt hj] at hd
        unfold idsOf at hd
        rw [List.getElem?_mapIdx] at hd
        obtain ⟨u, hu, rfl⟩ := Option.map_eq_some_iff.mp hd
        obtain ⟨a0, xs0, rfl, na0, ha0, rx0⟩ := Rp.tupN rd
        obtain ⟨v1, v2, rfl, r1, r2⟩ := rx0.inv2
        cases r1
        cases r2
        have hc : List.count (kval f n (i : Nat)) ((ws.take i).take (j + 1)) = List.count (kval f n (i : Nat)) ((ws.take i).take j) + if u = kval f n (i : Nat) then 1 else 0 := by
          rw [List.take_add_one, List.getElem?_take_of_lt hj, hu, List.count_append]
          congr 1
          show List.count _ [u] = _
          rw [List.count_singleton]
          by_cases c : u = kval f n (i : Nat)
          · rw [if_pos c, if_pos (beq_iff_eq.mpr c)]
          · rw [if_neg c, if_neg (fun z => c (beq_iff_eq.mp z))]
        refine ⟨rfl, ?_⟩
        walk_at "g"
        walk_at "if"
        · rename_i c
          have c' : u = kval f n (i : Nat) := V.int.inj (of_decide_eq_true c)
          walk_at "g"
          refine ⟨acc2, e5, small1000 (by have := List.count_le_length (a := kval f n (i : Nat)) (l := (ws.take i).take j); rw [List.length_take, List.length_take] at this; omega), same_put s5 hD, acc2 ++ [.ref a0], upd_same, ?_⟩
          rw [List.length_append, hc, if_pos c', l5]
          rfl
        · rename_i c
          have c' : ¬ u = kval f n (i : Nat) := fun z => c (decide_eq_true (by rw [z]; rfl))
          refine ⟨s5, acc2, e5, ?_⟩
          rw [hc, if_neg c', l5]
          rfl
      · obtain ⟨s5, acc2, e5, l5⟩ := pp
        rw [lacc, List.take_of_length_le (by rw [List.length_take]; omega)] at l5
        walk_at "g"
        refine ⟨szK rfl, fun p9 hp9 => ?_⟩
        rw [l5]
        have s6 : Same Hc (upd H2 p9 (.tup [.int (kval f n (i : Nat)), .int ((ws.take i).count (kval f n (i : Nat)) : Nat)])) := s5.trans (same_new hp9)
        walk_at "g"
        refine ⟨o, acc, .ref p9, rfl, rfl, s6 _ _ eo', small1000 (by omega), ?_⟩
        refine ⟨_, _, _, _, rfl, same_put (hs'.trans s6) ho, acc ++ [.ref p9], upd_same, ?_⟩
        rw [ids_take hw']
        have hp9' : ¬ (also M o) p9 := fun z => by
          rcases z with z | z
          · exact (hM.gr (Gr.same (hs'.trans s5))).out hp9 z
          · have z' : p9 = o := z
            rw [z', s5 _ _ eo'] at hp9
            cases hp9
        exact ((ra'.sx (Sx.same s6)).sx (Sx.put (.inr rfl))).append (.one (Rp.sx (Sx.put (.inr rfl)) (.tup hp9' (.inl upd_same) (.cons (.int _) (.one (.int _))))))
    · obtain ⟨_, _, _, _, rfl, hs, acc, eo, ra⟩ := p
      have el : (ns.map V.int).length = (idsOf (wsOf f ns)).length := by
        unfold idsOf
        rw [List.length_map, List.length_mapIdx, hlw]
      rw [el, List.take_length] at ra
      refine ⟨.ref o, rfl, q _ _ _ hs (.lst (hM.out ho) (.inl eo) (ra.less also_le)) rfl⟩
end
end D

namespace D
open PySem PySem.Spec PyProof.Rows L2
local macro_rules | `(tactic| walk_at "st") => `(tactic| first | exact SqT.of (by assumption) | exact Or.inl (by assumption) | exact SqT.of upd_same | fail "st")
local macro_rules | `(tactic| walk_at "ixt") => `(tactic| refine ⟨_, _, _, _, rfl, rfl, (by walk_at "st" : SqT _ _ _ _), by rfl, ?_⟩)
local macro_rules | `(tactic| walk_at "sq") => `(tactic| first | exact SqL.of (by assumption) | assumption | exact Or.inl (by assumption) | exact SqL.of upd_same | fail "sq")
local macro_rules | `(tactic| walk_at "ix") => `(tactic| refine ⟨_, _, _, _, rfl, rfl, (by walk_at "sq" : SqL _ _ _ _), by rfl, ?_⟩)
local macro_rules | `(tactic| walk_at "set") => `(tactic| refine ⟨_, _, _, _, rfl, rfl, by first | assumption | exact upd_same, by rfl, ?_⟩)
local macro_rules | `(tactic| walk_at "len") => `(tactic| refine ⟨_, _, rfl, Or.inl (by walk_at "sq" : SqL _ _ _ _), ?_⟩)
local macro_rules | `(tactic| walk_at "g") => `(tactic| repeat (first | refine ⟨_, rfl, ?_⟩ | refine ⟨_, _, rfl, rfl, ?_⟩ | refine ⟨Or.inr (by decide), ?_⟩ | refine ⟨Or.inl (by decide), ?_⟩ | refine ⟨(by decide : (0 : Int) < _), ?_⟩ | refine ⟨(⟨by decide, by decide⟩ : CDiv _ _), ?_⟩ | refine ⟨(⟨by decide, by decide, by decide⟩ : CPow _ _), ?_⟩ | refine Or.inl ⟨_, rfl, ?_⟩ | refine ⟨rfl, ?_⟩ | walk_at "ix" | walk_at "ixt" | walk_at "len" | fail "g"))
local macro_rules | `(tactic| walk_at "if") => `(tactic| refine ite2 (fun e => ?_) (fun e => ?_))
section
variable {P : Program} {w : World} {K : PySem.W.Frag} {mg : Str → Option Value} {base : Heap}
def MenuAt (M : Ms) (H : Hp) (v : V) (nss : List (List Int)) : Prop := ∃ m xs, v = .ref m ∧ ¬ M m ∧ Rd H m (.tup xs) ∧ xs.length = nss.length ∧ nss.length ≤ 8 ∧ ∀ (i : Nat) (ns : List Int), nss[i]? = some ns → ∃ w, xs[i]? = some w ∧ RowF M H w ns ∧ goodRow ns
theorem MenuAt.sx {M : Ms} {H H' : Hp} {v : V} {nss : List (List Int)} (h : MenuAt M H v nss) (s : Sx M H H') : MenuAt M H' v nss := by
  obtain ⟨m, xs, e, n, r, l, l8, z⟩ := h
  refine ⟨m, xs, e, n, sx_rd s n r, l, l8, fun i ns hi => ?_⟩
  obtain ⟨w, hw, q, g⟩ := z i ns hi
  exact ⟨w, hw, q.sx s, g⟩
theorem MenuAt.fresh {M : Ms} {H : Hp} {v : V} {nss : List (List Int)} {p : Addr} (hp : H p = none) (h : MenuAt M H v nss) : MenuAt (also M p) H v nss := by
  obtain ⟨m, xs, e, n, r, l, l8, z⟩ := h
  refine ⟨m, xs, e, fun y => ?_, r, l, l8, fun i ns hi => ?_⟩
  · rcases y with y | y
    · exact n y
    · exact rd_ne r hp y
  · obtain ⟨w, hw, q, g⟩ := z i ns hi
    exact ⟨w, hw, q.fresh hp, g⟩
theorem in_ints (n : Int) (acc : List Int) : inV (.int n) (acc.map V.int) = decide (n ∈ acc) := by
  unfold inV
  rw [List.any_map, Bool.eq_iff_iff, List.any_eq_true, decide_eq_true_iff]
  constructor
  · rintro ⟨x, hx, e⟩
    have e' : decide (x = n) = true := e
    rw [decide_eq_true_iff] at e'
    rw [← e']
    exact hx
  · intro h
    exact ⟨n, h, by show decide (n = n) = true; exact decide_eq_true rfl⟩
theorem sx_putN {N : Ms} {H H' : Hp} {p : Addr} {o : HO} (s : Sx N H H') (h : H p = none) : Sx N H (upd H' p o) := fun a u n e => by
  rw [upd_ne (ne_of_none e h)]
  exact s a u n e
theorem erase_map (ns : List Int) (j : Nat) : (ns.map V.int).eraseIdx j = (ns.eraseIdx j).map V.int := by
  rw [List.eraseIdx_eq_take_drop_succ, List.eraseIdx_eq_take_drop_succ, List.map_append, List.map_take, List.map_drop]
theorem good_erase {ns : List Int} (h : goodRow ns) (j : Nat) : goodRow (ns.eraseIdx j) :=
  ⟨Nat.le_trans (List.length_eraseIdx_le _ _) h.1, h.2.1.sublist (List.eraseIdx_sublist _ _), fun x hx => h.2.2 x (List.mem_of_mem_eraseIdx hx)⟩
theorem good_cons {ns : List Int} {x : Int} (h : goodRow ns) (hl : ns.length < 5) (hx : x ∉ ns) (h0 : 0 ≤ x) (h9 : x ≤ 9) : goodRow (x :: ns) :=
  ⟨hl, List.nodup_cons.mpr ⟨hx, h.2.1⟩, fun y hy => by
    rcases List.mem_cons.mp hy with rfl | hy
    · exact ⟨h0, h9⟩
    · exact h.2.2 y hy⟩
theorem good_perm {ns ms : List Int} (h : goodRow ns) (p : ms.Perm ns) : goodRow ms :=
  ⟨by rw [p.length_eq]; exact h.1, p.nodup_iff.mpr h.2.1, fun x hx => h.2.2 x (p.mem_iff.mp hx)⟩
theorem ins_perm (ns : List Int) (x : Int) (j : Nat) : (ns.take j ++ [x] ++ ns.drop j).Perm (x :: ns) := by
  rw [List.append_assoc]
  have := List.perm_middle (a := x) (l₁ := ns.take j) (l₂ := ns.drop j)
  rw [List.take_append_drop] at this
  exact this
theorem set_perm {ns : List Int} {j : Nat} (h : j < ns.length) (x : Int) : (ns.set j x).Perm (x :: ns.eraseIdx j) := by
  rw [List.set_eq_take_append_cons_drop, if_pos h, List.eraseIdx_eq_take_drop_succ]
  exact List.perm_middle
def sp_changed (K : PySem.W.Frag) : Sp := fun vs H Q _ => ∃ (b : Addr) (v : V) (ns : List Int) (M : Ms), vs = [.ref b, v] ∧ Bag K M H b ∧ Mk M H ∧ RowAt M H v ns ∧ goodRow ns ∧ DrR K M b H goodRow Q
theorem ok_changed (T : Txt K mg) : FnOk P w K mg base CX0 5 T.f__law_changed T.d__law_changed ["_law_bag_here", "_law_row_here"] (sp_changed K) := by
  have G__law_pick := ok_pick (P := P) (w := w) (base := base) T
  have G__law_choice := ok_choice (P := P) (w := w) (base := base) T
  have G__law_mingled := ok_mingled (P := P) (w := w) (base := base) T
  refine T.F__law_changed.ok sc__law_changed (fun vs H Q E h => ?_) (fun cdv A outer s H vs Q E hr h => ?_)
  · obtain ⟨_, _, _, _, rfl, _⟩ := h
    rfl
  · obtain ⟨b, v, ns, M, rfl, hB, hM, hR, hg, q⟩ := h
    obtain ⟨a, ea, na, ha⟩ := id hR
    subst ea
    have h5 := hg.1
    refine ⟨_, (pss_cons (ps_set (i := 2) sc__law_changed.nd rfl (Or.inl rfl) (pe_callTy (call_listK (K := K) rfl) (by rfl) T.m_list (by decide +kernel) (pa_cons (pv 1) pa_nil)))
      (pss_cons (ps_setLc (i := 3) (own := [("_law_item", 5)]) (g := gName 5)  (by rfl) sc__law_changed.nd rfl rfl (sw_true rfl rfl rfl (by decide +kernel)) (pi_range1 (by rfl) T.m_range (pa_cons pe_int pa_nil)) (blkOk_by (own := [("_law_item", 5)]) (N := ["_law_bag_here", "_law_row_here", "_law_items", "_law_spare", "_law_way", "_law_item"]) (sc := defScope s__law_changed) (by decide +kernel)) (fun _ _ _ _ _ => (pg_name (i := 5) sc__law_changed.nd rfl (Or.inl rfl))) (fun _ _ _ _ _ => (pts_one (pt_cmpR (op_notIn_seqK (K := K) rfl) (pv 5) (pv 1) (by rfl)))) (fun _ _ _ _ _ => (pv 5)))
      (pss_cons (ps_set (i := 4) sc__law_changed.nd rfl (Or.inl rfl) (pe_call G__law_pick (hr.mono (by omega)) (by rfl) T.g__law_pick T.F__law_pick.kp T.b__law_pick .nil pass0 (pa_cons (pv 0) (pa_cons pe_int pa_nil))))
      (pss_cons (ps_if (pt_cmpR op_eq (pv 4) pe_int (nomark _)) (pss_one (ps_ret (pe_callTy (call_tupleF (K := K) rfl) (by rfl) T.m_tuple (by decide +kernel) (pa_cons (pe_call G__law_mingled (hr.mono (by omega)) (by rfl) T.g__law_mingled T.F__law_mingled.kp T.b__law_mingled .nil pass0 (pa_cons (pv 0) (pa_cons (pv 2) pa_nil))) pa_nil)))) pss_nil)
      (pss_cons (ps_if (pt_cmpR op_eq (pv 4) pe_int (nomark _)) (pss_one (ps_ret (pe_callTy (call_tupleF (K := K) rfl) (by rfl) T.m_tuple (by decide +kernel) (pa_cons (pe_revL (pv 2)) pa_nil)))) pss_nil)
      (pss_cons (ps_if (pt_cmpR op_eq (pv 4) pe_int (nomark _)) (pss_one (ps_ret (pe_callTy (call_tupleF (K := K) rfl) (by rfl) T.m_tuple (by decide +kernel) (pa_cons (pe_slice (sl_listK (K := K) rfl) (pv 2) po_none (po_some (pe_call G__law_pick (hr.mono (by omega)) (by rfl) T.g__law_pick T.F__law_pick.kp T.b__law_pick .nil pass0 (pa_cons (pv 0) (pa_cons (pe_op op_add (pe_callB (call_lenK (K := K) rfl) (by rfl) T.m_len PySem.boot_len (pa_cons (pv 2) pa_nil)) pe_int) pa_nil))))) pa_nil)))) pss_nil)
      (pss_cons (ps_if (PW.pt (pw_and (pt_cmpR op_eq (pv 4) pe_int (nomark _)) (pw_and1 (pt_truthK (K := K) rfl (pv 2) (by intro _; rfl))))) (pss_one (ps_expr (pe_bmK2 (K := K) rfl PySem.F.plainAttrs_list PySem.F.slot_list_pop PySem.F.type_list_pop mt_popAt (pv 2) (pa_cons (pe_call G__law_pick (hr.mono (by omega)) (by rfl) T.g__law_pick T.F__law_pick.kp T.b__law_pick .nil pass0 (pa_cons (pv 0) (pa_cons (pe_callB (call_lenK (K := K) rfl) (by rfl) T.m_len PySem.boot_len (pa_cons (pv 2) pa_nil)) pa_nil))) pa_nil)))) (pss_one (ps_if (PW.pt (pw_and (pt_cmpR op_eq (pv 4) pe_int (nomark _)) (pw_and1 (pt_cmpR op_lt (pe_callB (call_lenK (K := K) rfl) (by rfl) T.m_len PySem.boot_len (pa_cons (pv 2) pa_nil)) pe_int (nomark _))))) (pss_one (ps_expr (pe_bmK2 (K := K) rfl PySem.F.plainAttrs_list PySem.F.slot_list_insert PySem.F.type_list_insert mt_insert (pv 2) (pa_cons (pe_call G__law_pick (hr.mono (by omega)) (by rfl) T.g__law_pick T.F__law_pick.kp T.b__law_pick .nil pass0 (pa_cons (pv 0) (pa_cons (pe_op op_add (pe_callB (call_lenK (K := K) rfl) (by rfl) T.m_len PySem.boot_len (pa_cons (pv 2) pa_nil)) pe_int) pa_nil))) (pa_cons (pe_call G__law_choice (hr.mono (by omega)) (by rfl) T.g__law_choice T.F__law_choice.kp T.b__law_choice .nil pass0 (pa_cons (pv 0) (pa_cons (pv 3) pa_nil))) pa_nil))))) (pss_one (ps_if (PW.pt (pw_and (pt_cmpR op_gt (pv 4) pe_int (nomark _)) (pw_and1 (pt_truthK (K := K) rfl (pv 2) (by intro _; rfl))))) (pss_one (ps_asg (pe_call G__law_choice (hr.mono (by omega)) (by rfl) T.g__law_choice T.F__law_choice.kp T.b__law_choice .nil pass0 (pa_cons (pv 0) (pa_cons (pv 3) pa_nil))) (pg_sub (pv 2) (pe_call G__law_pick (hr.mono (by omega)) (by rfl) T.g__law_pick T.F__law_pick.kp T.b__law_pick .nil pass0 (pa_cons (pv 0) (pa_cons (pe_callB (call_lenK (K := K) rfl) (by rfl) T.m_len PySem.boot_len (pa_cons (pv 2) pa_nil)) pa_nil))) set_list))) pss_nil)))))
      (pss_one (ps_ret (pe_callTy (call_tupleF (K := K) rfl) (by rfl) T.m_tuple (by decide +kernel) (pa_cons (pv 2) pa_nil))))))))))), ?_⟩
    walk_at "g"
    refine ⟨a, _, rfl, .inr (.inl ha), fun l hl => ?_⟩
    have s1 : Same H (upd H l (.lst (ns.map V.int))) := same_new hl
    have lb : l ≠ b := fun z => hB.there (by rw [← z]; exact hl)
    have e1 : upd H l (.lst (ns.map V.int)) l = some (.lst (ns.map V.int)) := upd_same
    have hB1 : Bag K (also M l) _ b := (hB.more hl).same s1
    generalize upd H l (.lst (ns.map V.int)) = H1 at s1 e1 hB1
    have fin : ∀ (H2 : Hp) (ms : List Int), Sx (one b) H H2 → Gr H H2 → Bag K (also M l) H2 b → H2 l = some (.lst (ms.map V.int)) → goodRow ms → rTupF K [V.ref l] H2 Q := fun H2 ms s g hB2 e gm =>
      ⟨l, _, rfl, SqL.of e, fun p4 o4 hp4 oc od => q _ _ ms (s.trans (Sx.new hp4)) (g.trans Gr.upd) ((hB2.less hB.w also_le).same (same_new hp4)) ⟨p4, o4, rfl, (hM.gr g).out hp4, upd_same, oc, od⟩ gm⟩
    walk_at "g"
    refine ⟨by decide, by decide, fun D hD => ?_⟩
    let spare : List Int := ten.filter (fun x => decide (x ∉ ns))
    have ten_at : ∀ i : Nat, i < 10 → ten[i]? = some (i : Int) := by decide
    refine rng_loop (n := 10) (lo := 0) (fun i H' => Same H1 H' ∧ H' D = some (.lst (((ten.take i).filter (fun x => decide (x ∉ ns))).map V.int))) ⟨same_new hD, upd_same⟩ (fun i H' hi p => ?_) (fun H2 p => ?_)
    · obtain ⟨s2, eD⟩ := p
      rw [Int.zero_add]
      refine ⟨rfl, ?_⟩
      walk_at "g"
      refine ⟨a, _, rfl, .inr (.inl (sx_rd (Sx.same (s1.trans s2)) na ha)), rfl, flat_ints ns, ?_⟩
      rw [in_ints]
      refine ⟨_, rfl, ?_⟩
      have ht : (ten.take (i + 1)).filter (fun x => decide (x ∉ ns)) = (ten.take i).filter (fun x => decide (x ∉ ns)) ++ if (i : Int) ∈ ns then [] else [(i : Int)] := by
        rw [List.take_add_one, ten_at i hi, List.filter_append]
        congr 1
        by_cases c : (i : Int) ∈ ns
        · rw [if_pos c]; simp [c]
        · rw [if_neg c]; simp [c]
      have lt : ((ten.take i).filter (fun x => decide (x ∉ ns))).length ≤ 10 := Nat.le_trans (List.length_filter_le _ _) (by rw [List.length_take]; have : ten.length = 10 := rfl; omega)
      rw [ht]
      by_cases c : (i : Int) ∈ ns
      · rw [decide_eq_true c, if_pos c, List.append_nil]
        exact ⟨s2, eD⟩
      · rw [decide_eq_false c, if_neg c]
        walk_at "g"
        refine ⟨_, eD, small1000 (by rw [List.length_map]; omega), same_put s2 hD, ?_⟩
        rw [upd_same, List.map_append]
        rfl
    obtain ⟨s2, eD⟩ := p
    rw [show ten.take 10 = ten from rfl] at eD
    have s12 := s1.trans s2
    have hB2 := hB1.same s2
    have e2 := s2 _ _ e1
    have Db : D ≠ b := fun z => hB1.there (by rw [← z]; exact hD)
    have Dl : D ≠ l := fun z => by rw [z, e1] at hD; cases hD
    have spare_in : ∀ x ∈ spare, 0 ≤ x ∧ x ≤ 9 ∧ x ∉ ns := fun x hx => by
      have h1 := List.mem_filter.mp hx
      exact ⟨((ten_take 10).2 x h1.1).1, ((ten_take 10).2 x h1.1).2, of_decide_eq_true h1.2⟩
    have spare_pos : 0 < spare.length := by
      rw [List.length_pos_iff]
      intro z
      have hsub : ∀ x ∈ ten, x ∈ ns := fun x hx => by
        by_cases c : x ∈ ns
        · exact c
        · exfalso
          have : x ∈ spare := List.mem_filter.mpr ⟨hx, decide_eq_true c⟩
          rw [z] at this
          exact nomatch this
      have := (sub_len ns ten (by decide) hsub).1
      have : ten.length = 10 := rfl
      omega
    have spare_le : spare.length ≤ 10 := List.length_filter_le _ _
    walk_at "g"
    refine ⟨b, _, also M l, rfl, hB2, by omega, by omega, fun way H3 h0 h1 hA3 hB3 => ?_⟩
    have s3 : Sx (one b) H H3 := (Sx.same s12).trans hA3.sx
    have g3 : Gr H H3 := (Gr.same s12).trans (At.gr hA3 hB3.there)
    have e3 : H3 l = some (.lst (ns.map V.int)) := (hA3 l lb).trans e2
    have eD3 : H3 D = some (.lst (spare.map V.int)) := (hA3 D Db).trans eD
    have hM3 : Mk (also M l) H3 := (hM.gr g3).also (ne_none e3)
    have hm3 : Mk M H3 := hM.gr g3
    have nl : ¬ M l := hM.out hl
    have lns : (ns.map V.int).length = ns.length := List.length_map _
    have posn : ∀ (c : ns ≠ []), 0 < ns.length := fun c => List.length_pos_iff.mpr c
    have base0 := fin H3 ns s3 g3 hB3 e3 hg
    walk_at "g"
    walk_at "if"
    · walk_at "g"
      refine ⟨b, .ref l, ns.map PyData.int, M, rfl, hB3.less hB.w also_le, hm3, .lst nl (.inl e3) (RpAll.ints ns), by rw [List.length_map]; omega, fun w4 H4 d4 s4 g4 hB4 r4 e4 => ?_⟩
      obtain ⟨es, rfl, hper⟩ := e4
      obtain ⟨ms, hms, rfl⟩ := perm_ints hper
      obtain ⟨c, zs, rfl, nc, hc, rz⟩ := Rp.lstN r4
      have ez := rz.ofInts
      subst ez
      refine ⟨c, _, rfl, .inl hc, fun p4 o4 hp4 oc od => q _ _ ms ((s3.trans s4).trans (Sx.new hp4)) ((g3.trans g4).trans Gr.upd) (hB4.same (same_new hp4)) ⟨p4, o4, rfl, (hm3.gr g4).out hp4, upd_same, oc, od⟩ ?_⟩
      exact ⟨by rw [hms.length_eq]; exact h5, hms.nodup_iff.mpr hg.2.1, fun x hx => hg.2.2 x (hms.mem_iff.mp hx)⟩
    have hw : M b := hB.w
    have finU : ∀ (H2 : Hp) (ms : List Int), Sx (one b) H H2 → Gr H H2 → Bag K (also M l) H2 b → goodRow ms → rTupF K [V.ref l] (upd H2 l (.lst (ms.map V.int))) Q := fun H2 ms s g hB2 gm =>
      fin _ ms (sx_putN s hl) (g.trans Gr.upd) (hB2.keep (N := one l) (Sx.put rfl) (fun z => lb z.symm) (fun c z => .inr z)) upd_same gm
    have spv : ∀ v ∈ spare.map V.int, ∃ x, v = V.int x ∧ 0 ≤ x ∧ x ≤ 9 ∧ x ∉ ns := fun v hv => by
      obtain ⟨x, hx, rfl⟩ := List.mem_map.mp hv
      exact ⟨x, rfl, spare_in x hx⟩
    have lsp : (spare.map V.int).length = spare.length := List.length_map _
    walk_at "g"
    walk_at "if"
    · walk_at "g"
      refine ⟨l, _, rfl, SqL.of e3, fun p hp => ?_⟩
      refine ⟨p, ns.reverse.map V.int, rfl, SqL.of (by rw [upd_same, List.map_reverse]), fun p4 o4 hp4 oc od => ?_⟩
      refine q _ _ ns.reverse (s3.trans ((Sx.new hp).trans (Sx.new hp4))) (g3.trans (Gr.upd.trans Gr.upd)) (((hB3.less hw also_le).same (same_new hp)).same (same_new hp4)) ⟨p4, o4, rfl, (hm3.new).out hp4, upd_same, oc, od⟩ (good_perm hg (List.reverse_perm ns))
    walk_at "g"
    walk_at "if"
    · walk_at "g"
      refine ⟨b, _, also M l, rfl, hB3, by omega, by omega, fun w4 H4 k0 k1 hA4 hB4 => ?_⟩
      obtain ⟨j, rfl⟩ : ∃ j : Nat, w4 = (j : Int) := ⟨w4.toNat, by omega⟩
      have e4 := (hA4 l lb).trans e3
      have g4 := At.gr hA4 hB4.there
      walk_at "g"
      refine ⟨l, _, rfl, SqL.of e4, fun p hp => ?_⟩
      rw [cut_hi]
      refine ⟨p, (ns.take j).map V.int, rfl, SqL.of (by rw [upd_same, List.map_take]), fun p4 o4 hp4 oc od => ?_⟩
      refine q _ _ (ns.take j) (s3.trans (hA4.sx.trans ((Sx.new hp).trans (Sx.new hp4)))) (g3.trans (g4.trans (Gr.upd.trans Gr.upd))) (((hB4.less hw also_le).same (same_new hp)).same (same_new hp4)) ⟨p4, o4, rfl, ((hm3.gr g4).new).out hp4, upd_same, oc, od⟩ ⟨?_, hg.2.1.sublist (List.take_sublist _ _), fun x hx => hg.2.2 x (List.mem_of_mem_take hx)⟩
      rw [List.length_take]
      omega
    rename_i c0 c1 c2
    have c0' : ¬ way = 0 := fun z => c0 (decide_eq_true (by rw [z]))
    have c1' : ¬ way = 1 := fun z => c1 (decide_eq_true (by rw [z]))
    have c2' : ¬ way = 2 := fun z => c2 (decide_eq_true (by rw [z]))
    clear c0 c1 c2
    obtain e | e | e | e : way = 3 ∨ way = 4 ∨ way = 5 ∨ way = 6 := by omega
    · subst e
      walk_at "g"
      refine ⟨!(ns.map V.int).isEmpty, .inl ⟨_, SqL.of e3, rfl⟩, ?_⟩
      by_cases cn : ns = []
      · rw [show (!(ns.map V.int).isEmpty) = false by rw [cn]; rfl]
        walk_at "g"
        exact base0
      · have hp := posn cn
        rw [show (!(ns.map V.int).isEmpty) = true by cases ns with | nil => exact absurd rfl cn | cons _ _ => rfl]
        walk_at "g"
        refine ⟨.inl ⟨rfl, _, SqL.of e3⟩, ?_⟩
        walk_at "g"
        refine ⟨b, _, also M l, rfl, hB3, by omega, by omega, fun w4 H4 k0 k1 hA4 hB4 => ?_⟩
        obtain ⟨j, rfl⟩ : ∃ j : Nat, w4 = (j : Int) := ⟨w4.toNat, by omega⟩
        have hj : j < ns.length := by omega
        have e4 := (hA4 l lb).trans e3
        have g4 := At.gr hA4 hB4.there
        refine ⟨l, _, _, j, .int ns[j], rfl, rfl, e4, by omega, by omega, seqIx (by omega), by rw [List.getElem?_map, List.getElem?_eq_getElem hj]; rfl, ?_⟩
        walk_at "g"
        rw [erase_map]
        exact finU H4 (ns.eraseIdx j) (s3.trans hA4.sx) (g3.trans g4) hB4 (good_erase hg j)
    · subst e
      walk_at "g"
      walk_at "if"
      · rename_i c5
        have c5' : ((ns.map V.int).length : Int) < 5 := of_decide_eq_true c5
        walk_at "g"
        refine ⟨.inl ⟨rfl, _, SqL.of e3⟩, ?_⟩
        walk_at "g"
        refine ⟨b, _, also M l, rfl, hB3, by omega, by omega, fun w4 H4 k0 k1 hA4 hB4 => ?_⟩
        obtain ⟨j, rfl⟩ : ∃ j : Nat, w4 = (j : Int) := ⟨w4.toNat, by omega⟩
        have e4 := (hA4 l lb).trans e3
        have eD4 := (hA4 D Db).trans eD3
        have g4 := At.gr hA4 hB4.there
        walk_at "g"
        refine ⟨b, D, _, also M l, rfl, hB4, SqL.of eD4, Db, by omega, by omega, fun v5 H5 hv5 hA5 hB5 => ?_⟩
        obtain ⟨x, rfl, x0, x9, xn⟩ := spv v5 hv5
        have e5 := (hA5 l lb).trans e4
        have g5 := At.gr hA5 hB5.there
        refine ⟨l, _, _, _, rfl, rfl, e5, small1000 (by omega), by omega, by omega, ?_⟩
        walk_at "g"
        have em : (ns.map V.int).take (j : Int).toNat ++ [V.int x] ++ (ns.map V.int).drop (j : Int).toNat = (ns.take j ++ [x] ++ ns.drop j).map V.int := by
          rw [Int.toNat_natCast, List.map_append, List.map_append, List.map_take, List.map_drop]
          rfl
        rw [em]
        exact finU H5 _ (s3.trans (hA4.sx.trans hA5.sx)) (g3.trans (g4.trans g5)) hB5 (good_perm (good_cons hg (by omega) xn x0 x9) (ins_perm ns x j))
      · walk_at "g"
        exact base0
    all_goals
      subst e
      walk_at "g"
      refine ⟨!(ns.map V.int).isEmpty, .inl ⟨_, SqL.of e3, rfl⟩, ?_⟩
      by_cases cn : ns = []
      · rw [show (!(ns.map V.int).isEmpty) = false by rw [cn]; rfl]
        walk_at "g"
        exact base0
      · have hp := posn cn
        rw [show (!(ns.map V.int).isEmpty) = true by cases ns with | nil => exact absurd rfl cn | cons _ _ => rfl]
        walk_at "g"
        refine ⟨b, D, _, also M l, rfl, hB3, SqL.of eD3, Db, by omega, by omega, fun v4 H4 hv4 hA4 hB4 => ?_⟩
        obtain ⟨x, rfl, x0, x9, xn⟩ := spv v4 hv4
        have e4 := (hA4 l lb).trans e3
        have g4 := At.gr hA4 hB4.there
        walk_at "g"
        refine ⟨b, _, also M l, rfl, hB4, by omega, by omega, fun w5 H5 k0 k1 hA5 hB5 => ?_⟩
        obtain ⟨j, rfl⟩ : ∃ j : Nat, w5 = (j : Int) := ⟨w5.toNat, by omega⟩
        have hj : j < ns.length := by omega
        have e5 := (hA5 l lb).trans e4
        have g5 := At.gr hA5 hB5.there
        refine ⟨l, _, _, j, rfl, rfl, e5, by unfold ixN; rw [if_pos (by omega), if_pos (by omega)]; simp, ?_⟩
        walk_at "g"
        have em : (ns.map V.int).set j (V.int x) = (ns.set j x).map V.int := by rw [List.map_set]
        rw [em]
        have gr := good_perm (good_cons (good_erase hg j) (by rw [List.length_eraseIdx, if_pos hj]; omega) (fun z => xn (List.mem_of_mem_eraseIdx z)) x0 x9) (set_perm hj x)
        exact finU H5 _ (s3.trans (hA4.sx.trans hA5.sx)) (g3.trans (g4.trans g5)) hB5 gr
end
end D

namespace D
open PySem PySem.Spec PyProof.Rows L2
local macro_rules | `(tactic| walk_at "st") => `(tactic| first | exact SqT.of (by assumption) | exact Or.inl (by assumption) | exact SqT.of upd_same | fail "st")
local macro_rules | `(tactic| walk_at "ixt") => `(tactic| refine ⟨_, _, _, _, rfl, rfl, (by walk_at "st" : SqT _ _ _ _), by rfl, ?_⟩)
local macro_rules | `(tactic| walk_at "sq") => `(tactic| first | exact SqL.of (by assumption) | assumption | exact Or.inl (by assumption) | exact SqL.of upd_same | fail "sq")
local macro_rules | `(tactic| walk_at "ix") => `(tactic| refine ⟨_, _, _, _, rfl, rfl, (by walk_at "sq" : SqL _ _ _ _), by rfl, ?_⟩)
local macro_rules | `(tactic| walk_at "set") => `(tactic| refine ⟨_, _, _, _, rfl, rfl, by first | assumption | exact upd_same, by rfl, ?_⟩)
local macro_rules | `(tactic| walk_at "len") => `(tactic| refine ⟨_, _, rfl, Or.inl (by walk_at "sq" : SqL _ _ _ _), ?_⟩)
local macro_rules | `(tactic| walk_at "g") => `(tactic| repeat (first | refine ⟨_, rfl, ?_⟩ | refine ⟨_, _, rfl, rfl, ?_⟩ | refine ⟨Or.inr (by decide), ?_⟩ | refine ⟨Or.inl (by decide), ?_⟩ | refine ⟨(by decide : (0 : Int) < _), ?_⟩ | refine ⟨(⟨by decide, by decide⟩ : CDiv _ _), ?_⟩ | refine ⟨(⟨by decide, by decide, by decide⟩ : CPow _ _), ?_⟩ | refine Or.inl ⟨_, rfl, ?_⟩ | refine ⟨rfl, ?_⟩ | walk_at "ix" | walk_at "ixt" | walk_at "len" | fail "g"))
local macro_rules | `(tactic| walk_at "if") => `(tactic| refine ite2 (fun e => ?_) (fun e => ?_))
section
variable {P : Program} {w : World} {K : PySem.W.Frag} {mg : Str → Option Value} {base : Heap}
/-- a list of any things is mingled -/
def sp_mingledV (K : PySem.W.Frag) : Sp := fun vs H Q _ => ∃ (b a : Addr) (xs : List V) (M : Ms), vs = [.ref b, .ref a] ∧ Bag K M H b ∧ Mk M H ∧ a ≠ b ∧ SqL K H a xs ∧ xs.length < 1000000 ∧
  ∀ H' l ys, Sx (one b) H H' → Gr H H' → Bag K M H' b → H l = none → H' l = some (.lst ys) → ys.Perm xs → Q (.ref l) H'
theorem ok_mingledV (T : Txt K mg) : FnOk P w K mg base CX0 3 T.f__law_mingled T.d__law_mingled ["_law_bag_here", "_law_things"] (sp_mingledV K) := by
  have G__law_pick := ok_pick (P := P) (w := w) (base := base) T
  refine T.F__law_mingled.ok sc__law_mingled (fun vs H Q E h => ?_) (fun cdv A outer s H vs Q E hr h => ?_)
  · obtain ⟨_, _, _, _, rfl, _⟩ := h
    rfl
  · obtain ⟨b, a, xs, M, rfl, hB, hM, hab, hS, hl, q⟩ := h
    refine ⟨_, (pss_cons (ps_set (i := 2) sc__law_mingled.nd rfl (Or.inl rfl) (pe_callTy (call_listK (K := K) rfl) (by rfl) T.m_list (by decide +kernel) (pa_cons (pv 1) pa_nil)))
      (pss_cons (ps_set (i := 3) sc__law_mingled.nd rfl (Or.inl rfl) (pe_lst pa_nil))
      (pss_cons (ps_for PassesOwn.never rfl (pi_range1 (by rfl) T.m_range (pa_cons (pe_callB (call_lenK (K := K) rfl) (by rfl) T.m_len PySem.boot_len (pa_cons (pv 1) pa_nil)) pa_nil)) (pg_name (i := 4) sc__law_mingled.nd rfl (Or.inl rfl)) (pss_one (ps_expr (pe_bmK2 (K := K) rfl PySem.F.plainAttrs_list PySem.F.slot_list_append PySem.F.type_list_append mt_append (pv 3) (pa_cons (pe_bmK2 (K := K) rfl PySem.F.plainAttrs_list PySem.F.slot_list_pop PySem.F.type_list_pop mt_popAt (pv 2) (pa_cons (pe_call G__law_pick (hr.mono (by omega)) (by rfl) T.g__law_pick T.F__law_pick.kp T.b__law_pick .nil pass0 (pa_cons (pv 0) (pa_cons (pe_callB (call_lenK (K := K) rfl) (by rfl) T.m_len PySem.boot_len (pa_cons (pv 2) pa_nil)) pa_nil))) pa_nil)) pa_nil)))))
      (pss_one (ps_ret (pv 3)))))), ?_⟩
    refine ⟨.ref a, rfl, a, xs, rfl, .inl hS, fun l nl => ?_⟩
    refine ⟨by show 0 ≤ sizeLine; exact Nat.zero_le _, fun o no => ?_⟩
    have lo : l ≠ o := ne_of_none upd_same no
    generalize e1 : upd (upd H l _) o _ = H1
    have s1 : Same H H1 := fun c u e => by rw [← e1]; exact same_new no c u (same_new nl c u e)
    have l1 : H1 l = some (.lst xs) := by rw [← e1, upd_ne lo, upd_same]
    have o1 : H1 o = some (.lst []) := by rw [← e1, upd_same]
    have no0 : H o = none := by
      rw [upd_ne lo.symm] at no
      exact no
    clear e1
    refine ⟨.ref a, rfl, a, xs, rfl, .inl (s1.seq hS), ?_⟩
    refine ⟨_, rfl, by omega, by omega, ?_⟩
    have hbl : b ≠ l := fun z => hB.there (by rw [z]; exact nl)
    have hbo : b ≠ o := fun z => hB.there (by rw [z]; exact no0)
    let N : Ms := also (also M l) o
    let F : Ms := also (also (one b) l) o
    have hB1 : Bag K N H1 b := ((hB.more nl).more no0).keep (N := fun _ => False) (fun c u _ e => s1 c u e) (fun z => z) (fun _ z => z.elim)
    refine for_range (lo := 0) (n := (xs.length : Int).toNat) (fun i σ H2 => (∃ y4, σ = [some (.ref b), some (.ref a), some (.ref l), some (.ref o), y4]) ∧ Sx F H H2 ∧ Gr H H2 ∧ Bag K N H2 b ∧
      ∃ ls os, H2 l = some (.lst ls) ∧ H2 o = some (.lst os) ∧ ls.length + i = xs.length ∧ os.length = i ∧ (ls ++ os).Perm xs) ?_ (fun i σ H2 hi p => ?_) (fun σ H2 p => ?_)
    · exact ⟨⟨_, rfl⟩, Sx.same s1, Gr.same s1, hB1, xs, [], l1, o1, by omega, rfl, by rw [List.append_nil]⟩
    · obtain ⟨⟨y4, rfl⟩, s2, g2, hB2, ls, os, l2, o2, e1, e2, m1⟩ := p
      have hls : 0 < ls.length := by omega
      refine ⟨.ref o, rfl, .inl ⟨rfl, _, SqL.of o2⟩, .ref l, rfl, .inl ⟨rfl, _, SqL.of l2⟩, ?_⟩
      walk_at "g"
      refine ⟨b, _, N, rfl, hB2, by omega, by omega, fun w H3 h0 h1 hA3 hB3 => ?_⟩
      have l3 : H3 l = some (.lst ls) := (hA3 l hbl.symm).trans l2
      have o3 : H3 o = some (.lst os) := (hA3 o hbo.symm).trans o2
      obtain ⟨j, rfl⟩ : ∃ j : Nat, w = (j : Int) := ⟨w.toNat, by omega⟩
      have hj : j < ls.length := by omega
      have s3 : Sx F H2 H3 := hA3.sx.le fun c z => .inl (.inl z)
      refine ⟨l, ls, (j : Int), j, ls[j], rfl, rfl, l3, by omega, by omega, seqIx hj, List.getElem?_eq_getElem hj, ?_⟩
      have o4 : upd H3 l (.lst (ls.eraseIdx j)) o = some (.lst os) := by rw [upd_ne lo.symm]; exact o3
      refine ⟨o, os, ls[j], rfl, rfl, o4, small1000000 (by omega), ?_⟩
      have s4 : Sx F H3 (upd (upd H3 l (.lst (ls.eraseIdx j))) o (.lst (os ++ [ls[j]]))) := (Sx.put (show F l from .inl (.inr rfl))).trans (Sx.put (show F o from .inr rfl))
      refine ⟨⟨_, rfl⟩, s2.trans (s3.trans s4), g2.trans ((At.gr hA3 hB3.there).trans (Gr.upd.trans Gr.upd)), ?_, ls.eraseIdx j, os ++ [ls[j]], ?_, upd_same, ?_, ?_, ?_⟩
      · exact (hB3.keep (N := one l) (Sx.put rfl) hbl (fun c z => by rw [show c = l from z]; exact .inl (.inr rfl))).keep (N := one o) (Sx.put rfl) hbo (fun c z => by rw [show c = o from z]; exact .inr rfl)
      · rw [upd_ne lo, upd_same]
      · rw [List.length_eraseIdx_of_lt hj]
        omega
      · rw [List.length_append, e2]
        rfl
      · refine List.Perm.trans ?_ m1
        rw [← List.append_assoc]
        refine (List.perm_append_comm).trans ?_
        exact (List.Perm.append_right os (erase_perm ls j ls[j] (List.getElem?_eq_getElem hj)))
    · obtain ⟨⟨y4, rfl⟩, s2, g2, hB2, ls, os, l2, o2, e1, e2, m1⟩ := p
      have z : ls = [] := List.length_eq_zero_iff.mp (by omega)
      rw [z] at m1
      exact ⟨.ref o, rfl, q _ o os ((s2.cut no0).cut nl) g2 (hB2.less hB.w fun c z => .inl (.inl z)) no0 o2 m1⟩
def RowsAll (M : Ms) (H : Hp) (xs : List V) : Prop := ∀ x ∈ xs, ∃ ns, RowF M H x ns ∧ goodRow ns
theorem RowsAll.sx {M : Ms} {H H' : Hp} {xs : List V} (h : RowsAll M H xs) (s : Sx M H H') : RowsAll M H' xs := fun x hx => by
  obtain ⟨ns, q, g⟩ := h x hx
  exact ⟨ns, q.sx s, g⟩
theorem RowsAll.list {M : Ms} {H : Hp} : ∀ {xs : List V}, RowsAll M H xs → ∃ nss : List (List Int), xs.length = nss.length ∧ ∀ (i : Nat) (ns : List Int), nss[i]? = some ns → ∃ w, xs[i]? = some w ∧ RowF M H w ns ∧ goodRow ns
  | [], _ => ⟨[], rfl, fun i ns e => by simp at e⟩
  | x :: r, h => by
    obtain ⟨ns, q, g⟩ := h x List.mem_cons_self
    obtain ⟨nss, l, z⟩ := RowsAll.list (xs := r) fun y hy => h y (List.mem_cons_of_mem _ hy)
    refine ⟨ns :: nss, by rw [List.length_cons, List.length_cons, l], fun i ms e => ?_⟩
    cases i with
    | zero => cases e; exact ⟨x, rfl, q, g⟩
    | succ i => exact z i ms e
def sp_shown (K : PySem.W.Frag) : Sp := fun vs H Q _ => ∃ (b : Addr) (M : Ms), vs = [.ref b] ∧ Bag K M H b ∧ Mk M H ∧
  ∀ v H' nss, Sx (one b) H H' → Gr H H' → Bag K M H' b → MenuAt M H' v nss → 1 ≤ nss.length → nss.length ≤ 4 → Q v H'
theorem ok_shown (T : Txt K mg) : FnOk P w K mg base CX0 6 T.f__law_rows_shown T.d__law_rows_shown ["_law_bag_here"] (sp_shown K) := by
  have G__law_pick := ok_pick (P := P) (w := w) (base := base) T
  have G__law_row := ok_row (P := P) (w := w) (base := base) T
  have G__law_changed := ok_changed (P := P) (w := w) (base := base) T
  have G__law_mingled := ok_mingledV (P := P) (w := w) (base := base) T
  refine T.F__law_rows_shown.ok sc__law_rows_shown (fun vs H Q E h => ?_) (fun cdv A outer s H vs Q E hr h => ?_)
  · obtain ⟨_, _, rfl, _⟩ := h
    rfl
  · obtain ⟨b, M, rfl, hB, hM, q⟩ := h
    refine ⟨_, (pss_cons (ps_set (i := 1) sc__law_rows_shown.nd rfl (Or.inl rfl) (pe_lst (pa_cons (pe_call G__law_row (hr.mono (by omega)) (by rfl) T.g__law_row T.F__law_row.kp T.b__law_row .nil pass0 (pa_cons (pv 0) (pa_cons pe_int pa_nil))) pa_nil)))
      (pss_cons (ps_set (i := 2) sc__law_rows_shown.nd rfl (Or.inl rfl) (pe_call G__law_pick (hr.mono (by omega)) (by rfl) T.g__law_pick T.F__law_pick.kp T.b__law_pick .nil pass0 (pa_cons (pv 0) (pa_cons pe_int pa_nil))))
      (pss_cons (ps_for PassesOwn.never rfl (pi_range1 (by rfl) T.m_range (pa_cons (pe_call G__law_pick (hr.mono (by omega)) (by rfl) T.g__law_pick T.F__law_pick.kp T.b__law_pick .nil pass0 (pa_cons (pv 0) (pa_cons pe_int pa_nil))) pa_nil)) (pg_name (i := 3) sc__law_rows_shown.nd rfl (Or.inl rfl)) (pss_cons (ps_set (i := 4) sc__law_rows_shown.nd rfl (Or.inl rfl) (pe_ix (ix_listK (K := K) rfl) (pv 1) (pe_call G__law_pick (hr.mono (by omega)) (by rfl) T.g__law_pick T.F__law_pick.kp T.b__law_pick .nil pass0 (pa_cons (pv 0) (pa_cons (pe_callB (call_lenK (K := K) rfl) (by rfl) T.m_len PySem.boot_len (pa_cons (pv 1) pa_nil)) pa_nil))) (fun _ _ => rfl)))
      (pss_one (ps_if (pt_cmpR op_eq (pv 2) pe_int (nomark _)) (pss_one (ps_expr (pe_bmK2 (K := K) rfl PySem.F.plainAttrs_list PySem.F.slot_list_append PySem.F.type_list_append mt_append (pv 1) (pa_cons (pe_call G__law_row (hr.mono (by omega)) (by rfl) T.g__law_row T.F__law_row.kp T.b__law_row .nil pass0 (pa_cons (pv 0) (pa_cons pe_int pa_nil))) pa_nil)))) (pss_one (ps_if (pt_cmpR op_eq (pv 2) pe_int (nomark _)) (pss_one (ps_expr (pe_bmK2 (K := K) rfl PySem.F.plainAttrs_list PySem.F.slot_list_append PySem.F.type_list_append mt_append (pv 1) (pa_cons (pe_slice (sl_tupF (K := K) rfl) (pv 4) po_none (po_some (pe_call G__law_pick (hr.mono (by omega)) (by rfl) T.g__law_pick T.F__law_pick.kp T.b__law_pick .nil pass0 (pa_cons (pv 0) (pa_cons (pe_op op_add (pe_callB (call_lenK (K := K) rfl) (by rfl) T.m_len PySem.boot_len (pa_cons (pv 4) pa_nil)) pe_int) pa_nil))))) pa_nil)))) (pss_one (ps_expr (pe_bmK2 (K := K) rfl PySem.F.plainAttrs_list PySem.F.slot_list_append PySem.F.type_list_append mt_append (pv 1) (pa_cons (pe_call G__law_changed (hr.mono (by omega)) (by rfl) T.g__law_changed T.F__law_changed.kp T.b__law_changed .nil pass0 (pa_cons (pv 0) (pa_cons (pv 4) pa_nil))) pa_nil))))))))))
      (pss_one (ps_ret (pe_callTy (call_tupleK (K := K) rfl) (by rfl) T.m_tuple (by decide +kernel) (pa_cons (pe_call G__law_mingled (hr.mono (by omega)) (by rfl) T.g__law_mingled T.F__law_mingled.kp T.b__law_mingled .nil pass0 (pa_cons (pv 0) (pa_cons (pv 1) pa_nil))) pa_nil))))))), ?_⟩
    walk_at "g"
    refine ⟨b, 5, M, rfl, hB, hM, by omega, by omega, fun w1 H1 n1 s1 g1 hB1 q1 hd1 => ?_⟩
    have gd1 : goodRow n1 := ⟨by have := hd1.1; omega, hd1.2⟩
    have hM1 := hM.gr g1
    refine ⟨szK rfl, fun R nR => ?_⟩
    have nRb : R ≠ b := fun z => hB1.there (by rw [← z]; exact nR)
    have nR0 : H R = none := by
      cases e : H R with
      | none => rfl
      | some o => exact absurd nR (g1 R (ne_none e))
    have sR : Same H1 (upd H1 R (.lst [w1])) := same_new nR
    have eR : upd H1 R (.lst [w1]) R = some (.lst [w1]) := upd_same
    have hB2 : Bag K (also M R) (upd H1 R (.lst [w1])) b := (hB1.more nR).same sR
    have q1' := (q1.fresh nR).sx (Sx.same sR)
    have hM2 : Mk (also M R) (upd H1 R (.lst [w1])) := (hM1.gr (Gr.same sR)).also upd_there
    have sx2 : Sx (one b) H (upd H1 R (.lst [w1])) := s1.trans (Sx.same sR)
    have g2 := g1.trans (Gr.same sR)
    generalize upd H1 R (.lst [w1]) = H2 at sR eR hB2 q1' hM2 sx2 g2
    have hw : also M R b := .inl hB.w
    walk_at "g"
    refine ⟨b, _, also M R, rfl, hB2, by omega, by omega, fun way H3 h0 h1 hA3 hB3 => ?_⟩
    walk_at "g"
    refine ⟨b, _, also M R, rfl, hB3, by omega, by omega, fun cnt H4 c0 c1 hA4 hB4 => ?_⟩
    walk_at "g"
    refine ⟨by omega, by omega, ?_⟩
    refine for_range (lo := 0) (n := cnt.toNat) (fun i σ H' => (∃ y3 y4, σ = [some (.ref b), some (.ref R), some (.int way), y3, y4]) ∧ Sx (one b) H H' ∧ Gr H H' ∧ Bag K (also M R) H' b ∧ Mk (also M R) H' ∧ ∃ xs, H' R = some (.lst xs) ∧ RowsAll (also M R) H' xs ∧ xs.length = i + 1) ?_ (fun i σ H5 hi p => ?_) (fun σ H5 p => ?_)
    · refine ⟨⟨_, _, rfl⟩, sx2.trans (hA3.sx.trans hA4.sx), g2.trans ((At.gr hA3 hB3.there).trans (At.gr hA4 hB4.there)), hB4, (hM2.gr (At.gr hA3 hB3.there)).gr (At.gr hA4 hB4.there), [w1], (hA4 R nRb).trans ((hA3 R nRb).trans eR), fun x hx => ?_, rfl⟩
      rw [List.mem_singleton.mp hx]
      have sA : Sx (also M R) H2 H4 := (hA3.sx.le (one_le hw)).trans (hA4.sx.le (one_le hw))
      exact ⟨n1, q1'.sx sA, gd1⟩
    · obtain ⟨⟨y3, y4, rfl⟩, s5, g5, hB5, hM5, xs, eR5, hall, lx⟩ := p
      have lx4 : xs.length ≤ 4 := by omega
      walk_at "g"
      refine ⟨b, _, also M R, rfl, hB5, by omega, by omega, fun w6 H6 k0 k1 hA6 hB6 => ?_⟩
      obtain ⟨j, rfl⟩ : ∃ j : Nat, w6 = (j : Int) := ⟨w6.toNat, by omega⟩
      have hj : j < xs.length := by omega
      have eR6 := (hA6 R nRb).trans eR5
      have g6 := At.gr hA6 hB6.there
      have hM6 := hM5.gr g6
      have sA6 : Sx (also M R) H5 H6 := hA6.sx.le (one_le hw)
      have hall6 := hall.sx sA6
      obtain ⟨no, qo, go⟩ := hall6 xs[j] (List.getElem_mem hj)
      walk_at "g"
      refine ⟨_, _, _, _, rfl, rfl, SqL.of eR6, atI_nat (List.getElem?_eq_getElem hj), ?_⟩
      walk_at "g"
      have fin : ∀ (H7 : Hp) (v : V) (n : List Int), Sx (one b) H6 H7 → Gr H6 H7 → Bag K (also M R) H7 b → RowF (also M R) H7 v n → goodRow n → H7 R = some (.lst xs) ∧ xs.length < sizeLine ∧ ∀ σ : L2.St, (∃ y3 y4, σ = [some (V.ref b), some (V.ref R), some (V.int way), y3, y4]) → (∃ y3 y4, σ = [some (V.ref b), some (V.ref R), some (V.int way), y3, y4]) ∧ Sx (one b) H (upd H7 R (.lst (xs ++ [v]))) ∧ Gr H (upd H7 R (.lst (xs ++ [v]))) ∧ Bag K (also M R) (upd H7 R (.lst (xs ++ [v]))) b ∧ Mk (also M R) (upd H7 R (.lst (xs ++ [v]))) ∧ ∃ xs', (upd H7 R (.lst (xs ++ [v]))) R = some (.lst xs') ∧ RowsAll (also M R) (upd H7 R (.lst (xs ++ [v]))) xs' ∧ xs'.length = i + 1 + 1 := fun H7 v n s7 g7 hB7 q7 gd7 => by
        have eR7 := s7 _ _ nRb eR6
        have sp : Sx (also M R) H7 (upd H7 R (.lst (xs ++ [v]))) := Sx.put (.inr rfl)
        refine ⟨eR7, small1000 (by omega), fun σ hσ => ⟨hσ, sx_putN (s5.trans (hA6.sx.trans s7)) nR0, g5.trans (g6.trans (g7.trans Gr.upd)), hB7.keep (N := one R) (Sx.put rfl) (fun z => nRb z.symm) (fun c z => .inr z), (hM6.gr g7).gr Gr.upd, xs ++ [v], upd_same, fun x hx => ?_, by rw [List.length_append, lx]; rfl⟩⟩
        rcases List.mem_append.mp hx with hx | hx
        · obtain ⟨ns, q, g⟩ := hall6 x hx
          exact ⟨ns, (q.sx (s7.le (one_le hw))).sx sp, g⟩
        · rw [List.mem_singleton.mp hx]
          exact ⟨n, q7.sx sp, gd7⟩
      walk_at "if"
      · walk_at "g"
        refine ⟨.inl ⟨rfl, _, SqL.of eR6⟩, ?_⟩
        walk_at "g"
        refine ⟨b, 5, also M R, rfl, hB6, hM6, by omega, by omega, fun w7 H7 n7 s7 g7 hB7 q7 hd7 => ?_⟩
        obtain ⟨f1, f2, f3⟩ := fin H7 w7 n7 s7 g7 hB7 q7 ⟨by have := hd7.1; omega, hd7.2⟩
        exact ⟨R, xs, w7, rfl, rfl, f1, f2, f3 _ ⟨_, _, rfl⟩⟩
      walk_at "g"
      walk_at "if"
      · walk_at "g"
        refine ⟨.inl ⟨rfl, _, SqL.of eR6⟩, ?_⟩
        obtain ⟨ao, oo, eo, nao, hao, oo1, oo2⟩ := id qo
        rw [eo]
        walk_at "g"
        refine ⟨_, _, rfl, .inr (.inl (.inr ⟨oo, hao⟩)), ?_⟩
        walk_at "g"
        have lno : (no.map V.int).length = no.length := List.length_map _
        refine ⟨b, _, also M R, rfl, hB6, by omega, by have := go.1; omega, fun w7 H7 m0 m1 hA7 hB7 => ?_⟩
        obtain ⟨u, rfl⟩ : ∃ u : Nat, w7 = (u : Int) := ⟨w7.toNat, by omega⟩
        have g7 := At.gr hA7 hB7.there
        have hao7 : H7 ao = some (.frz oo (.tup (no.map V.int))) := (hA7 ao (fun z => nao (by rw [z]; exact hw))).trans hao
        walk_at "g"
        have q7 : RowF (also M R) H7 (.ref ao) no := ⟨ao, oo, rfl, nao, hao7, oo1, oo2⟩
        refine ⟨ao, _, rfl, .inl (.inr ⟨oo, hao7⟩), fun _ => ?_, fun _ pc oc hpc oc1 oc2 => ?_⟩
        · obtain ⟨f1, f2, f3⟩ := fin H7 _ no hA7.sx g7 hB7 q7 go
          exact ⟨R, xs, _, rfl, rfl, f1, f2, f3 _ ⟨_, _, rfl⟩⟩
        · have ec : cutV (no.map V.int) none (some (u : Int)) = (no.take u).map V.int := by rw [cut_hi, List.map_take]
          rw [ec] at *
          have gu : goodRow (no.take u) := ⟨by rw [List.length_take]; have := go.1; omega, go.2.1.sublist (List.take_sublist _ _), fun x hx => go.2.2 x (List.mem_of_mem_take hx)⟩
          have sc : Same H7 (upd H7 pc (.frz oc (.tup ((no.take u).map V.int)))) := same_new hpc
          obtain ⟨f1, f2, f3⟩ := fin _ (.ref pc) (no.take u) (hA7.sx.trans (Sx.same sc)) (g7.trans (Gr.same sc)) (hB7.same sc) ⟨pc, oc, rfl, (hM6.gr g7).out hpc, upd_same, oc1, oc2⟩ gu
          exact ⟨R, xs, _, rfl, rfl, f1, f2, f3 _ ⟨_, _, rfl⟩⟩
      · walk_at "g"
        refine ⟨.inl ⟨rfl, _, SqL.of eR6⟩, ?_⟩
        walk_at "g"
        refine ⟨b, xs[j], no, also M R, rfl, hB6, hM6, qo.row, go, fun w7 H7 n7 s7 g7 hB7 q7 gd7 => ?_⟩
        obtain ⟨f1, f2, f3⟩ := fin H7 w7 n7 s7 g7 hB7 q7 gd7
        exact ⟨R, xs, w7, rfl, rfl, f1, f2, f3 _ ⟨_, _, rfl⟩⟩
    · obtain ⟨⟨y3, y4, rfl⟩, s5, g5, hB5, hM5, xs, eR5, hall, lx⟩ := p
      walk_at "g"
      refine ⟨b, R, xs, also M R, rfl, hB5, hM5, nRb, SqL.of eR5, by omega, fun H6 l ys s6 g6 hB6 nl el hper => ?_⟩
      have hall6 : RowsAll M H6 ys := fun x hx => by
        obtain ⟨ns, q, g⟩ := hall x (hper.mem_iff.mp hx)
        exact ⟨ns, (q.less also_le).sx (s6.le (one_le hB.w)), g⟩
      refine ⟨l, ys, rfl, .inl ⟨SqL.of el, fun m nm => ?_⟩⟩
      have sm : Same H6 (upd H6 m (.tup ys)) := same_new nm
      obtain ⟨nss, ln, rows⟩ := (hall6.sx (Sx.same sm)).list
      have lp := hper.length_eq
      refine q _ _ nss (s5.trans (s6.trans (Sx.same sm))) (g5.trans (g6.trans (Gr.same sm))) ((hB6.less hB.w also_le).same sm) ⟨m, ys, rfl, (hM.gr (g5.trans g6)).out nm, .inl upd_same, ln, by omega, rows⟩ (by omega) (by omega)
end
end D


namespace D
open PySem PySem.Spec PyProof.Rows L2
local macro_rules | `(tactic| walk_at "st") => `(tactic| first | exact SqT.of (by assumption) | exact Or.inl (by assumption) | exact SqT.of upd_same | fail "st")
local macro_rules | `(tactic| walk_at "ixt") => `(tactic| refine ⟨_, _, _, _, rfl, rfl, (by walk_at "st" : SqT _ _ _ _), by rfl, ?_⟩)
local macro_rules | `(tactic| walk_at "sq") => `(tactic| first | exact SqL.of (by assumption) | assumption | exact Or.inl (by assumption) | exact SqL.of upd_same | fail "sq")
local macro_rules | `(tactic| walk_at "ix") => `(tactic| refine ⟨_, _, _, _, rfl, rfl, (by walk_at "sq" : SqL _ _ _ _), by rfl, ?_⟩)
local macro_rules | `(tactic| walk_at "set") => `(tactic| refine ⟨_, _, _, _, rfl, rfl, by first | assumption | exact upd_same, by rfl, ?_⟩)
local macro_rules | `(tactic| walk_at "len") => `(tactic| refine ⟨_, _, rfl, Or.inl (by walk_at "sq" : SqL _ _ _ _), ?_⟩)
local macro_rules | `(tactic| walk_at "g") => `(tactic| repeat (first | refine ⟨_, rfl, ?_⟩ | refine ⟨_, _, rfl, rfl, ?_⟩ | refine ⟨Or.inr (by decide), ?_⟩ | refine ⟨Or.inl (by decide), ?_⟩ | refine ⟨(by decide : (0 : Int) < _), ?_⟩ | refine ⟨(⟨by decide, by decide⟩ : CDiv _ _), ?_⟩ | refine ⟨(⟨by decide, by decide, by decide⟩ : CPow _ _), ?_⟩ | refine Or.inl ⟨_, rfl, ?_⟩ | refine ⟨rfl, ?_⟩ | walk_at "ix" | walk_at "ixt" | walk_at "len" | fail "g"))
local macro_rules | `(tactic| walk_at "if") => `(tactic| refine ite2 (fun e => ?_) (fun e => ?_))
section
variable {P : Program} {w : World} {K : PySem.W.Frag} {mg : Str → Option Value} {base : Heap}
def sp_check_rowsL : Sp := fun vs H Q _ => ∃ (a : Addr) (xs : List V) (M : Ms), vs = [.ref a] ∧ SqL K H a xs ∧ (∀ x ∈ xs, ∃ ns, RowAt M H x ns ∧ goodRow ns) ∧ ∀ H', Same H H' → Q .non H'
theorem ok_check_rowsL (T : Txt K mg) : FnOk P w K mg base CX0 4 T.f_check_rows T.d_check_rows ["rows"] (sp_check_rowsL (K := K)) := by
  have G_is_row := okis_row (P := P) (w := w) (base := base) T
  refine T.F_check_rows.ok sc_check_rows (fun vs H Q E h => ?_) (fun cdv A outer s H vs Q E hr h => ?_)
  · obtain ⟨_, _, _, rfl, _⟩ := h
    rfl
  · obtain ⟨a, xs, M, rfl, hS, hR, q⟩ := h
    refine ⟨_, (pss_one (ps_for PassesOwn.never rfl (pi_listK (K := K) rfl (pv 0)) (pg_name (i := 1) sc_check_rows.nd rfl (Or.inl rfl)) (pss_one (ps_if (pt_not (pt_val (pe_call G_is_row (hr.mono (by omega)) (by rfl) T.g_is_row T.F_is_row.kp T.b_is_row .nil pass0 (pa_cons (pv 1) pa_nil)))) (pss_one ps_never) pss_nil)))), ?_⟩
    walk_at "g"
    refine ⟨⟨_, hS⟩, ?_⟩
    refine for_list (K := K) (a := a) (xs := xs) (fun i σ H' => ∃ y, σ = [some (.ref a), y] ∧ Same H H') ⟨none, rfl, Same.refl H⟩ (fun i σ H' _ p => ?_) (fun i x σ H' hx p => ?_) (fun σ H' p => ?_)
    · obtain ⟨y, rfl, hs⟩ := p
      exact hs.seq hS
    · obtain ⟨y, rfl, hs⟩ := p
      obtain ⟨ns, rd, hg⟩ := hR x (List.mem_of_getElem? hx)
      walk_at "g"
      exact ⟨x, ns, M, rfl, rd.sx (Sx.same hs), hg, fun H2 s2 => ⟨_, rfl, _, rfl, hs.trans s2⟩⟩
    · obtain ⟨y, rfl, hs⟩ := p
      exact q _ hs
end
end D

namespace D
open PySem PySem.Spec PyProof.Rows L2
local macro_rules | `(tactic| walk_at "st") => `(tactic| first | exact SqT.of (by assumption) | exact Or.inl (by assumption) | exact SqT.of upd_same | fail "st")
local macro_rules | `(tactic| walk_at "ixt") => `(tactic| refine ⟨_, _, _, _, rfl, rfl, (by walk_at "st" : SqT _ _ _ _), by rfl, ?_⟩)
local macro_rules | `(tactic| walk_at "sq") => `(tactic| first | exact SqL.of (by assumption) | assumption | exact Or.inl (by assumption) | exact SqL.of upd_same | fail "sq")
local macro_rules | `(tactic| walk_at "ix") => `(tactic| refine ⟨_, _, _, _, rfl, rfl, (by walk_at "sq" : SqL _ _ _ _), by rfl, ?_⟩)
local macro_rules | `(tactic| walk_at "set") => `(tactic| refine ⟨_, _, _, _, rfl, rfl, by first | assumption | exact upd_same, by rfl, ?_⟩)
local macro_rules | `(tactic| walk_at "len") => `(tactic| refine ⟨_, _, rfl, Or.inl (by walk_at "sq" : SqL _ _ _ _), ?_⟩)
local macro_rules | `(tactic| walk_at "g") => `(tactic| repeat (first | refine ⟨_, rfl, ?_⟩ | refine ⟨_, _, rfl, rfl, ?_⟩ | refine ⟨Or.inr (by decide), ?_⟩ | refine ⟨Or.inl (by decide), ?_⟩ | refine ⟨(by decide : (0 : Int) < _), ?_⟩ | refine ⟨(⟨by decide, by decide⟩ : CDiv _ _), ?_⟩ | refine ⟨(⟨by decide, by decide, by decide⟩ : CPow _ _), ?_⟩ | refine Or.inl ⟨_, rfl, ?_⟩ | refine ⟨rfl, ?_⟩ | walk_at "ix" | walk_at "ixt" | walk_at "len" | fail "g"))
local macro_rules | `(tactic| walk_at "if") => `(tactic| refine ite2 (fun e => ?_) (fun e => ?_))
section
variable {P : Program} {w : World} {K : PySem.W.Frag} {mg : Str → Option Value} {base : Heap}
def sNum : Str := "_numbers"
def sRowF : Str := "row"
/-- a dict of whole numbers by whole numbers -/
def DI (kvs : List (Key × V)) (T : Int → Option Int) : Prop := ∀ x : Int, valV kvs (.inl x) = (T x).map V.int
/-- the numbers behind a show -/
def shownT (ns : List Int) (T : Int → Option Int) : Int → Option Int := fun x => if x ∈ ns then some ((T x).getD 0) else none
theorem DI.put {kvs : List (Key × V)} {T : Int → Option Int} (h : DI kvs T) (n w : Int) : DI (putK kvs (.inl n) (.int w)) (fun x => if x = n then some w else T x) := fun x => by
  rw [valV_put]
  dsimp only
  by_cases c : x = n
  · rw [if_pos (by rw [c]), if_pos c]
    rfl
  · rw [if_neg (fun z => c (Sum.inl.inj z)), if_neg c]
    exact h x
theorem DI.show {kvs : List (Key × V)} {T : Int → Option Int} {l : List Int} {n : Int} (h : DI kvs (shownT l T)) : DI (putK kvs (.inl n) (.int ((T n).getD 0))) (shownT (l ++ [n]) T) := fun x => by
  rw [h.put n _ x]
  unfold shownT
  dsimp only
  by_cases c : x = n
  · subst c
    rw [if_pos rfl, if_pos (List.mem_append_right _ (List.mem_singleton.mpr rfl))]
  · rw [if_neg c]
    by_cases d : x ∈ l
    · rw [if_pos d, if_pos (List.mem_append_left _ d)]
    · rw [if_neg d, if_neg (fun z => (List.mem_append.mp z).elim d fun e => c (List.mem_singleton.mp e))]
def sp_tshow (C : Addr) : Sp := fun vs H Q _ => ∃ (a nd dx : Addr) (fs : List (Str × V)) (kvs : List (Key × V)) (v : V) (ns : List Int) (T : Int → Option Int) (M : Ms), vs = [.ref a, v] ∧ H a = some (.ins C dx fs) ∧ (fs = [(sNum, .ref nd)] ∨ ∃ r, fs = [(sNum, .ref nd), (sRowF, r)]) ∧ H nd = some (.dK kvs) ∧ DI kvs T ∧ RowF M H v ns ∧ goodRow ns ∧
  ∀ H' nd' kvs', Sx (one a) H H' → Gr H H' → H nd' = none → H' a = some (.ins C dx [(sNum, .ref nd'), (sRowF, v)]) → H' nd' = some (.dK kvs') → DI kvs' (shownT ns T) → kvs'.length ≤ 5 → Q .non H'
theorem ok_tshow (T : Txt K mg) : FnOk P w K mg base CX0 7 T.f_Things_show T.d_Things_show ["self", "row"] (sp_tshow T.C_Things) := by
  have G_check_rows := ok_check_rowsL (P := P) (w := w) (base := base) T
  refine T.F_Things_show.ok sc_Things_show (fun vs H Q E h => ?_) (fun cdv A outer s H vs Q E hr h => ?_)
  · obtain ⟨_, _, _, _, _, _, _, _, _, rfl, _⟩ := h
    rfl
  · obtain ⟨a, nd, dx, fs, kvs, v, ns, Tf, M, rfl, ha, hfs, hnd, hd, hR, hg, q⟩ := h
    refine ⟨_, (pss_cons (ps_expr (pe_call G_check_rows (hr.mono (by omega)) (by rfl) T.g_check_rows T.F_check_rows.kp T.b_check_rows .nil pass0 (pa_cons (pe_lst (pa_cons (pv 1) pa_nil)) pa_nil)))
      (pss_cons (ps_fld (pv 0) (pe_dc (own := [("item", 2)]) (g := gName 2) (tt := tYes) (by rfl) sc_Things_show.nd (pi_tupK (K := K) rfl (pv 1)) (blkOk_by (own := [("item", 2)]) (N := ["self", "row", "item"]) (sc := defScope s_Things_show) (by decide +kernel)) (fun _ _ _ _ _ => (pg_name (i := 2) sc_Things_show.nd rfl (Or.inl rfl))) (fun _ _ _ _ _ => pts_nil) (fun _ _ _ _ _ => (pv 2)) (fun _ _ _ _ _ => (pe_dget2 (hu_of hr) (pe_fldK (K := K) rfl (pv 0) rfl) (pv 2) pe_int ⟨by rfl, by rfl, by rfl, by rfl⟩))) rfl)
      (pss_one (ps_fld (pv 0) (pv 1) rfl)))), ?_⟩
    walk_at "g"
    refine ⟨szK rfl, fun t ht => ?_⟩
    have s1 : Same H (upd H t (.lst [v])) := same_new ht
    have e1 : upd H t (.lst [v]) t = some (.lst [v]) := upd_same
    generalize upd H t (.lst [v]) = H1 at s1 e1
    obtain ⟨b, ob, eb, nb, hb, ob1, ob2⟩ := id hR
    subst eb
    walk_at "g"
    refine ⟨t, _, M, rfl, SqL.of e1, fun x hx => ?_, fun H2 s2 => ?_⟩
    · rw [List.mem_singleton.mp hx]
      exact ⟨ns, (hR.sx (Sx.same s1)).row, hg⟩
    have s12 := s1.trans s2
    have hb2 := s12 _ _ hb
    walk_at "g"
    have hl : fs.lookup sNum = some (.ref nd) := by
      rcases hfs with rfl | ⟨r, rfl⟩ <;> rfl
    have ha2 := s12 _ _ ha
    have hnd2 := s12 _ _ hnd
    refine ⟨⟨_, .inl (.inr ⟨ob, hb2⟩)⟩, fun D hD => ?_⟩
    refine tup_loop (xs := ns.map V.int) (fun i H' => Same H2 H' ∧ ∃ kv, H' D = some (.dK kv) ∧ DI kv (shownT (ns.take i) Tf) ∧ kv.length ≤ i) ⟨same_new hD, [], upd_same, fun x => by simp [shownT, valV], Nat.le_refl _⟩ (fun i H' _ p => .inl (.inr ⟨ob, p.1 _ _ hb2⟩)) (fun i x H' hx p => ?_) (fun H3 p => ?_)
    · obtain ⟨s3, kv, eD, hk, lk⟩ := p
      rw [List.getElem?_map] at hx
      obtain ⟨n, hn, rfl⟩ := Option.map_eq_some_iff.mp hx
      have hi : i < ns.length := (List.getElem?_eq_some_iff.mp hn).1
      have l5 := hg.1
      refine ⟨rfl, ?_⟩
      walk_at "g"
      refine ⟨a, _, dx, fs, _, rfl, s3 _ _ ha2, T.cl_Things, T.nA_Things__numbers, hl, ?_⟩
      refine ⟨nd, rfl, .inl ⟨_, .inl (s3 _ _ hnd2)⟩, ?_⟩
      walk_at "g"
      refine ⟨_, DGet.k (k := .inl n) (s3 _ _ hnd2), ?_⟩
      have eg : (valV kvs (Sum.inl n)).getD (V.int 0) = .int ((Tf n).getD 0) := by
        rw [hd n]
        cases Tf n <;> rfl
      rw [eg]
      refine ⟨kv, .inl n, rfl, eD, small1000 (by omega), same_put s3 hD, _, upd_same, ?_, Nat.le_trans (putK_le _ _ _) (Nat.succ_le_succ lk)⟩
      rw [List.take_add_one, hn]
      exact hk.show
    · obtain ⟨s3, kv, eD, hk, lk⟩ := p
      rw [List.length_map, List.take_length] at hk
      have l5 := hg.1
      have lf : fs.length < 1000 := by
        rcases hfs with rfl | ⟨r, rfl⟩
        · exact (by decide : 1 < 1000)
        · exact (by decide : 2 < 1000)
      have hp : putF sRowF (.ref b) (putF sNum (.ref D) fs) = [(sNum, .ref D), (sRowF, .ref b)] := by rcases hfs with rfl | ⟨r, rfl⟩ <;> rfl
      have lp : (putF sNum (.ref D) fs).length < 1000 := by
        rcases hfs with rfl | ⟨r, rfl⟩
        · exact (by decide : 1 < 1000)
        · exact (by decide : 2 < 1000)
      walk_at "g"
      refine ⟨a, _, dx, fs, rfl, s3 _ _ ha2, T.cl_Things, T.nA_Things__numbers, lf, ?_⟩
      walk_at "g"
      refine ⟨a, _, dx, _, rfl, upd_same, T.cl_Things, T.nA_Things_row, lp, ?_⟩
      rw [upd_upd]
      have nDa : D ≠ a := fun z => by rw [z, ha2] at hD; cases hD
      have sA := s12.trans s3
      have sP : Sx (one a) H3 (upd H3 a (.ins T.C_Things dx (putF sRowF (.ref b) (putF sNum (.ref D) fs)))) := Sx.put rfl
      refine q _ D kv ((Sx.same sA).trans sP) ((Gr.same sA).trans Gr.upd) (s12.free hD) ?_ (by rw [upd_ne nDa]; exact eD) hk (by rw [List.length_map] at lk; omega)
      rw [← hp]
      exact upd_same
/-- an object of numbers by items -/
def ThAt (C : Addr) (M : Ms) (H : Hp) (a nd : Addr) (v : V) (ns : List Int) (T : Int → Option Int) : Prop := ∃ dx kvs, H a = some (.ins C dx [(sNum, .ref nd), (sRowF, v)]) ∧ H nd = some (.dK kvs) ∧ DI kvs T ∧ kvs.length ≤ 5 ∧ (∀ x, (T x).isSome = true ↔ x ∈ ns) ∧ RowF M H v ns ∧ goodRow ns
theorem ThAt.ne {C : Addr} {M : Ms} {H : Hp} {a nd : Addr} {v : V} {ns : List Int} {T : Int → Option Int} (h : ThAt C M H a nd v ns T) : a ≠ nd := fun z => by
  obtain ⟨dx, kvs, ha, hn, _⟩ := h
  rw [z, hn] at ha
  cases ha
theorem shownT_mem (ns : List Int) (T : Int → Option Int) (x : Int) : (shownT ns T x).isSome = true ↔ x ∈ ns := by
  unfold shownT
  by_cases c : x ∈ ns
  · rw [if_pos c]; exact ⟨fun _ => c, fun _ => rfl⟩
  · rw [if_neg c]
    constructor
    · intro z
      cases z
    · intro z
      exact absurd z c
theorem none_gr {H H' : Hp} {p : Addr} (g : Gr H H') (h : H' p = none) : H p = none := by
  cases e : H p with
  | none => rfl
  | some o => exact absurd h (g _ (ne_none e))
def sp_tinit (C : Addr) : Sp := fun vs H Q _ => ∃ (a dx : Addr) (v : V) (ns : List Int) (M : Ms), vs = [.ref a, v] ∧ H a = some (.ins C dx []) ∧ RowF M H v ns ∧ goodRow ns ∧ Mk M H ∧ M a ∧
  ∀ H' nd, Sx (one a) H H' → Gr H H' → H nd = none → ThAt C (also M nd) H' a nd v ns (shownT ns fun _ => none) → Q .non H'
theorem ok_tinit (T : Txt K mg) : FnOk P w K mg base CX0 8 T.f_Things___init__ T.d_Things___init__ ["self", "row"] (sp_tinit T.C_Things) := by
  have G_Things_show := ok_tshow (P := P) (w := w) (base := base) T
  refine T.F_Things___init__.ok sc_Things___init__ (fun vs H Q E h => ?_) (fun cdv A outer s H vs Q E hr h => ?_)
  · obtain ⟨_, _, _, _, _, rfl, _⟩ := h
    rfl
  · obtain ⟨a, dx, v, ns, M, rfl, ha, hR, hg, hM, ma, q⟩ := h
    refine ⟨_, (pss_cons (ps_fld (pv 0) pe_dnewK rfl)
      (pss_one (ps_expr (pe_meth (pv 0) T.cl_Things ⟨T.a_Things_show, T.i_Things_show, T.F_Things_show.kp⟩ G_Things_show (hr.mono (by omega)) T.b_Things_show .nil pass0 (pa_cons (pv 1) pa_nil))))), ?_⟩
    walk_at "g"
    intro nd hnd
    have s1 : Same H (upd H nd (.dK [])) := same_new hnd
    have nda : nd ≠ a := fun z => by rw [z, ha] at hnd; cases hnd
    walk_at "g"
    refine ⟨a, _, dx, [], rfl, s1 _ _ ha, T.cl_Things, T.nA_Things__numbers, (by decide : 0 < 1000), ?_⟩
    have e1 : upd (upd H nd (.dK [])) a (.ins T.C_Things dx [(sNum, .ref nd)]) nd = some (.dK []) := by rw [upd_ne nda, upd_same]
    have s2 : Sx (one a) H (upd (upd H nd (.dK [])) a (.ins T.C_Things dx [(sNum, .ref nd)])) := (Sx.same s1).trans (Sx.put rfl)
    have g2 : Gr H (upd (upd H nd (.dK [])) a (.ins T.C_Things dx [(sNum, .ref nd)])) := (Gr.same s1).trans Gr.upd
    have e2 : upd (upd H nd (.dK [])) a (.ins T.C_Things dx [(sNum, .ref nd)]) a = some (.ins T.C_Things dx [(sNum, .ref nd)]) := upd_same
    have hR2 := hR.sx (s2.le (one_le ma))
    walk_at "g"
    refine ⟨a, dx, _, rfl, e2, rfl, ?_⟩
    walk_at "g"
    refine ⟨a, nd, dx, _, [], v, ns, fun _ => none, M, rfl, e2, .inl rfl, e1, fun x => rfl, hR2, hg, fun H' nd' kvs' s3 g3 n3 ea en hk lk => ?_⟩
    refine q _ nd' (s2.trans s3) (g2.trans g3) (none_gr g2 n3) ⟨dx, kvs', ea, en, hk, lk, shownT_mem ns _, RowF.sx (RowF.fresh n3 hR2) (s3.le (one_le (.inl ma))), hg⟩
def sp_tget (C : Addr) : Sp := fun vs H Q _ => ∃ (a nd : Addr) (v : V) (ns : List Int) (T : Int → Option Int) (x w : Int) (M : Ms), vs = [.ref a, .int x] ∧ ThAt C M H a nd v ns T ∧ T x = some w ∧ Q (.int w) H
theorem ok_tget (T : Txt K mg) : FnOk P w K mg base CX0 2 T.f_Things___getitem__ T.d_Things___getitem__ ["self", "item"] (sp_tget T.C_Things) := by
  have G_is_whole := ok_is_whole (P := P) (w := w) (base := base) T
  refine T.F_Things___getitem__.ok sc_Things___getitem__ (fun vs H Q E h => ?_) (fun cdv A outer s H vs Q E hr h => ?_)
  · obtain ⟨_, _, _, _, _, _, _, _, rfl, _⟩ := h
    rfl
  · obtain ⟨a, nd, v, ns, Tf, x, w', M, rfl, hT, ex, q⟩ := h
    obtain ⟨dx, kvs, ha, hn, hd, l, m, hR, hg⟩ := id hT
    have ev : valV kvs (.inl x) = some (.int w') := by rw [hd x, ex]; rfl
    refine ⟨_, (pss_cons (ps_if (PW.pt (pw_or (pt_not (pt_val (pe_call G_is_whole (hr.mono (by omega)) (by rfl) T.g_is_whole T.F_is_whole.kp T.b_is_whole .nil pass0 (pa_cons (pv 1) pa_nil)))) (pw_or1 (pt_cmp (pc_dnotin (hu_of hr) (pv 1) (pe_fldK (K := K) rfl (pv 0) rfl)))))) (pss_one ps_never) pss_nil)
      (pss_one (ps_ret (pe_dget (hu_of hr) (pe_fldK (K := K) rfl (pv 0) rfl) (pv 1) (fun _ _ => rfl))))), ?_⟩
    walk_at "g"
    refine ⟨a, _, dx, _, _, rfl, ha, T.cl_Things, T.nA_Things__numbers, rfl, ?_⟩
    refine ⟨nd, _, rfl, DGet.k (k := .inl x) hn, ?_⟩
    rw [ev]
    refine ⟨_, rfl, ?_⟩
    walk_at "g"
    refine ⟨a, _, dx, _, _, rfl, ha, T.cl_Things, T.nA_Things__numbers, rfl, ?_⟩
    walk_at "g"
    have dg : DGet H nd (V.int x) (some (.int w')) := by
      rw [← ev]
      exact DGet.k (k := .inl x) hn
    exact ⟨nd, _, rfl, dg, q⟩
def sp_tput (C : Addr) : Sp := fun vs H Q _ => ∃ (a nd : Addr) (v : V) (ns : List Int) (T : Int → Option Int) (x w : Int) (M : Ms), vs = [.ref a, .int x, .int w] ∧ ThAt C M H a nd v ns T ∧ x ∈ ns ∧ M nd ∧
  ∀ H', Sx (one nd) H H' → Gr H H' → ThAt C M H' a nd v ns (fun y => if y = x then some w else T y) → Q .non H'
theorem ok_tput (T : Txt K mg) : FnOk P w K mg base CX0 2 T.f_Things___setitem__ T.d_Things___setitem__ ["self", "item", "number"] (sp_tput T.C_Things) := by
  have G_is_whole := ok_is_whole (P := P) (w := w) (base := base) T
  refine T.F_Things___setitem__.ok sc_Things___setitem__ (fun vs H Q E h => ?_) (fun cdv A outer s H vs Q E hr h => ?_)
  · obtain ⟨_, _, _, _, _, _, _, _, rfl, _⟩ := h
    rfl
  · obtain ⟨a, nd, v, ns, Tf, x, w', M, rfl, hT, hx, mn, q⟩ := h
    obtain ⟨dx, kvs, ha, hn, hd, l, m, hR, hg⟩ := id hT
    obtain ⟨u, eu⟩ : ∃ u, Tf x = some u := by
      have := (m x).mpr hx
      cases e : Tf x with
      | none => rw [e] at this; cases this
      | some u => exact ⟨u, rfl⟩
    have ev : valV kvs (.inl x) = some (.int u) := by rw [hd x, eu]; rfl
    refine ⟨_, (pss_cons (ps_if (PW.pt (pw_or (pt_not (pt_val (pe_call G_is_whole (hr.mono (by omega)) (by rfl) T.g_is_whole T.F_is_whole.kp T.b_is_whole .nil pass0 (pa_cons (pv 1) pa_nil)))) (pw_or1 (pt_cmp (pc_dnotin (hu_of hr) (pv 1) (pe_fldK (K := K) rfl (pv 0) rfl)))))) (pss_one ps_never) pss_nil)
      (pss_one (ps_dput (hu_of hr) (pe_fldK (K := K) rfl (pv 0) rfl) (pv 1) (pv 2) rfl))), ?_⟩
    walk_at "g"
    refine ⟨a, _, dx, _, _, rfl, ha, T.cl_Things, T.nA_Things__numbers, rfl, ?_⟩
    refine ⟨nd, _, rfl, DGet.k (k := .inl x) hn, ?_⟩
    rw [ev]
    refine ⟨_, rfl, ?_⟩
    walk_at "g"
    refine ⟨a, _, dx, _, _, rfl, ha, T.cl_Things, T.nA_Things__numbers, rfl, ?_⟩
    walk_at "g"
    refine ⟨nd, _, rfl, DPut.k (k := .inl x) hn (small1000 (by omega)), ?_⟩
    have nda : a ≠ nd := hT.ne
    refine q _ (Sx.put rfl) Gr.upd ⟨dx, _, by rw [upd_ne nda]; exact ha, upd_same, hd.put x w', ?_, fun y => ?_, hR.sx (Sx.put mn), hg⟩
    · rw [putK_len ev]
      exact l
    · by_cases c : y = x
      · subst c
        dsimp only
        rw [if_pos rfl]
        exact ⟨fun _ => hx, fun _ => rfl⟩
      · dsimp only
        rw [if_neg c]
        exact m y
def sp_titer (K : PySem.W.Frag) (C : Addr) : Sp := fun vs H Q _ => ∃ (a nd : Addr) (v : V) (ns : List Int) (T : Int → Option Int) (M : Ms), vs = [.ref a] ∧ ThAt C M H a nd v ns T ∧
  ∀ t it, v = .ref t → SqT K H t (ns.map V.int) → H it = none → Q (.ref it) (upd H it (ItT t it 0))
theorem ok_titer (T : Txt K mg) : FnOk P w K mg base CX0 1 T.f_Things___iter__ T.d_Things___iter__ ["self"] (sp_titer K T.C_Things) := by
  refine T.F_Things___iter__.ok sc_Things___iter__ (fun vs H Q E h => ?_) (fun cdv A outer s H vs Q E hr h => ?_)
  · obtain ⟨_, _, _, _, _, _, rfl, _⟩ := h
    rfl
  · obtain ⟨a, nd, v, ns, Tf, M, rfl, hT, q⟩ := h
    obtain ⟨dx, kvs, ha, hn, hd, l, m, hR, hg⟩ := id hT
    obtain ⟨t, o, rfl, nt, ht, o1, o2⟩ := id hR
    have sT : SqT K H t (ns.map V.int) := .inl (.inr ⟨o, ht⟩)
    refine ⟨_, (pss_one (ps_ret (pe_callB call_iterT (by rfl) T.m_iter (by decide +kernel) (pa_cons (pe_fldK (K := K) rfl (pv 0) rfl) pa_nil)))), ?_⟩
    walk_at "g"
    refine ⟨a, _, dx, _, _, rfl, ha, T.cl_Things, T.nA_Things_row, rfl, ?_⟩
    walk_at "g"
    exact ⟨t, _, rfl, sT, fun it hit => q t it rfl sT hit⟩
end
end D

namespace D
open PySem PySem.Spec PyProof.Rows L2
local macro_rules | `(tactic| walk_at "st") => `(tactic| first | exact SqT.of (by assumption) | exact Or.inl (by assumption) | exact SqT.of upd_same | fail "st")
local macro_rules | `(tactic| walk_at "ixt") => `(tactic| refine ⟨_, _, _, _, rfl, rfl, (by walk_at "st" : SqT _ _ _ _), by rfl, ?_⟩)
local macro_rules | `(tactic| walk_at "sq") => `(tactic| first | exact SqL.of (by assumption) | assumption | exact Or.inl (by assumption) | exact SqL.of upd_same | fail "sq")
local macro_rules | `(tactic| walk_at "ix") => `(tactic| refine ⟨_, _, _, _, rfl, rfl, (by walk_at "sq" : SqL _ _ _ _), by rfl, ?_⟩)
local macro_rules | `(tactic| walk_at "set") => `(tactic| refine ⟨_, _, _, _, rfl, rfl, by first | assumption | exact upd_same, by rfl, ?_⟩)
local macro_rules | `(tactic| walk_at "len") => `(tactic| refine ⟨_, _, rfl, Or.inl (by walk_at "sq" : SqL _ _ _ _), ?_⟩)
local macro_rules | `(tactic| walk_at "g") => `(tactic| repeat (first | refine ⟨_, rfl, ?_⟩ | refine ⟨_, _, rfl, rfl, ?_⟩ | refine ⟨Or.inr (by decide), ?_⟩ | refine ⟨Or.inl (by decide), ?_⟩ | refine ⟨(by decide : (0 : Int) < _), ?_⟩ | refine ⟨(⟨by decide, by decide⟩ : CDiv _ _), ?_⟩ | refine ⟨(⟨by decide, by decide, by decide⟩ : CPow _ _), ?_⟩ | refine Or.inl ⟨_, rfl, ?_⟩ | refine ⟨rfl, ?_⟩ | walk_at "ix" | walk_at "ixt" | walk_at "len" | fail "g"))
local macro_rules | `(tactic| walk_at "if") => `(tactic| refine ite2 (fun e => ?_) (fun e => ?_))
section
variable {P : Program} {w : World} {K : PySem.W.Frag} {mg : Str → Option Value} {base : Heap}
theorem KeyAt.fresh {C : Addr} {M : Ms} {H : Hp} {k : V} {f : Fm} {p : Addr} (hp : H p = none) (h : KeyAt C M H k f) : KeyAt C (also M p) H k f := by
  obtain ⟨a, dx, u, e, n, ha, r, g⟩ := h
  refine ⟨a, dx, u, e, fun z => ?_, ha, r.fresh hp, g⟩
  rcases z with z | z
  · exact n z
  · rw [show a = p from z, hp] at ha
    cases ha
theorem idsOf_eq (ws : List Int) : idsOf ws = (idp ws).map pD := by
  unfold idsOf idp
  apply List.ext_getElem?
  intro i
  rw [List.getElem?_map, List.getElem?_mapIdx, List.getElem?_mapIdx]
  cases ws[i]? <;> rfl
def ids (f : Fm) (ns : List Int) : List IP := idp (wsOf f ns)
theorem ids_len (f : Fm) (ns : List Int) : (ids f ns).length = ns.length := by
  unfold ids
  rw [idp_len]
  exact List.length_mapIdx
def sKey : Str := "_key"
def sIdents : Str := "_idents"
def sp_idents (T : Txt K mg) : Sp := fun vs H Q _ => ∃ (k v : V) (f : Fm) (ns : List Int) (M : Ms), vs = [k, v] ∧ KeyAt T.C_Key M H k f ∧ RowAt M H v ns ∧ goodRow ns ∧ Mk M H ∧ Pu M H (fun d => d = identD f ns) Q
theorem ok_idents (T : Txt K mg) : FnOk P w K mg base CX0 10 T.f_Key_idents T.d_Key_idents ["self", "row"] (sp_idents T) := by
  have G_check_rows := ok_check_rowsL (P := P) (w := w) (base := base) T
  have G__idents := ok_ids (P := P) (w := w) (base := base) T
  refine T.F_Key_idents.ok sc_Key_idents (fun vs H Q E h => ?_) (fun cdv A outer s H vs Q E hr h => ?_)
  · obtain ⟨_, _, _, _, _, rfl, _⟩ := h
    rfl
  · obtain ⟨k, v, f, ns, M, rfl, hK, hR, hg, hM, q⟩ := h
    refine ⟨_, (pss_cons (ps_expr (pe_call G_check_rows (hr.mono (by omega)) (by rfl) T.g_check_rows T.F_check_rows.kp T.b_check_rows .nil pass0 (pa_cons (pe_lst (pa_cons (pv 1) pa_nil)) pa_nil)))
      (pss_one (ps_ret (pe_call G__idents (hr.mono (by omega)) (by rfl) T.g__idents T.F__idents.kp T.b__idents .nil pass0 (pa_cons (pv 0) (pa_cons (pv 1) pa_nil)))))), ?_⟩
    walk_at "g"
    refine ⟨szK rfl, fun p hp => ?_⟩
    have n1 : Same H (upd H p (.lst [v])) := same_new hp
    refine ⟨p, [v], M, rfl, SqL.of upd_same, fun x hx => ⟨ns, by rw [List.mem_singleton.mp hx]; exact hR.sx (Sx.same n1), hg⟩, fun H1 s1 => ?_⟩
    walk_at "g"
    have s2 := n1.trans s1
    exact ⟨k, v, f, ns, M, rfl, hK.sx (Sx.same s2), hR.sx (Sx.same s2), hg.1, hM.gr (Gr.same s2), fun w' H2 d s3 r3 hd => q w' H2 d (s2.trans s3) r3 hd⟩
def IdAt (M : Ms) (H : Hp) (ivs : List (Key × V)) (ns : List Int) (ps : List IP) : Prop := ∀ (i : Nat) (x : Int) (p : IP), ns[i]? = some x → ps[i]? = some p → ∃ t, valV ivs (.inl x) = some (.ref t) ∧ ¬ M t ∧ H t = some (.tup [.int p.1, .int p.2])
def KnAt (CK C : Addr) (M : Ms) (H : Hp) (a nd : Addr) (v : V) (f : Fm) (ns : List Int) (N : IP → Option Int) : Prop := ∃ dx kvs ivs idd kv, H a = some (.ins C dx [(sKey, kv), (sNum, .ref nd), (sIdents, .ref idd), (sRowF, v)]) ∧ H nd = some (.dT kvs) ∧ DN kvs N ∧ kvs.length ≤ 5 ∧ ¬ M idd ∧ H idd = some (.dK ivs) ∧ IdAt M H ivs ns (ids f ns) ∧ (∀ p, (N p).isSome = true ↔ p ∈ ids f ns) ∧ KeyAt CK M H kv f ∧ (∀ x, (valV ivs (.inl x)).isSome = true → x ∈ ns) ∧ RowF M H v ns ∧ goodRow ns
theorem shownN_mem (ns : List IP) (T : IP → Option Int) (x : IP) : (shownN ns T x).isSome = true ↔ x ∈ ns := by
  unfold shownN
  by_cases c : x ∈ ns
  · rw [if_pos c]; exact ⟨fun _ => c, fun _ => rfl⟩
  · rw [if_neg c]
    constructor
    · intro z
      cases z
    · intro z
      exact absurd z c
theorem nodup_at {α : Type} {l : List α} (h : l.Nodup) {i j : Nat} {x : α} (h1 : l[i]? = some x) (h2 : l[j]? = some x) : i = j := by
  have li := (List.getElem?_eq_some_iff.mp h1).1
  have lj := (List.getElem?_eq_some_iff.mp h2).1
  rcases Nat.lt_trichotomy i j with c | c | c
  · exact absurd (h1.trans h2.symm) (nodup_get.mp h i j c lj)
  · exact c
  · exact absurd (h2.trans h1.symm) (nodup_get.mp h j i c li)
def sp_kshow (CK C : Addr) : Sp := fun vs H Q _ => ∃ (a nd dx : Addr) (fs : List (Str × V)) (kvs : List (List Key × V)) (kv v : V) (f : Fm) (ns : List Int) (N : IP → Option Int) (M : Ms), vs = [.ref a, v] ∧ H a = some (.ins C dx fs) ∧ (fs = [(sKey, kv), (sNum, .ref nd)] ∨ ∃ i r, fs = [(sKey, kv), (sNum, .ref nd), (sIdents, i), (sRowF, r)]) ∧ H nd = some (.dT kvs) ∧ DN kvs N ∧ KeyAt CK M H kv f ∧ RowF M H v ns ∧ goodRow ns ∧ Mk M H ∧ M a ∧
  ∀ H' nd', Sx (one a) H H' → Gr H H' → H nd' = none → KnAt CK C (also M nd') H' a nd' v f ns (shownN (ids f ns) N) → Q .non H'
theorem ok_kshow (T : Txt K mg) : FnOk P w K mg base CX0 11 T.f_Known_show T.d_Known_show ["self", "row"] (sp_kshow T.C_Key T.C_Known) := by
  have G_Key_idents := ok_idents (P := P) (w := w) (base := base) T
  refine T.F_Known_show.ok sc_Known_show (fun vs H Q E h => ?_) (fun cdv A outer s H vs Q E hr h => ?_)
  · obtain ⟨_, _, _, _, _, _, _, _, _, _, _, rfl, _⟩ := h
    rfl
  · obtain ⟨a, nd, dx, fs, kvs, kv, v, f, ns, N, M, rfl, ha, hfs, hnd, hd, hK, hR, hg, hM, ma, q⟩ := h
    refine ⟨_, (pss_cons (ps_set (i := 2) sc_Known_show.nd rfl (Or.inl rfl) (pe_meth (pe_fldK (K := K) rfl (pv 0) rfl) T.cl_Key ⟨T.a_Key_idents, T.i_Key_idents, T.F_Key_idents.kp⟩ G_Key_idents (hr.mono (by omega)) T.b_Key_idents .nil pass0 (pa_cons (pv 1) pa_nil)))
      (pss_cons (ps_fld (pv 0) (pe_dcT (own := [("ident", 3)]) (g := gName 3) (tt := tYes) (hu_of hr) (by rfl) sc_Known_show.nd (pi_tupK (K := K) rfl (pv 2)) (blkOk_by (own := [("ident", 3)]) (N := ["self", "row", "idents", "ident", "item"]) (sc := defScope s_Known_show) (by decide +kernel)) (fun _ _ _ _ _ => (pg_name (i := 3) sc_Known_show.nd rfl (Or.inl rfl))) (fun _ _ _ _ _ => pts_nil) (fun _ _ _ _ _ => (pv 3)) (fun _ _ _ _ _ => (pe_dget2 (hu_of hr) (pe_fldK (K := K) rfl (pv 0) rfl) (pv 3) pe_int ⟨by rfl, by rfl, by rfl, by rfl⟩))) rfl)
      (pss_cons (ps_fld (pv 0) (pe_dc (own := [("item", 4), ("ident", 3)]) (g := gTup K 2 (gCons (gName 4) (gCons (gName 3) gNil))) (tt := tYes) (by rfl) sc_Known_show.nd (pi_zipAK (K := K) rfl (by rfl) T.m_zip (pa_cons (pv 1) (pa_cons (pv 2) pa_nil))) (blkOk_by (own := [("item", 4), ("ident", 3)]) (N := ["self", "row", "idents", "ident", "item"]) (sc := defScope s_Known_show) (by decide +kernel)) (fun _ _ _ _ _ => (pg_tupK (K := K) rfl rfl (pgs_cons (pg_name (i := 4) sc_Known_show.nd rfl (Or.inl rfl)) (pgs_cons (pg_name (i := 3) sc_Known_show.nd rfl (Or.inl rfl)) pgs_nil)))) (fun _ _ _ _ _ => pts_nil) (fun _ _ _ _ _ => (pv 4)) (fun _ _ _ _ _ => (pv 3))) rfl)
      (pss_one (ps_fld (pv 0) (pv 1) rfl))))), ?_⟩
    obtain ⟨ka, kdx, ku, ek, nka, hka, hku, hkg⟩ := id hK
    subst ek
    have lk : fs.lookup sKey = some (.ref ka) := by
      rcases hfs with rfl | ⟨i, r, rfl⟩ <;> rfl
    have ln : fs.lookup sNum = some (.ref nd) := by
      rcases hfs with rfl | ⟨i, r, rfl⟩ <;> rfl
    walk_at "g"
    refine ⟨a, _, dx, fs, _, rfl, ha, T.cl_Known, T.nA_Known__key, lk, ?_⟩
    refine ⟨ka, kdx, _, rfl, hka, rfl, ?_⟩
    walk_at "g"
    refine ⟨.ref ka, v, f, ns, M, rfl, hK, hR.row, hg, hM, fun w1 H1 d1 s1 r1 e1 => ?_⟩
    subst e1
    have r1' : Rp M H1 w1 (.tuple ((ids f ns).map pD)) := by
      unfold ids
      rw [← idsOf_eq]
      exact r1
    obtain ⟨b, ob, eb, nb, hb, ob1, ob2⟩ := id hR
    subst eb
    have lids : (ids f ns).length = ns.length := ids_len f ns
    obtain ⟨ps, hps⟩ : ∃ ps, ps = ids f ns := ⟨_, rfl⟩
    rw [← hps] at r1' lids
    obtain ⟨it, xs, rfl, nit, hit, rx⟩ := Rp.tupX r1'
    have lxs := rx.length
    rw [List.length_map] at lxs
    have l5 := hg.1
    have ha1 := s1 _ _ ha
    have hnd1 := s1 _ _ hnd
    have hb1 := s1 _ _ hb
    have pair : ∀ {H'}, Same H1 H' → ∀ (i : Nat) (p : IP), ps[i]? = some p → ∃ t, xs[i]? = some (.ref t) ∧ ¬ M t ∧ H' t = some (.tup [.int p.1, .int p.2]) := fun {H'} s i p hp => by
      obtain ⟨u, hu, ru⟩ := rx.getD (i := i) (d := pD p) (by rw [List.getElem?_map, hp]; rfl)
      obtain ⟨t, ys, rfl, nt, ht, ry⟩ := Rp.tupX (show Rp M H1 u (.tuple ([p.1, p.2].map PyData.int)) from ru)
      have ey := ry.ofInts
      subst ey
      exact ⟨t, hu, nt, s _ _ ht⟩
    walk_at "g"
    refine ⟨⟨_, .inl (.inl hit)⟩, fun D hD => ?_⟩
    refine tup_loop (xs := xs) (fun i H' => Same H1 H' ∧ ∃ kv, H' D = some (.dT kv) ∧ DN kv (shownN (ps.take i) N) ∧ kv.length ≤ i) ⟨same_new hD, [], upd_same, fun x => by simp [shownN, valV], Nat.le_refl _⟩ (fun i H' _ p => .inl (.inl (p.1 _ _ hit))) (fun i x H' hx p => ?_) (fun H3 p => ?_)
    · obtain ⟨s3, kv, eD, hk, lk2⟩ := p
      have hi : i < ps.length := by rw [← lxs]; exact (List.getElem?_eq_some_iff.mp hx).1
      have ep : ps[i]? = some ps[i] := List.getElem?_eq_getElem hi
      obtain ⟨t, et, nt, ht⟩ := pair s3 i _ ep
      rw [hx] at et
      cases et
      refine ⟨rfl, ?_⟩
      walk_at "g"
      refine ⟨a, _, dx, fs, _, rfl, s3 _ _ ha1, T.cl_Known, T.nA_Known__numbers, ln, ?_⟩
      refine ⟨nd, rfl, .inr ⟨_, .inl (s3 _ _ hnd1)⟩, ?_⟩
      walk_at "g"
      refine ⟨_, DGet.t (k := idk ps[i]) (s3 _ _ hnd1) ht, ?_⟩
      have eg : (valV kvs (idk ps[i])).getD (V.int 0) = .int ((N ps[i]).getD 0) := by
        rw [hd ps[i]]
        cases N ps[i] <;> rfl
      rw [eg]
      refine ⟨kv, idk ps[i], t, rfl, ht, eD, small1000 (by omega), same_put s3 hD, _, upd_same, ?_, Nat.le_trans (putK_more _ _ _) (Nat.succ_le_succ lk2)⟩
      rw [List.take_add_one, ep]
      exact hk.show
    obtain ⟨s3, nkv, eD, hk, lk2⟩ := p
    rw [lxs, List.take_length] at hk
    have lf : fs.length < 1000 := by
      rcases hfs with rfl | ⟨i, r, rfl⟩
      · exact (by decide : 2 < 1000)
      · exact (by decide : 4 < 1000)
    have lf1 : (putF sNum (.ref D) fs).length < 1000 := by
      rcases hfs with rfl | ⟨i, r, rfl⟩
      · exact (by decide : 2 < 1000)
      · exact (by decide : 4 < 1000)
    have nDa : D ≠ a := fun z => by rw [z, ha1] at hD; cases hD
    have nDn : H D = none := s1.free hD
    walk_at "g"
    refine ⟨a, _, dx, fs, rfl, s3 _ _ ha1, T.cl_Known, T.nA_Known__numbers, lf, ?_⟩
    have ha3 : upd H3 a (.ins T.C_Known dx (putF (Str.ofString "_numbers") (.ref D) fs)) a = some (.ins T.C_Known dx (putF (Str.ofString "_numbers") (.ref D) fs)) := upd_same
    have sA : Sx (one a) H1 (upd H3 a (.ins T.C_Known dx (putF (Str.ofString "_numbers") (.ref D) fs))) := (Sx.same s3).trans (Sx.put rfl)
    have gA : Gr H1 (upd H3 a (.ins T.C_Known dx (putF (Str.ofString "_numbers") (.ref D) fs))) := (Gr.same s3).trans Gr.upd
    have eD4 : upd H3 a (.ins T.C_Known dx (putF (Str.ofString "_numbers") (.ref D) fs)) D = some (.dT nkv) := by rw [upd_ne nDa]; exact eD
    have sA' := sA
    have hKA : KeyAt T.C_Key (also M D) (upd H3 a (.ins T.C_Known dx (putF (Str.ofString "_numbers") (.ref D) fs))) (.ref ka) f := (((hK.sx (Sx.same s1)).fresh hD).sx (sA.le (one_le (.inl ma))))
    have nDt : ∀ t ys, H1 t = some (.tup ys) → t ≠ a := fun t ys e z => by rw [z, ha1] at e; cases e
    generalize upd H3 a (.ins T.C_Known dx (putF (Str.ofString "_numbers") (.ref D) fs)) = H4 at ha3 sA gA eD4 sA' hKA
    have hit4 : H4 it = some (.tup xs) := sA _ _ (fun z => nDt _ _ hit z) hit
    have hb4 : H4 b = some (.frz ob (.tup (ns.map V.int))) := sA _ _ (fun z => by rw [show b = a from z, ha1] at hb1; cases hb1) hb1
    have pair4 : ∀ {H'}, Same H4 H' → ∀ (i : Nat) (p : IP), ps[i]? = some p → ∃ t, xs[i]? = some (.ref t) ∧ ¬ M t ∧ H' t = some (.tup [.int p.1, .int p.2]) := fun {H'} s i p hp => by
      obtain ⟨t, e1, e2, e3⟩ := pair (Same.refl H1) i p hp
      exact ⟨t, e1, e2, s _ _ (sA _ _ (fun z => nDt _ _ e3 z) e3)⟩
    walk_at "g"
    refine ⟨b, it, ns.map V.int, xs, rfl, .inr ⟨.inl (.inr ⟨ob, hb4⟩), .inl (.inl hit4), fun D2 hD2 => ?_⟩⟩
    refine zipT_loop (xs := ns.map V.int) (ys := xs) (by rw [List.length_map]; omega) (fun i H' => Same H4 H' ∧ ∃ iv, H' D2 = some (.dK iv) ∧ iv.length ≤ i ∧ (∀ x, (valV iv (.inl x)).isSome = true → x ∈ ns) ∧ ∀ (j : Nat) (x : Int) (p : IP), j < i → ns[j]? = some x → ps[j]? = some p → ∃ t, valV iv (.inl x) = some (.ref t) ∧ xs[j]? = some (.ref t)) ⟨same_new hD2, [], upd_same, Nat.le_refl _, fun x z => (by cases z), fun j x p h => absurd h (Nat.not_lt_zero _)⟩ (fun i H' _ p => ⟨.inl (.inr ⟨ob, p.1 _ _ hb4⟩), .inl (.inl (p.1 _ _ hit4))⟩) (fun i x y T' H' hx hy hT p => ?_) (fun H5 p => ?_)
    · obtain ⟨s5, iv, eD2, li, hmem, hiv⟩ := p
      rw [List.getElem?_map] at hx
      obtain ⟨n, hn, rfl⟩ := Option.map_eq_some_iff.mp hx
      have hi : i < ns.length := (List.getElem?_eq_some_iff.mp hn).1
      have ep : ps[i]? = some (ps[i]'(by omega)) := List.getElem?_eq_getElem _
      obtain ⟨t, et, nt, ht⟩ := pair4 s5 i _ ep
      rw [hy] at et
      cases et
      have sT : Same H' (upd H' T' (.tup [.int n, .ref t])) := same_new hT
      refine ⟨T', _, rfl, SqT.of upd_same, rfl, _, _, rfl, _, _, rfl, rfl, ?_⟩
      refine ⟨rfl, ?_⟩
      walk_at "g"
      refine ⟨iv, .inl n, rfl, sT _ _ eD2, small1000 (by omega), same_put (s5.trans sT) hD2, _, upd_same, Nat.le_trans (putK_more _ _ _) (Nat.succ_le_succ li), fun x z => ?_, fun j x p hj h1 h2 => ?_⟩
      · rw [valV_put] at z
        by_cases c : x = n
        · rw [c]; exact List.mem_of_getElem? hn
        · rw [if_neg (fun z => c (Sum.inl.inj z))] at z
          exact hmem x z
      rw [valV_put]
      by_cases c : x = n
      · rw [if_pos (by rw [c])]
        subst c
        have hji : j = i := nodup_at hg.2.1 h1 hn
        subst hji
        exact ⟨t, rfl, hy⟩
      · rw [if_neg (fun z => c (Sum.inl.inj z))]
        have hj' : j ≠ i := fun z => by
          rw [z, hn] at h1
          exact c (Option.some.inj h1).symm
        exact hiv j x p (by omega) h1 h2
    obtain ⟨s5, iv, eD2, li, hmem, hiv⟩ := p
    rw [List.length_map] at hiv
    have lf2 : (putF sIdents (.ref D2) (putF sNum (.ref D) fs)).length < 1000 := by
      rcases hfs with rfl | ⟨i, r, rfl⟩
      · exact (by decide : 3 < 1000)
      · exact (by decide : 4 < 1000)
    have hp : putF sRowF (.ref b) (putF sIdents (.ref D2) (putF sNum (.ref D) fs)) = [(sKey, .ref ka), (sNum, .ref D), (sIdents, .ref D2), (sRowF, .ref b)] := by
      rcases hfs with rfl | ⟨i, r, rfl⟩ <;> rfl
    have nD2a : D2 ≠ a := fun z => by rw [z, ha3] at hD2; cases hD2
    walk_at "g"
    refine ⟨a, _, dx, _, rfl, s5 _ _ ha3, T.cl_Known, T.nA_Known__idents, lf1, ?_⟩
    walk_at "g"
    refine ⟨a, _, dx, _, rfl, upd_same, T.cl_Known, T.nA_Known_row, lf2, ?_⟩
    rw [upd_upd]
    have sP : Sx (one a) H5 (upd H5 a (.ins T.C_Known dx (putF sRowF (.ref b) (putF sIdents (.ref D2) (putF sNum (.ref D) fs))))) := Sx.put rfl
    have sAll : Sx (one a) H4 (upd H5 a (.ins T.C_Known dx (putF sRowF (.ref b) (putF sIdents (.ref D2) (putF sNum (.ref D) fs))))) := (Sx.same s5).trans sP
    have gAll : Gr H4 (upd H5 a (.ins T.C_Known dx (putF sRowF (.ref b) (putF sIdents (.ref D2) (putF sNum (.ref D) fs))))) := (Gr.same s5).trans Gr.upd
    have hD2n : ¬ (also M D) D2 := fun z => by
      rcases z with z | z
      · exact ((hM.gr (Gr.same s1)).gr gA).out hD2 z
      · rw [show D2 = D from z, eD4] at hD2
        cases hD2
    have nDt4 : ∀ t ys, H4 t = some (.tup ys) → t ≠ a ∧ t ≠ D := fun t ys e => ⟨fun z => (by rw [z, ha3] at e; cases e), fun z => (by rw [z, eD4] at e; cases e)⟩
    subst hps
    refine q _ D ((Sx.same s1).trans (sA'.trans sAll)) ((Gr.same s1).trans (gA.trans gAll)) nDn ⟨dx, nkv, iv, D2, .ref ka, by rw [← hp]; exact upd_same, by rw [upd_ne nDa]; exact s5 _ _ eD4, hk, by omega, hD2n, by rw [upd_ne nD2a]; exact eD2, fun j x p h1 h2 => ?_, shownN_mem _ N, ?_, hmem, RowF.sx (RowF.fresh nDn hR) (((Sx.same s1).trans (sA'.trans sAll)).le (one_le (.inl ma))), hg⟩
    · obtain ⟨t, e1, e2⟩ := hiv j x p (List.getElem?_eq_some_iff.mp h1).1 h1 h2
      obtain ⟨t', e3, nt, ht⟩ := pair4 (Same.refl H4) j p h2
      rw [e2] at e3
      cases e3
      obtain ⟨z1, z2⟩ := nDt4 t _ ht
      refine ⟨t, e1, fun z => z.elim nt z2, ?_⟩
      rw [upd_ne z1]
      exact s5 _ _ ht
    · exact hKA.sx (sAll.le (one_le (.inl ma)))
def sp_kinit (CK C : Addr) : Sp := fun vs H Q _ => ∃ (a dx : Addr) (kv v : V) (f : Fm) (ns : List Int) (M : Ms), vs = [.ref a, kv, v] ∧ H a = some (.ins C dx []) ∧ KeyAt CK M H kv f ∧ RowF M H v ns ∧ goodRow ns ∧ Mk M H ∧ M a ∧
  ∀ H' nd, Sx (one a) H H' → Gr H H' → H nd = none → KnAt CK C (also M nd) H' a nd v f ns (shownN (ids f ns) fun _ => none) → Q .non H'
theorem ok_kinit (T : Txt K mg) : FnOk P w K mg base CX0 12 T.f_Known___init__ T.d_Known___init__ ["self", "key", "row"] (sp_kinit T.C_Key T.C_Known) := by
  have G_Known_show := ok_kshow (P := P) (w := w) (base := base) T
  refine T.F_Known___init__.ok sc_Known___init__ (fun vs H Q E h => ?_) (fun cdv A outer s H vs Q E hr h => ?_)
  · obtain ⟨_, _, _, _, _, _, _, rfl, _⟩ := h
    rfl
  · obtain ⟨a, dx, kv, v, f, ns, M, rfl, ha, hK, hR, hg, hM, ma, q⟩ := h
    refine ⟨_, (pss_cons (ps_fld (pv 0) (pv 1) rfl)
      (pss_cons (ps_fld (pv 0) pe_dnewT rfl)
      (pss_one (ps_expr (pe_meth (pv 0) T.cl_Known ⟨T.a_Known_show, T.i_Known_show, T.F_Known_show.kp⟩ G_Known_show (hr.mono (by omega)) T.b_Known_show .nil pass0 (pa_cons (pv 2) pa_nil)))))), ?_⟩
    walk_at "g"
    refine ⟨a, _, dx, [], rfl, ha, T.cl_Known, T.nA_Known__key, (by decide : 0 < 1000), ?_⟩
    have s1 : Sx (one a) H (upd H a (.ins T.C_Known dx (putF (Str.ofString "_key") kv []))) := Sx.put rfl
    have g1 : Gr H (upd H a (.ins T.C_Known dx (putF (Str.ofString "_key") kv []))) := Gr.upd
    have e1 : upd H a (.ins T.C_Known dx (putF (Str.ofString "_key") kv [])) a = some (.ins T.C_Known dx [(sKey, kv)]) := upd_same
    generalize upd H a (.ins T.C_Known dx (putF (Str.ofString "_key") kv [])) = H1 at s1 g1 e1
    walk_at "g"
    intro nd hnd
    have s2 : Same H1 (upd H1 nd (.dT [])) := same_new hnd
    have en : upd H1 nd (.dT []) nd = some (.dT []) := upd_same
    generalize upd H1 nd (.dT []) = H2 at s2 en
    have nda : nd ≠ a := fun z => by rw [z, e1] at hnd; cases hnd
    walk_at "g"
    refine ⟨a, _, dx, _, rfl, s2 _ _ e1, T.cl_Known, T.nA_Known__numbers, (by decide : 1 < 1000), ?_⟩
    have s3 : Sx (one a) H2 (upd H2 a (.ins T.C_Known dx (putF (Str.ofString "_numbers") (.ref nd) [(sKey, kv)]))) := Sx.put rfl
    have g3 : Gr H2 (upd H2 a (.ins T.C_Known dx (putF (Str.ofString "_numbers") (.ref nd) [(sKey, kv)]))) := Gr.upd
    have e3 : upd H2 a (.ins T.C_Known dx (putF (Str.ofString "_numbers") (.ref nd) [(sKey, kv)])) a = some (.ins T.C_Known dx [(sKey, kv), (sNum, .ref nd)]) := upd_same
    have en3 : upd H2 a (.ins T.C_Known dx (putF (Str.ofString "_numbers") (.ref nd) [(sKey, kv)])) nd = some (.dT []) := by rw [upd_ne nda]; exact en
    generalize upd H2 a (.ins T.C_Known dx (putF (Str.ofString "_numbers") (.ref nd) [(sKey, kv)])) = H3 at s3 g3 e3 en3
    have sA : Sx (one a) H H3 := s1.trans ((Sx.same s2).trans s3)
    have gA : Gr H H3 := g1.trans ((Gr.same s2).trans g3)
    walk_at "g"
    refine ⟨a, dx, _, rfl, e3, rfl, ?_⟩
    walk_at "g"
    refine ⟨a, nd, dx, _, [], kv, v, f, ns, fun _ => none, M, rfl, e3, .inl rfl, en3, fun p => rfl, hK.sx (sA.le (one_le ma)), hR.sx (sA.le (one_le ma)), hg, hM.gr gA, ma, fun H4 nd' s4 g4 n4 hkn => ?_⟩
    exact q _ nd' (sA.trans s4) (gA.trans g4) (none_gr gA n4) hkn
def sp_kget (CK C : Addr) : Sp := fun vs H Q _ => ∃ (a nd : Addr) (v : V) (f : Fm) (ns : List Int) (N : IP → Option Int) (i : Nat) (x w : Int) (p : IP) (M : Ms), vs = [.ref a, .int x] ∧ KnAt CK C M H a nd v f ns N ∧ ns[i]? = some x ∧ (ids f ns)[i]? = some p ∧ N p = some w ∧ Q (.int w) H
theorem ok_kget (T : Txt K mg) : FnOk P w K mg base CX0 2 T.f_Known___getitem__ T.d_Known___getitem__ ["self", "item"] (sp_kget T.C_Key T.C_Known) := by
  have G_is_whole := ok_is_whole (P := P) (w := w) (base := base) T
  refine T.F_Known___getitem__.ok sc_Known___getitem__ (fun vs H Q E h => ?_) (fun cdv A outer s H vs Q E hr h => ?_)
  · obtain ⟨_, _, _, _, _, _, _, _, _, _, _, rfl, _⟩ := h
    rfl
  · obtain ⟨a, nd, v, f, ns, N, i, x, w', p, M, rfl, hT, ex, ep, ew, q⟩ := h
    obtain ⟨dx, kvs, ivs, idd, kv, ha, hn, hd, l, nid, hid, hiv, m, hK, hmem, hR, hg⟩ := id hT
    obtain ⟨t, ev, nt, ht⟩ := hiv i x p ex ep
    refine ⟨_, (pss_cons (ps_if (PW.pt (pw_or (pt_not (pt_val (pe_call G_is_whole (hr.mono (by omega)) (by rfl) T.g_is_whole T.F_is_whole.kp T.b_is_whole .nil pass0 (pa_cons (pv 1) pa_nil)))) (pw_or1 (pt_cmp (pc_dnotin (hu_of hr) (pv 1) (pe_fldK (K := K) rfl (pv 0) rfl)))))) (pss_one ps_never) pss_nil)
      (pss_one (ps_ret (pe_dget (hu_of hr) (pe_fldK (K := K) rfl (pv 0) rfl) (pe_dget (hu_of hr) (pe_fldK (K := K) rfl (pv 0) rfl) (pv 1) (fun _ _ => rfl)) (fun _ _ => rfl))))), ?_⟩
    walk_at "g"
    refine ⟨a, _, dx, _, _, rfl, ha, T.cl_Known, T.nA_Known__idents, rfl, ?_⟩
    refine ⟨idd, _, rfl, DGet.k (k := .inl x) hid, ?_⟩
    rw [ev]
    refine ⟨_, rfl, ?_⟩
    walk_at "g"
    refine ⟨a, _, dx, _, _, rfl, ha, T.cl_Known, T.nA_Known__numbers, rfl, ?_⟩
    walk_at "g"
    refine ⟨a, _, dx, _, _, rfl, ha, T.cl_Known, T.nA_Known__idents, rfl, ?_⟩
    have dg : DGet H idd (V.int x) (some (.ref t)) := by
      rw [← ev]
      exact DGet.k (k := .inl x) hid
    walk_at "g"
    refine ⟨idd, _, rfl, dg, ?_⟩
    have dg2 : DGet H nd (V.ref t) (some (.int w')) := by
      have := DGet.t (k := idk p) hn ht
      rw [hd p, ew] at this
      exact this
    exact ⟨nd, _, rfl, dg2, q⟩
def sp_kput (CK C : Addr) : Sp := fun vs H Q _ => ∃ (a nd : Addr) (v : V) (f : Fm) (ns : List Int) (N : IP → Option Int) (i : Nat) (x w : Int) (p : IP) (M : Ms), vs = [.ref a, .int x, .int w] ∧ KnAt CK C M H a nd v f ns N ∧ ns[i]? = some x ∧ (ids f ns)[i]? = some p ∧ M nd ∧
  ∀ H', Sx (one nd) H H' → Gr H H' → KnAt CK C M H' a nd v f ns (fun y => if y = p then some w else N y) → Q .non H'
theorem ok_kput (T : Txt K mg) : FnOk P w K mg base CX0 2 T.f_Known___setitem__ T.d_Known___setitem__ ["self", "item", "number"] (sp_kput T.C_Key T.C_Known) := by
  have G_is_whole := ok_is_whole (P := P) (w := w) (base := base) T
  refine T.F_Known___setitem__.ok sc_Known___setitem__ (fun vs H Q E h => ?_) (fun cdv A outer s H vs Q E hr h => ?_)
  · obtain ⟨_, _, _, _, _, _, _, _, _, _, _, rfl, _⟩ := h
    rfl
  · obtain ⟨a, nd, v, f, ns, N, i, x, w', p, M, rfl, hT, ex, ep, mn, q⟩ := h
    obtain ⟨dx, kvs, ivs, idd, kv, ha, hn, hd, l, nid, hid, hiv, m, hK, hmem, hR, hg⟩ := id hT
    obtain ⟨t, ev, nt, ht⟩ := hiv i x p ex ep
    have hp : p ∈ ids f ns := List.mem_of_getElem? ep
    obtain ⟨u, eu⟩ : ∃ u, N p = some u := by
      have := (m p).mpr hp
      cases e : N p with
      | none => rw [e] at this; cases this
      | some u => exact ⟨u, rfl⟩
    refine ⟨_, (pss_cons (ps_if (PW.pt (pw_or (pt_not (pt_val (pe_call G_is_whole (hr.mono (by omega)) (by rfl) T.g_is_whole T.F_is_whole.kp T.b_is_whole .nil pass0 (pa_cons (pv 1) pa_nil)))) (pw_or1 (pt_cmp (pc_dnotin (hu_of hr) (pv 1) (pe_fldK (K := K) rfl (pv 0) rfl)))))) (pss_one ps_never) pss_nil)
      (pss_one (ps_dput (hu_of hr) (pe_fldK (K := K) rfl (pv 0) rfl) (pe_dget (hu_of hr) (pe_fldK (K := K) rfl (pv 0) rfl) (pv 1) (fun _ _ => rfl)) (pv 2) rfl))), ?_⟩
    walk_at "g"
    refine ⟨a, _, dx, _, _, rfl, ha, T.cl_Known, T.nA_Known__idents, rfl, ?_⟩
    refine ⟨idd, _, rfl, DGet.k (k := .inl x) hid, ?_⟩
    rw [ev]
    refine ⟨_, rfl, ?_⟩
    walk_at "g"
    refine ⟨a, _, dx, _, _, rfl, ha, T.cl_Known, T.nA_Known__numbers, rfl, ?_⟩
    walk_at "g"
    refine ⟨a, _, dx, _, _, rfl, ha, T.cl_Known, T.nA_Known__idents, rfl, ?_⟩
    have dg : DGet H idd (V.int x) (some (.ref t)) := by
      rw [← ev]
      exact DGet.k (k := .inl x) hid
    walk_at "g"
    refine ⟨idd, _, rfl, dg, ?_⟩
    refine ⟨nd, _, rfl, DPut.t (k := idk p) hn ht (small1000 (by omega)), ?_⟩
    have nda : a ≠ nd := fun z => by rw [z, hn] at ha; cases ha
    have ndi : idd ≠ nd := fun z => nid (by rw [z]; exact mn)
    have sp : Sx (one nd) H (upd H nd (.dT (putK kvs (idk p) (.int w')))) := Sx.put rfl
    refine q _ sp Gr.upd ⟨dx, _, ivs, idd, kv, by rw [upd_ne nda]; exact ha, upd_same, hd.put p w', ?_, nid, by rw [upd_ne ndi]; exact hid, fun j y r h1 h2 => ?_, fun y => ?_, hK.sx (sp.le (one_le mn)), hmem, hR.sx (sp.le (one_le mn)), hg⟩
    · rw [putK_len (y := .int u) (by rw [hd p, eu]; rfl)]
      exact l
    · obtain ⟨t', e1, e2, e3⟩ := hiv j y r h1 h2
      exact ⟨t', e1, e2, by rw [upd_ne (fun z => e2 (by rw [z]; exact mn))]; exact e3⟩
    · by_cases c : y = p
      · subst c
        dsimp only
        rw [if_pos rfl]
        exact ⟨fun _ => hp, fun _ => rfl⟩
      · dsimp only
        rw [if_neg c]
        exact m y
def sp_kiter (K : PySem.W.Frag) (CK C : Addr) : Sp := fun vs H Q _ => ∃ (a nd : Addr) (v : V) (f : Fm) (ns : List Int) (N : IP → Option Int) (M : Ms), vs = [.ref a] ∧ KnAt CK C M H a nd v f ns N ∧
  ∀ t it, v = .ref t → SqT K H t (ns.map V.int) → H it = none → Q (.ref it) (upd H it (ItT t it 0))
theorem ok_kiter (T : Txt K mg) : FnOk P w K mg base CX0 1 T.f_Known___iter__ T.d_Known___iter__ ["self"] (sp_kiter K T.C_Key T.C_Known) := by
  refine T.F_Known___iter__.ok sc_Known___iter__ (fun vs H Q E h => ?_) (fun cdv A outer s H vs Q E hr h => ?_)
  · obtain ⟨_, _, _, _, _, _, _, rfl, _⟩ := h
    rfl
  · obtain ⟨a, nd, v, f, ns, N, M, rfl, hT, q⟩ := h
    obtain ⟨dx, kvs, ivs, idd, kv, ha, hn, hd, l, nid, hid, hiv, m, hK, hmem, hR, hg⟩ := id hT
    obtain ⟨t, o, rfl, nt, ht, o1, o2⟩ := id hR
    have sT : SqT K H t (ns.map V.int) := .inl (.inr ⟨o, ht⟩)
    refine ⟨_, (pss_one (ps_ret (pe_callB call_iterT (by rfl) T.m_iter (by decide +kernel) (pa_cons (pe_fldK (K := K) rfl (pv 0) rfl) pa_nil)))), ?_⟩
    walk_at "g"
    refine ⟨a, _, dx, _, _, rfl, ha, T.cl_Known, T.nA_Known_row, rfl, ?_⟩
    walk_at "g"
    exact ⟨t, _, rfl, sT, fun it hit => q t it rfl sT hit⟩
theorem KnAt.fresh {CK C : Addr} {M : Ms} {H : Hp} {a nd p : Addr} {v : V} {f : Fm} {ns : List Int} {N : IP → Option Int} (h : KnAt CK C M H a nd v f ns N) (hp : H p = none) : KnAt CK C (also M p) H a nd v f ns N := by
  obtain ⟨dx, kvs, ivs, idd, kv, ha, hn, hd, l, nid, hid, hiv, m, hK, hmem, hR, hg⟩ := h
  refine ⟨dx, kvs, ivs, idd, kv, ha, hn, hd, l, fun z => ?_, hid, fun i x q h1 h2 => ?_, m, KeyAt.fresh hp hK, hmem, hR.fresh hp, hg⟩
  · rcases z with z | z
    · exact nid z
    · rw [show idd = p from z, hp] at hid
      cases hid
  · obtain ⟨t, e1, e2, e3⟩ := hiv i x q h1 h2
    refine ⟨t, e1, fun z => ?_, e3⟩
    rcases z with z | z
    · exact e2 z
    · rw [show t = p from z, hp] at e3
      cases e3
theorem KnAt.frame {CK C : Addr} {M F : Ms} {H H' : Hp} {a nd : Addr} {v : V} {f : Fm} {ns : List Int} {N : IP → Option Int} (h : KnAt CK C M H a nd v f ns N) (s : Sx F H H') (le : ∀ c, F c → M c) (na : ¬ F a) (nn : ¬ F nd) : KnAt CK C M H' a nd v f ns N := by
  obtain ⟨dx, kvs, ivs, idd, kv, ha, hn, hd, l, nid, hid, hiv, m, hK, hmem, hR, hg⟩ := h
  refine ⟨dx, kvs, ivs, idd, kv, s _ _ na ha, s _ _ nn hn, hd, l, nid, s _ _ (fun z => nid (le _ z)) hid, fun i x q h1 h2 => ?_, m, hK.sx (s.le le), hmem, hR.sx (s.le le), hg⟩
  obtain ⟨t, e1, e2, e3⟩ := hiv i x q h1 h2
  exact ⟨t, e1, e2, s _ _ (fun z => e2 (le _ z)) e3⟩
theorem KnAt.there {CK C : Addr} {M : Ms} {H : Hp} {a nd : Addr} {v : V} {f : Fm} {ns : List Int} {N : IP → Option Int} (h : KnAt CK C M H a nd v f ns N) : H a ≠ none ∧ H nd ≠ none ∧ a ≠ nd := by
  obtain ⟨dx, kvs, ivs, idd, kv, ha, hn, _⟩ := h
  exact ⟨ne_none ha, ne_none hn, fun z => by rw [z, hn] at ha; cases ha⟩
theorem ThAt.fresh {C : Addr} {M : Ms} {H : Hp} {a nd p : Addr} {v : V} {ns : List Int} {T : Int → Option Int} (h : ThAt C M H a nd v ns T) (hp : H p = none) : ThAt C (also M p) H a nd v ns T := by
  obtain ⟨dx, kvs, ha, hn, hd, l, m, hR, hg⟩ := h
  exact ⟨dx, kvs, ha, hn, hd, l, m, hR.fresh hp, hg⟩
theorem ThAt.frame {C : Addr} {M F : Ms} {H H' : Hp} {a nd : Addr} {v : V} {ns : List Int} {T : Int → Option Int} (h : ThAt C M H a nd v ns T) (s : Sx F H H') (le : ∀ c, F c → M c) (na : ¬ F a) (nn : ¬ F nd) : ThAt C M H' a nd v ns T := by
  obtain ⟨dx, kvs, ha, hn, hd, l, m, hR, hg⟩ := h
  exact ⟨dx, kvs, s _ _ na ha, s _ _ nn hn, hd, l, m, hR.sx (s.le le), hg⟩
theorem ThAt.there {C : Addr} {M : Ms} {H : Hp} {a nd : Addr} {v : V} {ns : List Int} {T : Int → Option Int} (h : ThAt C M H a nd v ns T) : H a ≠ none ∧ H nd ≠ none ∧ a ≠ nd := ⟨by
  obtain ⟨dx, kvs, ha, hn, _⟩ := h
  exact ne_none ha, by
  obtain ⟨dx, kvs, ha, hn, _⟩ := h
  exact ne_none hn, h.ne⟩
def sp_kshow2 (CK C : Addr) : Sp := fun vs H Q _ => ∃ (a nd : Addr) (v0 v : V) (f : Fm) (ms ns : List Int) (N : IP → Option Int) (M : Ms), vs = [.ref a, v] ∧ KnAt CK C M H a nd v0 f ms N ∧ RowF M H v ns ∧ goodRow ns ∧ Mk M H ∧ M a ∧
  ∀ H' nd', Sx (one a) H H' → Gr H H' → H nd' = none → KnAt CK C (also M nd') H' a nd' v f ns (shownN (ids f ns) N) → Q .non H'
theorem ok_kshow2 (T : Txt K mg) : FnOk P w K mg base CX0 11 T.f_Known_show T.d_Known_show ["self", "row"] (sp_kshow2 T.C_Key T.C_Known) := by
  refine (ok_kshow (P := P) (w := w) (base := base) T).imp fun vs H Q E h => ?_
  obtain ⟨a, nd, v0, v, f, ms, ns, N, M, rfl, ⟨dx, kvs, ivs, idd, kv, ha, hn, hd, l, nid, hid, hiv, m, hK, _⟩, hR, hg, hM, ma, q⟩ := h
  exact ⟨a, nd, dx, _, kvs, kv, v, f, ns, N, M, rfl, ha, .inr ⟨_, _, rfl⟩, hn, hd, hK, hR, hg, hM, ma, q⟩
def sp_tshow2 (C : Addr) : Sp := fun vs H Q _ => ∃ (a nd : Addr) (v0 v : V) (ms ns : List Int) (T : Int → Option Int) (M : Ms), vs = [.ref a, v] ∧ ThAt C M H a nd v0 ms T ∧ RowF M H v ns ∧ goodRow ns ∧ M a ∧
  ∀ H' nd', Sx (one a) H H' → Gr H H' → H nd' = none → ThAt C (also M nd') H' a nd' v ns (shownT ns T) → Q .non H'
theorem ok_tshow2 (T : Txt K mg) : FnOk P w K mg base CX0 7 T.f_Things_show T.d_Things_show ["self", "row"] (sp_tshow2 T.C_Things) := by
  refine (ok_tshow (P := P) (w := w) (base := base) T).imp fun vs H Q E h => ?_
  obtain ⟨a, nd, v0, v, ms, ns, Tf, M, rfl, ⟨dx, kvs, ha, hn, hd, l, m, _⟩, hR, hg, ma, q⟩ := h
  exact ⟨a, nd, dx, _, kvs, v, ns, Tf, M, rfl, ha, .inr ⟨_, rfl⟩, hn, hd, hR, hg, fun H' nd' kvs' s g n e1 e2 e3 e4 => q H' nd' s g n ⟨dx, kvs', e1, e2, e3, e4, shownT_mem ns Tf, RowF.sx (RowF.fresh n hR) (s.le (one_le (.inl ma))), hg⟩⟩
end
end D

namespace D
open PySem PySem.Spec PyProof.Rows L2
local macro_rules | `(tactic| walk_at "st") => `(tactic| first | exact SqT.of (by assumption) | exact Or.inl (by assumption) | exact SqT.of upd_same | fail "st")
local macro_rules | `(tactic| walk_at "ixt") => `(tactic| refine ⟨_, _, _, _, rfl, rfl, (by walk_at "st" : SqT _ _ _ _), by rfl, ?_⟩)
local macro_rules | `(tactic| walk_at "sq") => `(tactic| first | exact SqL.of (by assumption) | assumption | exact Or.inl (by assumption) | exact SqL.of upd_same | fail "sq")
local macro_rules | `(tactic| walk_at "ix") => `(tactic| refine ⟨_, _, _, _, rfl, rfl, (by walk_at "sq" : SqL _ _ _ _), by rfl, ?_⟩)
local macro_rules | `(tactic| walk_at "set") => `(tactic| refine ⟨_, _, _, _, rfl, rfl, by first | assumption | exact upd_same, by rfl, ?_⟩)
local macro_rules | `(tactic| walk_at "len") => `(tactic| refine ⟨_, _, rfl, Or.inl (by walk_at "sq" : SqL _ _ _ _), ?_⟩)
local macro_rules | `(tactic| walk_at "g") => `(tactic| repeat (first | refine ⟨_, rfl, ?_⟩ | refine ⟨_, _, rfl, rfl, ?_⟩ | refine ⟨Or.inr (by decide), ?_⟩ | refine ⟨Or.inl (by decide), ?_⟩ | refine ⟨(by decide : (0 : Int) < _), ?_⟩ | refine ⟨(⟨by decide, by decide⟩ : CDiv _ _), ?_⟩ | refine ⟨(⟨by decide, by decide, by decide⟩ : CPow _ _), ?_⟩ | refine Or.inl ⟨_, rfl, ?_⟩ | refine ⟨rfl, ?_⟩ | walk_at "ix" | walk_at "ixt" | walk_at "len" | fail "g"))
local macro_rules | `(tactic| walk_at "if") => `(tactic| refine ite2 (fun e => ?_) (fun e => ?_))
section
variable {P : Program} {w : World} {K : PySem.W.Frag} {mg : Str → Option Value} {base : Heap}
theorem ok_noitem (T : Txt K mg) : FnOk P w K mg base CX0 1 T.f_NoItem___init__ T.d_NoItem___init__ ["self", "item"] (sp_err1 K T.C_NoItem sItem) := by
  refine T.F_NoItem___init__.ok sc_NoItem___init__ (fun vs H Q E h => ?_) (fun cdv A outer s H vs Q E hr h => ?_)
  · obtain ⟨_, _, rfl, _⟩ := h
    rfl
  · obtain ⟨a, y, rfl, ox, no, ha, q⟩ := h
    refine ⟨_, (pss_one (ps_ost (pv 0) (pv 1))), ?_⟩
    walk_at "g"
    exact ⟨a, _, rfl, ox, no, .inl ⟨ha, fun dx h n => q dx h n⟩⟩
def sp_tmiss (C CE : Addr) : Sp := fun vs H Q E => ∃ (a nd : Addr) (v : V) (ns : List Int) (T : Int → Option Int) (x : Int) (M : Ms), vs = [.ref a, .int x] ∧ ThAt C M H a nd v ns T ∧ x ∉ ns ∧
  ∀ d, H d = none → E (.ref CE) (some d) (upd H d (.xd [(sItem, .int x)]))
theorem ok_tmiss (T : Txt K mg) : FnOk P w K mg base (L2.CX P w) 3 T.f_Things___getitem__ T.d_Things___getitem__ ["self", "item"] (sp_tmiss T.C_Things T.C_NoItem) := by
  have G_is_whole := ok_is_whole (P := P) (w := w) (base := base) T
  have G_NoItem___init__ := ok_noitem (P := P) (w := w) (base := base) T
  refine T.F_Things___getitem__.okX sc_Things___getitem__ (fun vs H Q E h => ?_) (fun cdv A outer s H vs Q E hr h => ?_)
  · obtain ⟨_, _, _, _, _, _, _, rfl, _⟩ := h
    rfl
  · obtain ⟨a, nd, v, ns, Tf, x, M, rfl, hT, hx, q⟩ := h
    obtain ⟨dx, kvs, ha, hn, hd, l, m, hR, hg⟩ := id hT
    have ev : valV kvs (.inl x) = none := by
      rw [hd x]
      cases e : Tf x with
      | none => rfl
      | some u => exact absurd ((m x).mp (by rw [e]; rfl)) hx
    refine ⟨_, (pss_cons (ps_if (PW.pt (pw_or (pt_not (pt_val (pe_call G_is_whole (hr.mono (by omega)) (by rfl) T.g_is_whole T.F_is_whole.kp T.b_is_whole .nil pass0 (pa_cons (pv 1) pa_nil)))) (pw_or1 (pt_cmp (pc_dnotin (hu_of hr) (pv 1) (pe_fldK (K := K) rfl (pv 0) rfl)))))) (pss_one (ps_raise rfl (takes_of rfl rfl rfl rfl) (pmk_oex T.ox_NoItem T.iC_NoItem T.tI_NoItem G_NoItem___init__ (hr.mono (by omega)) T.b_NoItem___init__ .nil pass0 (by rfl) T.g_NoItem (pa_cons (pv 1) pa_nil)))) pss_nil)
      (pss_one (ps_ret (pe_dget (hu_of hr) (pe_fldK (K := K) rfl (pv 0) rfl) (pv 1) (fun _ _ => rfl))))), ?_⟩
    walk_at "g"
    refine ⟨a, _, dx, _, _, rfl, ha, T.cl_Things, T.nA_Things__numbers, rfl, ?_⟩
    refine ⟨nd, _, rfl, DGet.k (k := .inl x) hn, ?_⟩
    rw [ev]
    refine ⟨_, rfl, ?_⟩
    walk_at "g"
    exact mk_err1 T.ox_NoItem T.nf_NoItem_item q
def sp_tputmiss (C CE : Addr) : Sp := fun vs H Q E => ∃ (a nd : Addr) (v : V) (ns : List Int) (T : Int → Option Int) (x w : Int) (M : Ms), vs = [.ref a, .int x, .int w] ∧ ThAt C M H a nd v ns T ∧ x ∉ ns ∧
  ∀ d, H d = none → E (.ref CE) (some d) (upd H d (.xd [(sItem, .int x)]))
theorem ok_tputmiss (T : Txt K mg) : FnOk P w K mg base (L2.CX P w) 3 T.f_Things___setitem__ T.d_Things___setitem__ ["self", "item", "number"] (sp_tputmiss T.C_Things T.C_NoItem) := by
  have G_is_whole := ok_is_whole (P := P) (w := w) (base := base) T
  have G_NoItem___init__ := ok_noitem (P := P) (w := w) (base := base) T
  refine T.F_Things___setitem__.okX sc_Things___setitem__ (fun vs H Q E h => ?_) (fun cdv A outer s H vs Q E hr h => ?_)
  · obtain ⟨_, _, _, _, _, _, _, _, rfl, _⟩ := h
    rfl
  · obtain ⟨a, nd, v, ns, Tf, x, w', M, rfl, hT, hx, q⟩ := h
    obtain ⟨dx, kvs, ha, hn, hd, l, m, hR, hg⟩ := id hT
    have ev : valV kvs (.inl x) = none := by
      rw [hd x]
      cases e : Tf x with
      | none => rfl
      | some u => exact absurd ((m x).mp (by rw [e]; rfl)) hx
    refine ⟨_, (pss_cons (ps_if (PW.pt (pw_or (pt_not (pt_val (pe_call G_is_whole (hr.mono (by omega)) (by rfl) T.g_is_whole T.F_is_whole.kp T.b_is_whole .nil pass0 (pa_cons (pv 1) pa_nil)))) (pw_or1 (pt_cmp (pc_dnotin (hu_of hr) (pv 1) (pe_fldK (K := K) rfl (pv 0) rfl)))))) (pss_one (ps_raise rfl (takes_of rfl rfl rfl rfl) (pmk_oex T.ox_NoItem T.iC_NoItem T.tI_NoItem G_NoItem___init__ (hr.mono (by omega)) T.b_NoItem___init__ .nil pass0 (by rfl) T.g_NoItem (pa_cons (pv 1) pa_nil)))) pss_nil)
      (pss_one (ps_dput (hu_of hr) (pe_fldK (K := K) rfl (pv 0) rfl) (pv 1) (pv 2) rfl))), ?_⟩
    walk_at "g"
    refine ⟨a, _, dx, _, _, rfl, ha, T.cl_Things, T.nA_Things__numbers, rfl, ?_⟩
    refine ⟨nd, _, rfl, DGet.k (k := .inl x) hn, ?_⟩
    rw [ev]
    refine ⟨_, rfl, ?_⟩
    walk_at "g"
    exact mk_err1 T.ox_NoItem T.nf_NoItem_item q
def sp_kmiss (CK C CE : Addr) : Sp := fun vs H Q E => ∃ (a nd : Addr) (v : V) (f : Fm) (ns : List Int) (N : IP → Option Int) (x : Int) (M : Ms), vs = [.ref a, .int x] ∧ KnAt CK C M H a nd v f ns N ∧ x ∉ ns ∧
  ∀ d, H d = none → E (.ref CE) (some d) (upd H d (.xd [(sItem, .int x)]))
theorem ok_kmiss (T : Txt K mg) : FnOk P w K mg base (L2.CX P w) 3 T.f_Known___getitem__ T.d_Known___getitem__ ["self", "item"] (sp_kmiss T.C_Key T.C_Known T.C_NoItem) := by
  have G_is_whole := ok_is_whole (P := P) (w := w) (base := base) T
  have G_NoItem___init__ := ok_noitem (P := P) (w := w) (base := base) T
  refine T.F_Known___getitem__.okX sc_Known___getitem__ (fun vs H Q E h => ?_) (fun cdv A outer s H vs Q E hr h => ?_)
  · obtain ⟨_, _, _, _, _, _, _, _, rfl, _⟩ := h
    rfl
  · obtain ⟨a, nd, v, f, ns, N, x, M, rfl, hT, hx, q⟩ := h
    obtain ⟨dx, kvs, ivs, idd, kv, ha, hn, hd, l, nid, hid, hiv, m, hK, hmem, hR, hg⟩ := id hT
    have ev : valV ivs (.inl x) = none := by
      cases e : valV ivs (.inl x) with
      | none => rfl
      | some u => exact absurd (hmem x (by rw [e]; rfl)) hx
    refine ⟨_, (pss_cons (ps_if (PW.pt (pw_or (pt_not (pt_val (pe_call G_is_whole (hr.mono (by omega)) (by rfl) T.g_is_whole T.F_is_whole.kp T.b_is_whole .nil pass0 (pa_cons (pv 1) pa_nil)))) (pw_or1 (pt_cmp (pc_dnotin (hu_of hr) (pv 1) (pe_fldK (K := K) rfl (pv 0) rfl)))))) (pss_one (ps_raise rfl (takes_of rfl rfl rfl rfl) (pmk_oex T.ox_NoItem T.iC_NoItem T.tI_NoItem G_NoItem___init__ (hr.mono (by omega)) T.b_NoItem___init__ .nil pass0 (by rfl) T.g_NoItem (pa_cons (pv 1) pa_nil)))) pss_nil)
      (pss_one (ps_ret (pe_dget (hu_of hr) (pe_fldK (K := K) rfl (pv 0) rfl) (pe_dget (hu_of hr) (pe_fldK (K := K) rfl (pv 0) rfl) (pv 1) (fun _ _ => rfl)) (fun _ _ => rfl))))), ?_⟩
    walk_at "g"
    refine ⟨a, _, dx, _, _, rfl, ha, T.cl_Known, T.nA_Known__idents, rfl, ?_⟩
    refine ⟨idd, _, rfl, DGet.k (k := .inl x) hid, ?_⟩
    rw [ev]
    refine ⟨_, rfl, ?_⟩
    walk_at "g"
    exact mk_err1 T.ox_NoItem T.nf_NoItem_item q
def sp_kputmiss (CK C CE : Addr) : Sp := fun vs H Q E => ∃ (a nd : Addr) (v : V) (f : Fm) (ns : List Int) (N : IP → Option Int) (x w : Int) (M : Ms), vs = [.ref a, .int x, .int w] ∧ KnAt CK C M H a nd v f ns N ∧ x ∉ ns ∧
  ∀ d, H d = none → E (.ref CE) (some d) (upd H d (.xd [(sItem, .int x)]))
theorem ok_kputmiss (T : Txt K mg) : FnOk P w K mg base (L2.CX P w) 3 T.f_Known___setitem__ T.d_Known___setitem__ ["self", "item", "number"] (sp_kputmiss T.C_Key T.C_Known T.C_NoItem) := by
  have G_is_whole := ok_is_whole (P := P) (w := w) (base := base) T
  have G_NoItem___init__ := ok_noitem (P := P) (w := w) (base := base) T
  refine T.F_Known___setitem__.okX sc_Known___setitem__ (fun vs H Q E h => ?_) (fun cdv A outer s H vs Q E hr h => ?_)
  · obtain ⟨_, _, _, _, _, _, _, _, _, rfl, _⟩ := h
    rfl
  · obtain ⟨a, nd, v, f, ns, N, x, w', M, rfl, hT, hx, q⟩ := h
    obtain ⟨dx, kvs, ivs, idd, kv, ha, hn, hd, l, nid, hid, hiv, m, hK, hmem, hR, hg⟩ := id hT
    have ev : valV ivs (.inl x) = none := by
      cases e : valV ivs (.inl x) with
      | none => rfl
      | some u => exact absurd (hmem x (by rw [e]; rfl)) hx
    refine ⟨_, (pss_cons (ps_if (PW.pt (pw_or (pt_not (pt_val (pe_call G_is_whole (hr.mono (by omega)) (by rfl) T.g_is_whole T.F_is_whole.kp T.b_is_whole .nil pass0 (pa_cons (pv 1) pa_nil)))) (pw_or1 (pt_cmp (pc_dnotin (hu_of hr) (pv 1) (pe_fldK (K := K) rfl (pv 0) rfl)))))) (pss_one (ps_raise rfl (takes_of rfl rfl rfl rfl) (pmk_oex T.ox_NoItem T.iC_NoItem T.tI_NoItem G_NoItem___init__ (hr.mono (by omega)) T.b_NoItem___init__ .nil pass0 (by rfl) T.g_NoItem (pa_cons (pv 1) pa_nil)))) pss_nil)
      (pss_one (ps_dput (hu_of hr) (pe_fldK (K := K) rfl (pv 0) rfl) (pe_dget (hu_of hr) (pe_fldK (K := K) rfl (pv 0) rfl) (pv 1) (fun _ _ => rfl)) (pv 2) rfl))), ?_⟩
    walk_at "g"
    refine ⟨a, _, dx, _, _, rfl, ha, T.cl_Known, T.nA_Known__idents, rfl, ?_⟩
    refine ⟨idd, _, rfl, DGet.k (k := .inl x) hid, ?_⟩
    rw [ev]
    refine ⟨_, rfl, ?_⟩
    walk_at "g"
    exact mk_err1 T.ox_NoItem T.nf_NoItem_item q
/-- the class of a caught error -/
theorem exm_own {K : PySem.W.Frag} {D C : Addr} {b : Bool} (be : PySem.W.subIn K (.ref C) (.type "BaseException") = some true) (hd : PySem.W.hasDictIn K C = true) (ty : PySem.W.typeIn K (.ref C) = some (.type "type")) (h : PySem.W.subIn K (.ref D) (.ref C) = some b) : PySem.W.exmOne K (.ref D) (.ref C) = some b := by
  obtain ⟨cd, hc, _⟩ := PySem.W.any_some hd
  unfold PySem.W.exmOne
  rw [if_pos (by rw [be]; rfl)]
  show (if ((PySem.W.clsIn K C).isSome && PySem.W.typeIn K (.ref C) == some (.type "type")) = true then PySem.W.subIn K (.ref D) (.ref C) else none) = some b
  rw [if_pos (by rw [hc, ty]; rfl), h]
theorem kit_any2 {K : PySem.W.Frag} {D A B : Addr} (h1 : PySem.W.kitOne K (.ref D) (.ref A) = some false) (h2 : PySem.W.kitOne K (.ref D) (.ref B) = some false) : PySem.W.kitAny K (.ref D) ([A, B].map Value.ref) = some false := by
  unfold PySem.W.kitAny
  dsimp only [List.map]
  rw [h1]
  unfold PySem.W.kitAny
  dsimp only [List.map]
  rw [h2]
  rfl
/-- a box of numbers -/
def BoxAt (T : Txt K mg) (o : Option Fm) (M : Ms) (H : Hp) (a nd : Addr) (v : V) (ns : List Int) (N : Int ⊕ IP → Option Int) : Prop := match o with
  | none => ThAt T.C_Things M H a nd v ns (fun x => N (.inl x))
  | some f => KnAt T.C_Key T.C_Known M H a nd v f ns (fun p => N (.inr p))
def sp_notread (T : Txt K mg) : Sp := fun vs H Q _ => ∃ (o : Option Fm) (a nd : Addr) (v : V) (ns : List Int) (N : Int ⊕ IP → Option Int) (x : Int) (M : Ms), vs = [.ref a, .int x] ∧ BoxAt T o M H a nd v ns N ∧ x ∉ ns ∧ ∀ H', Same H H' → Q (.bl true) H'
theorem ok_notread (T : Txt K mg) : FnOk P w K mg base CX0 6 T.f__law_not_read T.d__law_not_read ["_law_box", "_law_item"] (sp_notread T) := by
  refine T.F__law_not_read.ok sc__law_not_read (fun vs H Q E h => ?_) (fun cdv A outer s H vs Q E hr h => ?_)
  · obtain ⟨_, _, _, _, _, _, _, _, rfl, _⟩ := h
    rfl
  · obtain ⟨o, a, nd, v, ns, N, x, M, rfl, hB, hx, q⟩ := h
    cases o with
    | none =>
      have G_Things___getitem__ := ok_tmiss (P := P) (w := w) (base := base) T
      refine ⟨_, (pss_cons (ps_try_as (i := 3) rfl rfl sc__law_not_read.nd rfl rfl ⟨rfl, by decide, .inl T.g_ScreenError⟩ takes0 (fun W pn xe tk _ => (pss_one (ps_set (i := 2) sc__law_not_read.nd rfl (Or.inl rfl) (pe_ownIxS (pv 0) (pv 1) T.a_Things___getitem__ T.n_Things___getitem__ T.i_Things___getitem__ G_Things___getitem__ T.b_Things___getitem__ (hr.mono (by omega)) (fun σ => passAt tk σ) (fun _ _ => by with_unfolding_all rfl))))) (fun a oe cls d pn hz hf => (pss_one (ps_ret (pe_and (pe_callB (call_isX hz hf) (by rfl) T.m_isinstance (by decide +kernel) (pa_cons (pv 3) (pa_cons (pe_glob (v := .ref T.C_NoItem) rfl T.g_NoItem rfl) pa_nil))) (pe_and (pe_not (pe_callB (call_isXT hz hf) (by rfl) T.m_isinstance (by decide +kernel) (pa_cons (pv 3) (pa_cons (pe_tup (pa_cons (pe_glob (v := .ref T.C_NoName) rfl T.g_NoName rfl) (pa_cons (pe_glob (v := .ref T.C_BadRow) rfl T.g_BadRow rfl) pa_nil))) pa_nil)))) (pe_one (pe_cmpR op_eq (pe_xf T.xf_NoItem T.nf_NoItem_item hz hf (pv 3)) (pv 1) (nomark _)))))))))
      (pss_one (ps_ret pe_bl))), ?_⟩
      have hT : ThAt T.C_Things M H a nd v ns (fun x => N (.inl x)) := hB
      obtain ⟨dx, kvs, ha, hn, hd', l, m, hR, hg⟩ := id hT
      walk_at "g"
      refine ⟨a, dx, _, rfl, ha, a, nd, v, ns, _, x, M, rfl, hT, hx, fun d hd => ?_⟩
      refine ⟨true, exm_own T.be_ScreenError T.hd_ScreenError T.ty_ScreenError T.s_NoItem_ScreenError, fun _ ex hex => ?_, fun z => by cases z⟩
      have sd : Same H (upd H d (.xd [(sItem, .int x)])) := same_new hd
      walk_at "g"
      refine ⟨T.C_NoItem, d, _, .ref T.C_NoItem, .ref T.C_NoItem, true, rfl, rfl, T.is_NoItem, upd_same, rfl, fun u r => r, kit_self, ?_⟩
      walk_at "g"
      refine ⟨szK rfl, fun p hp => ?_⟩
      have dp : d ≠ p := fun z => by rw [← z, upd_same] at hp; cases hp
      have ed : ∀ u, upd (upd H d (.xd [(sItem, .int x)])) p u d = some (.xd [(sItem, .int x)]) := fun u => by rw [upd_ne dp, upd_same]
      refine ⟨T.C_NoItem, d, p, _, [T.C_NoName, T.C_BadRow], false, rfl, rfl, T.is_NoItem, ed _, rfl, upd_same, ?_, ?_⟩
      · exact kit_any2 (kit_err T.hd_NoName T.ty_NoName T.ne_NoItem_NoName T.s_NoItem_NoName) (kit_err T.hd_BadRow T.ty_BadRow T.ne_NoItem_BadRow T.s_NoItem_BadRow)
      walk_at "g"
      refine ⟨d, _, _, rfl, ed _, rfl, ?_⟩
      walk_at "g"
      rw [show decide (V.int x = V.int x) = true from decide_eq_true rfl]
      exact q _ (sd.trans (same_new hp))
    | some f =>
      have G_Known___getitem__ := ok_kmiss (P := P) (w := w) (base := base) T
      refine ⟨_, (pss_cons (ps_try_as (i := 3) rfl rfl sc__law_not_read.nd rfl rfl ⟨rfl, by decide, .inl T.g_ScreenError⟩ takes0 (fun W pn xe tk _ => (pss_one (ps_set (i := 2) sc__law_not_read.nd rfl (Or.inl rfl) (pe_ownIxS (pv 0) (pv 1) T.a_Known___getitem__ T.n_Known___getitem__ T.i_Known___getitem__ G_Known___getitem__ T.b_Known___getitem__ (hr.mono (by omega)) (fun σ => passAt tk σ) (fun _ _ => by with_unfolding_all rfl))))) (fun a oe cls d pn hz hf => (pss_one (ps_ret (pe_and (pe_callB (call_isX hz hf) (by rfl) T.m_isinstance (by decide +kernel) (pa_cons (pv 3) (pa_cons (pe_glob (v := .ref T.C_NoItem) rfl T.g_NoItem rfl) pa_nil))) (pe_and (pe_not (pe_callB (call_isXT hz hf) (by rfl) T.m_isinstance (by decide +kernel) (pa_cons (pv 3) (pa_cons (pe_tup (pa_cons (pe_glob (v := .ref T.C_NoName) rfl T.g_NoName rfl) (pa_cons (pe_glob (v := .ref T.C_BadRow) rfl T.g_BadRow rfl) pa_nil))) pa_nil)))) (pe_one (pe_cmpR op_eq (pe_xf T.xf_NoItem T.nf_NoItem_item hz hf (pv 3)) (pv 1) (nomark _)))))))))
      (pss_one (ps_ret pe_bl))), ?_⟩
      have hT : KnAt T.C_Key T.C_Known M H a nd v f ns (fun p => N (.inr p)) := hB
      obtain ⟨dx, kvs, ivs, idd, kv, ha, hn, hd', l, nid, hid, hiv, m, hK, hmem, hR, hg⟩ := id hT
      walk_at "g"
      refine ⟨a, dx, _, rfl, ha, a, nd, v, f, ns, _, x, M, rfl, hT, hx, fun d hd => ?_⟩
      refine ⟨true, exm_own T.be_ScreenError T.hd_ScreenError T.ty_ScreenError T.s_NoItem_ScreenError, fun _ ex hex => ?_, fun z => by cases z⟩
      have sd : Same H (upd H d (.xd [(sItem, .int x)])) := same_new hd
      walk_at "g"
      refine ⟨T.C_NoItem, d, _, .ref T.C_NoItem, .ref T.C_NoItem, true, rfl, rfl, T.is_NoItem, upd_same, rfl, fun u r => r, kit_self, ?_⟩
      walk_at "g"
      refine ⟨szK rfl, fun p hp => ?_⟩
      have dp : d ≠ p := fun z => by rw [← z, upd_same] at hp; cases hp
      have ed : ∀ u, upd (upd H d (.xd [(sItem, .int x)])) p u d = some (.xd [(sItem, .int x)]) := fun u => by rw [upd_ne dp, upd_same]
      refine ⟨T.C_NoItem, d, p, _, [T.C_NoName, T.C_BadRow], false, rfl, rfl, T.is_NoItem, ed _, rfl, upd_same, ?_, ?_⟩
      · exact kit_any2 (kit_err T.hd_NoName T.ty_NoName T.ne_NoItem_NoName T.s_NoItem_NoName) (kit_err T.hd_BadRow T.ty_BadRow T.ne_NoItem_BadRow T.s_NoItem_BadRow)
      walk_at "g"
      refine ⟨d, _, _, rfl, ed _, rfl, ?_⟩
      walk_at "g"
      rw [show decide (V.int x = V.int x) = true from decide_eq_true rfl]
      exact q _ (sd.trans (same_new hp))
def sp_notset (T : Txt K mg) : Sp := fun vs H Q _ => ∃ (o : Option Fm) (a nd : Addr) (v : V) (ns : List Int) (N : Int ⊕ IP → Option Int) (x : Int) (M : Ms), vs = [.ref a, .int x] ∧ BoxAt T o M H a nd v ns N ∧ x ∉ ns ∧ ∀ H', Same H H' → Q (.bl true) H'
theorem ok_notset (T : Txt K mg) : FnOk P w K mg base CX0 6 T.f__law_not_set T.d__law_not_set ["_law_box", "_law_item"] (sp_notset T) := by
  refine T.F__law_not_set.ok sc__law_not_set (fun vs H Q E h => ?_) (fun cdv A outer s H vs Q E hr h => ?_)
  · obtain ⟨_, _, _, _, _, _, _, _, rfl, _⟩ := h
    rfl
  · obtain ⟨o, a, nd, v, ns, N, x, M, rfl, hB, hx, q⟩ := h
    cases o with
    | none =>
      have G_Things___setitem__ := ok_tputmiss (P := P) (w := w) (base := base) T
      refine ⟨_, (pss_cons (ps_try_as (i := 2) rfl rfl sc__law_not_set.nd rfl rfl ⟨rfl, by decide, .inl T.g_ScreenError⟩ takes0 (fun W pn xe tk _ => (pss_one (ps_ownPutS (pv 0) (pv 1) pe_int T.ns_Things T.a_Things___setitem__ T.i_Things___setitem__ G_Things___setitem__ T.b_Things___setitem__ (hr.mono (by omega)) (fun σ => passAt tk σ) rfl))) (fun a oe cls d pn hz hf => (pss_one (ps_ret (pe_and (pe_callB (call_isX hz hf) (by rfl) T.m_isinstance (by decide +kernel) (pa_cons (pv 2) (pa_cons (pe_glob (v := .ref T.C_NoItem) rfl T.g_NoItem rfl) pa_nil))) (pe_and (pe_not (pe_callB (call_isXT hz hf) (by rfl) T.m_isinstance (by decide +kernel) (pa_cons (pv 2) (pa_cons (pe_tup (pa_cons (pe_glob (v := .ref T.C_NoName) rfl T.g_NoName rfl) (pa_cons (pe_glob (v := .ref T.C_BadRow) rfl T.g_BadRow rfl) pa_nil))) pa_nil)))) (pe_one (pe_cmpR op_eq (pe_xf T.xf_NoItem T.nf_NoItem_item hz hf (pv 2)) (pv 1) (nomark _)))))))))
      (pss_one (ps_ret pe_bl))), ?_⟩
      have hT : ThAt T.C_Things M H a nd v ns (fun x => N (.inl x)) := hB
      obtain ⟨dx, kvs, ha, hn, hd', l, m, hR, hg⟩ := id hT
      walk_at "g"
      refine ⟨a, dx, _, rfl, ha, a, nd, v, ns, _, x, _, M, rfl, hT, hx, fun d hd => ?_⟩
      refine ⟨true, exm_own T.be_ScreenError T.hd_ScreenError T.ty_ScreenError T.s_NoItem_ScreenError, fun _ ex hex => ?_, fun z => by cases z⟩
      have sd : Same H (upd H d (.xd [(sItem, .int x)])) := same_new hd
      walk_at "g"
      refine ⟨T.C_NoItem, d, _, .ref T.C_NoItem, .ref T.C_NoItem, true, rfl, rfl, T.is_NoItem, upd_same, rfl, fun u r => r, kit_self, ?_⟩
      walk_at "g"
      refine ⟨szK rfl, fun p hp => ?_⟩
      have dp : d ≠ p := fun z => by rw [← z, upd_same] at hp; cases hp
      have ed : ∀ u, upd (upd H d (.xd [(sItem, .int x)])) p u d = some (.xd [(sItem, .int x)]) := fun u => by rw [upd_ne dp, upd_same]
      refine ⟨T.C_NoItem, d, p, _, [T.C_NoName, T.C_BadRow], false, rfl, rfl, T.is_NoItem, ed _, rfl, upd_same, ?_, ?_⟩
      · exact kit_any2 (kit_err T.hd_NoName T.ty_NoName T.ne_NoItem_NoName T.s_NoItem_NoName) (kit_err T.hd_BadRow T.ty_BadRow T.ne_NoItem_BadRow T.s_NoItem_BadRow)
      walk_at "g"
      refine ⟨d, _, _, rfl, ed _, rfl, ?_⟩
      walk_at "g"
      rw [show decide (V.int x = V.int x) = true from decide_eq_true rfl]
      exact q _ (sd.trans (same_new hp))
    | some f =>
      have G_Known___setitem__ := ok_kputmiss (P := P) (w := w) (base := base) T
      refine ⟨_, (pss_cons (ps_try_as (i := 2) rfl rfl sc__law_not_set.nd rfl rfl ⟨rfl, by decide, .inl T.g_ScreenError⟩ takes0 (fun W pn xe tk _ => (pss_one (ps_ownPutS (pv 0) (pv 1) pe_int T.ns_Known T.a_Known___setitem__ T.i_Known___setitem__ G_Known___setitem__ T.b_Known___setitem__ (hr.mono (by omega)) (fun σ => passAt tk σ) rfl))) (fun a oe cls d pn hz hf => (pss_one (ps_ret (pe_and (pe_callB (call_isX hz hf) (by rfl) T.m_isinstance (by decide +kernel) (pa_cons (pv 2) (pa_cons (pe_glob (v := .ref T.C_NoItem) rfl T.g_NoItem rfl) pa_nil))) (pe_and (pe_not (pe_callB (call_isXT hz hf) (by rfl) T.m_isinstance (by decide +kernel) (pa_cons (pv 2) (pa_cons (pe_tup (pa_cons (pe_glob (v := .ref T.C_NoName) rfl T.g_NoName rfl) (pa_cons (pe_glob (v := .ref T.C_BadRow) rfl T.g_BadRow rfl) pa_nil))) pa_nil)))) (pe_one (pe_cmpR op_eq (pe_xf T.xf_NoItem T.nf_NoItem_item hz hf (pv 2)) (pv 1) (nomark _)))))))))
      (pss_one (ps_ret pe_bl))), ?_⟩
      have hT : KnAt T.C_Key T.C_Known M H a nd v f ns (fun p => N (.inr p)) := hB
      obtain ⟨dx, kvs, ivs, idd, kv, ha, hn, hd', l, nid, hid, hiv, m, hK, hmem, hR, hg⟩ := id hT
      walk_at "g"
      refine ⟨a, dx, _, rfl, ha, a, nd, v, f, ns, _, x, _, M, rfl, hT, hx, fun d hd => ?_⟩
      refine ⟨true, exm_own T.be_ScreenError T.hd_ScreenError T.ty_ScreenError T.s_NoItem_ScreenError, fun _ ex hex => ?_, fun z => by cases z⟩
      have sd : Same H (upd H d (.xd [(sItem, .int x)])) := same_new hd
      walk_at "g"
      refine ⟨T.C_NoItem, d, _, .ref T.C_NoItem, .ref T.C_NoItem, true, rfl, rfl, T.is_NoItem, upd_same, rfl, fun u r => r, kit_self, ?_⟩
      walk_at "g"
      refine ⟨szK rfl, fun p hp => ?_⟩
      have dp : d ≠ p := fun z => by rw [← z, upd_same] at hp; cases hp
      have ed : ∀ u, upd (upd H d (.xd [(sItem, .int x)])) p u d = some (.xd [(sItem, .int x)]) := fun u => by rw [upd_ne dp, upd_same]
      refine ⟨T.C_NoItem, d, p, _, [T.C_NoName, T.C_BadRow], false, rfl, rfl, T.is_NoItem, ed _, rfl, upd_same, ?_, ?_⟩
      · exact kit_any2 (kit_err T.hd_NoName T.ty_NoName T.ne_NoItem_NoName T.s_NoItem_NoName) (kit_err T.hd_BadRow T.ty_BadRow T.ne_NoItem_BadRow T.s_NoItem_BadRow)
      walk_at "g"
      refine ⟨d, _, _, rfl, ed _, rfl, ?_⟩
      walk_at "g"
      rw [show decide (V.int x = V.int x) = true from decide_eq_true rfl]
      exact q _ (sd.trans (same_new hp))
end
end D

namespace D
open PySem PySem.Spec PyProof.Rows L2
local macro_rules | `(tactic| walk_at "st") => `(tactic| first | exact SqT.of (by assumption) | exact Or.inl (by assumption) | exact SqT.of upd_same | fail "st")
local macro_rules | `(tactic| walk_at "ixt") => `(tactic| refine ⟨_, _, _, _, rfl, rfl, (by walk_at "st" : SqT _ _ _ _), by rfl, ?_⟩)
local macro_rules | `(tactic| walk_at "sq") => `(tactic| first | exact SqL.of (by assumption) | assumption | exact Or.inl (by assumption) | exact SqL.of upd_same | fail "sq")
local macro_rules | `(tactic| walk_at "ix") => `(tactic| refine ⟨_, _, _, _, rfl, rfl, (by walk_at "sq" : SqL _ _ _ _), by rfl, ?_⟩)
local macro_rules | `(tactic| walk_at "set") => `(tactic| refine ⟨_, _, _, _, rfl, rfl, by first | assumption | exact upd_same, by rfl, ?_⟩)
local macro_rules | `(tactic| walk_at "len") => `(tactic| refine ⟨_, _, rfl, Or.inl (by walk_at "sq" : SqL _ _ _ _), ?_⟩)
local macro_rules | `(tactic| walk_at "g") => `(tactic| repeat (first | refine ⟨_, rfl, ?_⟩ | refine ⟨_, _, rfl, rfl, ?_⟩ | refine ⟨Or.inr (by decide), ?_⟩ | refine ⟨Or.inl (by decide), ?_⟩ | refine ⟨(by decide : (0 : Int) < _), ?_⟩ | refine ⟨(⟨by decide, by decide⟩ : CDiv _ _), ?_⟩ | refine ⟨(⟨by decide, by decide, by decide⟩ : CPow _ _), ?_⟩ | refine Or.inl ⟨_, rfl, ?_⟩ | refine ⟨rfl, ?_⟩ | walk_at "ix" | walk_at "ixt" | walk_at "len" | fail "g"))
local macro_rules | `(tactic| walk_at "if") => `(tactic| refine ite2 (fun e => ?_) (fun e => ?_))
section
variable {P : Program} {w : World} {K : PySem.W.Frag} {mg : Str → Option Value} {base : Heap}
def FormAt (o : Option Fm) (M : Ms) (H : Hp) (fv : V) : Prop := match o with
  | none => fv = .non
  | some f => Rp M H fv f.enc ∧ goodKey f
theorem FormAt.sx {o : Option Fm} {M : Ms} {H H' : Hp} {fv : V} (h : FormAt o M H fv) (s : Sx M H H') : FormAt o M H' fv := by
  cases o with
  | none => exact h
  | some f => exact ⟨Rp.sx s h.1, h.2⟩
theorem FormAt.fresh {o : Option Fm} {M : Ms} {H : Hp} {fv : V} {p : Addr} (h : FormAt o M H fv) (hp : H p = none) : FormAt o (also M p) H fv := by
  cases o with
  | none => exact h
  | some f => exact ⟨h.1.fresh hp, h.2⟩
def MarksAt (o : Option Fm) (M : Ms) (H : Hp) (ys : List V) (ns : List Int) : Prop := match o with
  | none => ys = ns.map V.int
  | some f => ys.length = ns.length ∧ ∀ (i : Nat) (p : IP), (ids f ns)[i]? = some p → ∃ t, ys[i]? = some (.ref t) ∧ ¬ M t ∧ H t = some (.tup [.int p.1, .int p.2])
theorem MarksAt.len {o : Option Fm} {M : Ms} {H : Hp} {ys : List V} {ns : List Int} (h : MarksAt o M H ys ns) : ys.length = ns.length := by
  cases o with
  | none => rw [show ys = ns.map V.int from h, List.length_map]
  | some f => exact h.1
def DictO (o : Option Fm) (H : Hp) (d : Addr) (N : Int ⊕ IP → Option Int) : Prop := match o with
  | none => ∃ kvs, H d = some (.dK kvs) ∧ DI kvs (fun x => N (.inl x)) ∧ kvs.length ≤ 5
  | some _ => ∃ kvs, H d = some (.dT kvs) ∧ DN kvs (fun p => N (.inr p)) ∧ kvs.length ≤ 5
def shownO (o : Option Fm) (ns : List Int) (N : Int ⊕ IP → Option Int) : Int ⊕ IP → Option Int := match o with
  | none => Sum.elim (shownT ns (fun x => N (.inl x))) (fun _ => none)
  | some f => Sum.elim (fun _ => none) (shownN (ids f ns) (fun p => N (.inr p)))
theorem tup_pairs {M : Ms} {H : Hp} {f : Fm} {ns : List Int} {xs : List V} (rx : RpAll M H xs ((ids f ns).map pD)) : MarksAt (some f) M H xs ns := by
  have l := rx.length
  rw [List.length_map, ids_len] at l
  refine ⟨l, fun i p hp => ?_⟩
  obtain ⟨u, hu, ru⟩ := rx.getD (i := i) (d := pD p) (by rw [List.getElem?_map, hp]; rfl)
  obtain ⟨t, ys, rfl, nt, ht, ry⟩ := Rp.tupX (show Rp M H u (.tuple ([p.1, p.2].map PyData.int)) from ru)
  have ey := ry.ofInts
  subst ey
  exact ⟨t, hu, nt, ht⟩
def sp_known : Sp := fun vs H Q _ => ∃ (o : Option Fm) (fv v : V) (ns : List Int) (M : Ms), vs = [fv, v] ∧ FormAt o M H fv ∧ RowF M H v ns ∧ goodRow ns ∧ Mk M H ∧
  ∀ H' l ys, Same H H' → ¬ M l → Rd H' l (.lst ys) → MarksAt o M H' ys ns → Q (.ref l) H'
theorem ok_known (T : Txt K mg) : FnOk P w K mg base CX0 8 T.f__law_known_by T.d__law_known_by ["_law_form_here", "_law_row_here"] sp_known := by
  have G__law_idents := ok_lids (P := P) (w := w) (base := base) T
  refine T.F__law_known_by.ok sc__law_known_by (fun vs H Q E h => ?_) (fun cdv A outer s H vs Q E hr h => ?_)
  · obtain ⟨_, _, _, _, _, rfl, _⟩ := h
    rfl
  · obtain ⟨o, fv, v, ns, M, rfl, hF, hR, hg, hM, q⟩ := h
    cases o with
    | none =>
      obtain rfl : fv = .non := hF
      obtain ⟨b, ob, rfl, nb, hb, o1, o2⟩ := id hR
      refine ⟨_, (pss_cons (ps_if (pt_cmpR op_isN (pv 0) pe_non (nomark _)) (pss_one (ps_ret (pe_callTy (call_listK (K := K) rfl) (by rfl) T.m_list (by decide +kernel) (pa_cons (pv 1) pa_nil)))) pss_nil)
      (pss_one (ps_ret (pe_call G__law_idents (hr.mono (by omega)) (by rfl) T.g__law_idents T.F__law_idents.kp T.b__law_idents .nil pass0 (pa_cons (pv 0) (pa_cons (pv 1) pa_nil)))))), ?_⟩
      walk_at "g"
      refine ⟨b, _, rfl, .inr (.inl (.inr ⟨ob, hb⟩)), fun l hl => ?_⟩
      exact q _ l _ (same_new hl) (hM.out hl) (.inl upd_same) rfl
    | some f =>
      refine ⟨_, (pss_cons (ps_if (pt_cmpR op_isN (pv 0) pe_non (nomark _)) (pss_one (ps_ret (pe_callTy (call_listK (K := K) rfl) (by rfl) T.m_list (by decide +kernel) (pa_cons (pv 1) pa_nil)))) pss_nil)
      (pss_one (ps_ret (pe_call G__law_idents (hr.mono (by omega)) (by rfl) T.g__law_idents T.F__law_idents.kp T.b__law_idents .nil pass0 (pa_cons (pv 0) (pa_cons (pv 1) pa_nil)))))), ?_⟩
      have nfv : ∃ z, fv = .ref z := by
        have h1 : Rp M H fv f.enc := hF.1
        cases f <;> (obtain ⟨z, _, e, _⟩ := Rp.tupX h1; exact ⟨z, e⟩)
      obtain ⟨z, rfl⟩ := nfv
      walk_at "g"
      refine ⟨.ref z, v, f, ns, M, rfl, hF.1, hF.2, hR.row, hg.1, hM, fun w1 H1 d s1 r1 hd => ?_⟩
      subst hd
      rw [idsOf_eq] at r1
      obtain ⟨a, xs, rfl, na, ha, rx⟩ := Rp.lstN r1
      exact q H1 a xs s1 na ha (tup_pairs rx)
def sp_lshows (K : PySem.W.Frag) : Sp := fun vs H Q _ => ∃ (o : Option Fm) (m d : Addr) (fv rv v : V) (ns : List Int) (N : Int ⊕ IP → Option Int) (M : Ms), vs = [.ref m, v] ∧ H m = some (.lst [fv, rv, .ref d]) ∧ FormAt o M H fv ∧ DictO o H d N ∧ RowF M H v ns ∧ goodRow ns ∧ Mk M H ∧ M m ∧
  ∀ H' d', Sx (one m) H H' → Gr H H' → H d' = none → H' m = some (.lst [fv, v, .ref d']) → DictO o H' d' (shownO o ns N) → Q .non H'
theorem ok_lshows (T : Txt K mg) : FnOk P w K mg base CX0 9 T.f__law_shows T.d__law_shows ["_law_model", "_law_row_here"] (sp_lshows K) := by
  have G__law_known_by := ok_known (P := P) (w := w) (base := base) T
  refine T.F__law_shows.ok sc__law_shows (fun vs H Q E h => ?_) (fun cdv A outer s H vs Q E hr h => ?_)
  · obtain ⟨_, _, _, _, _, _, _, _, _, rfl, _⟩ := h
    rfl
  · obtain ⟨o, m, d, fv, rv, v, ns, N, M, rfl, hm, hF, hD, hR, hg, hM, mm, q⟩ := h
    cases o with
    | none =>
      obtain ⟨kvs, hd, hk, lk⟩ := hD
      refine ⟨_, (pss_cons (ps_set (i := 2) sc__law_shows.nd rfl (Or.inl rfl) pe_dnewK)
      (pss_cons (ps_for PassesOwn.never rfl (pi_listK (K := K) rfl (pe_call G__law_known_by (hr.mono (by omega)) (by rfl) T.g__law_known_by T.F__law_known_by.kp T.b__law_known_by .nil pass0 (pa_cons (pe_ix (ix_listK (K := K) rfl) (pv 0) pe_int (fun _ _ => rfl)) (pa_cons (pv 1) pa_nil)))) (pg_name (i := 3) sc__law_shows.nd rfl (Or.inl rfl)) (pss_one (ps_dput (hu_of hr) (pv 2) (pv 3) (pe_dget2 (hu_of hr) (pe_ix (ix_listK (K := K) rfl) (pv 0) pe_int (fun _ _ => rfl)) (pv 3) pe_int ⟨by rfl, by rfl, by rfl, by rfl⟩) rfl)))
      (pss_cons (ps_asg (pv 1) (pg_sub (pv 0) pe_int set_list))
      (pss_one (ps_asg (pv 2) (pg_sub (pv 0) pe_int set_list)))))), ?_⟩
      walk_at "g"
      intro nn hnn
      have s1 : Same H (upd H nn (.dK [])) := same_new hnn
      walk_at "g"
      refine ⟨_, _, _, _, rfl, rfl, SqL.of (s1 _ _ hm), rfl, ?_⟩
      walk_at "g"
      refine ⟨none, fv, v, ns, M, rfl, hF, hR.sx (Sx.same s1), hg, hM.gr (Gr.same s1), fun H2 l ys s2 nl hl hys => ?_⟩
      obtain rfl : ys = ns.map V.int := hys
      have s12 := s1.trans s2
      have en : H2 nn = some (.dK []) := s2 _ _ upd_same
      have ln : l ≠ nn := fun z => by
        rw [z] at hl
        rcases hl with hl | ⟨o, hl⟩ <;> (rw [en] at hl; cases hl)
      have hm2 := s12 _ _ hm
      have mn : m ≠ nn := fun z => by rw [z, en] at hm2; cases hm2
      have hd2 := s12 _ _ hd
      have dn : d ≠ nn := fun z => by rw [z, hnn] at hd; cases hd
      refine ⟨l, rfl, ⟨_, .inl hl⟩, ?_⟩
      refine for_list (K := K) (a := l) (xs := ns.map V.int) (fun i σ H' => (∃ y3, σ = [some (.ref m), some v, some (.ref nn), y3]) ∧ Sx (one nn) H2 H' ∧ Gr H2 H' ∧ ∃ kv, H' nn = some (.dK kv) ∧ DI kv (shownT (ns.take i) (fun x => N (.inl x))) ∧ kv.length ≤ i) ⟨⟨_, rfl⟩, Sx.same (Same.refl _), Gr.same (Same.refl _), [], en, fun x => by simp [shownT, valV], Nat.le_refl _⟩ (fun i σ H' _ p => ?_) (fun i x σ H' hx p => ?_) (fun σ H' p => ?_)
      · obtain ⟨_, s3, _⟩ := p
        exact .inl (sx_rd s3 ln hl)
      · obtain ⟨⟨y3, rfl⟩, s3, g3, kv, ek, dk, lkv⟩ := p
        rw [List.getElem?_map] at hx
        obtain ⟨n, hn, rfl⟩ := Option.map_eq_some_iff.mp hx
        have hi : i < ns.length := (List.getElem?_eq_some_iff.mp hn).1
        have l5 := hg.1
        walk_at "g"
        refine ⟨_, _, _, _, rfl, rfl, SqL.of (s3 _ _ mn hm2), rfl, ?_⟩
        have hd3 := s3 _ _ dn hd2
        refine ⟨d, rfl, .inl ⟨_, .inl hd3⟩, ?_⟩
        walk_at "g"
        refine ⟨_, DGet.k (k := .inl n) hd3, ?_⟩
        have eg : (valV kvs (Sum.inl n)).getD (V.int 0) = .int ((N (.inl n)).getD 0) := by
          rw [hk n]
          show (Option.map V.int (N (.inl n))).getD (V.int 0) = _
          cases N (.inl n) <;> rfl
        rw [eg]
        walk_at "g"
        refine ⟨nn, _, rfl, DPut.k (k := .inl n) ek (small1000 (by omega)), ?_⟩
        refine ⟨⟨_, rfl⟩, s3.trans (Sx.put rfl), g3.trans Gr.upd, _, upd_same, ?_, Nat.le_trans (putK_le _ _ _) (Nat.succ_le_succ lkv)⟩
        rw [List.take_add_one, hn]
        exact dk.show
      · obtain ⟨⟨y3, rfl⟩, s3, g3, kv, ek, dk, lkv⟩ := p
        rw [List.length_map, List.take_length] at dk
        rw [List.length_map] at lkv
        have l5 := hg.1
        have hm3 := s3 _ _ mn hm2
        walk_at "g"
        walk_at "set"
        walk_at "g"
        walk_at "set"
        have sF : Sx (one m) H (upd (upd H' m (.lst [fv, v, .ref d])) m (.lst [fv, v, .ref nn])) := fun c u hc e => by
          rw [upd_ne hc, upd_ne hc]
          exact s3 _ _ (fun z => by rw [show c = nn from z, hnn] at e; cases e) (s12 _ _ e)
        have gF : Gr H (upd (upd H' m (.lst [fv, v, .ref d])) m (.lst [fv, v, .ref nn])) := (Gr.same s12).trans (g3.trans (Gr.upd.trans Gr.upd))
        refine q _ nn sF gF hnn upd_same ⟨kv, by rw [upd_ne (Ne.symm mn), upd_ne (Ne.symm mn)]; exact ek, dk, by omega⟩
    | some f =>
      obtain ⟨kvs, hd, hk, lk⟩ := hD
      refine ⟨_, (pss_cons (ps_set (i := 2) sc__law_shows.nd rfl (Or.inl rfl) pe_dnewT)
      (pss_cons (ps_for PassesOwn.never rfl (pi_listK (K := K) rfl (pe_call G__law_known_by (hr.mono (by omega)) (by rfl) T.g__law_known_by T.F__law_known_by.kp T.b__law_known_by .nil pass0 (pa_cons (pe_ix (ix_listK (K := K) rfl) (pv 0) pe_int (fun _ _ => rfl)) (pa_cons (pv 1) pa_nil)))) (pg_name (i := 3) sc__law_shows.nd rfl (Or.inl rfl)) (pss_one (ps_dput (hu_of hr) (pv 2) (pv 3) (pe_dget2 (hu_of hr) (pe_ix (ix_listK (K := K) rfl) (pv 0) pe_int (fun _ _ => rfl)) (pv 3) pe_int ⟨by rfl, by rfl, by rfl, by rfl⟩) rfl)))
      (pss_cons (ps_asg (pv 1) (pg_sub (pv 0) pe_int set_list))
      (pss_one (ps_asg (pv 2) (pg_sub (pv 0) pe_int set_list)))))), ?_⟩
      walk_at "g"
      intro nn hnn
      have s1 : Same H (upd H nn (.dT [])) := same_new hnn
      walk_at "g"
      refine ⟨_, _, _, _, rfl, rfl, SqL.of (s1 _ _ hm), rfl, ?_⟩
      walk_at "g"
      refine ⟨some f, fv, v, ns, M, rfl, FormAt.sx hF (Sx.same s1), hR.sx (Sx.same s1), hg, hM.gr (Gr.same s1), fun H2 l ys s2 nl hl hys => ?_⟩
      have s12 := s1.trans s2
      have en : H2 nn = some (.dT []) := s2 _ _ upd_same
      have ln : l ≠ nn := fun z => by
        rw [z] at hl
        rcases hl with hl | ⟨o, hl⟩ <;> (rw [en] at hl; cases hl)
      have hm2 := s12 _ _ hm
      have mn : m ≠ nn := fun z => by rw [z, en] at hm2; cases hm2
      have hd2 := s12 _ _ hd
      have dn : d ≠ nn := fun z => by rw [z, hnn] at hd; cases hd
      have ly : ys.length = ns.length := hys.1
      have lids : (ids f ns).length = ns.length := ids_len f ns
      refine ⟨l, rfl, ⟨_, .inl hl⟩, ?_⟩
      refine for_list (K := K) (a := l) (xs := ys) (fun i σ H' => (∃ y3, σ = [some (.ref m), some v, some (.ref nn), y3]) ∧ Sx (one nn) H2 H' ∧ Gr H2 H' ∧ ∃ kv, H' nn = some (.dT kv) ∧ DN kv (shownN ((ids f ns).take i) (fun p => N (.inr p))) ∧ kv.length ≤ i) ⟨⟨_, rfl⟩, Sx.same (Same.refl _), Gr.same (Same.refl _), [], en, fun x => by simp [shownN, valV], Nat.le_refl _⟩ (fun i σ H' _ p => ?_) (fun i x σ H' hx p => ?_) (fun σ H' p => ?_)
      · obtain ⟨_, s3, _⟩ := p
        exact .inl (sx_rd s3 ln hl)
      · obtain ⟨⟨y3, rfl⟩, s3, g3, kv, ek, dk, lkv⟩ := p
        have hi : i < ys.length := (List.getElem?_eq_some_iff.mp hx).1
        have ep : (ids f ns)[i]? = some ((ids f ns)[i]'(by omega)) := List.getElem?_eq_getElem _
        obtain ⟨t, et, nt, ht⟩ := hys.2 i _ ep
        rw [hx] at et
        cases et
        have l5 := hg.1
        have tn : t ≠ nn := fun z => by rw [z, en] at ht; cases ht
        have ht3 := s3 _ _ tn ht
        walk_at "g"
        refine ⟨_, _, _, _, rfl, rfl, SqL.of (s3 _ _ mn hm2), rfl, ?_⟩
        have hd3 := s3 _ _ dn hd2
        refine ⟨d, rfl, .inr ⟨_, .inl hd3⟩, ?_⟩
        walk_at "g"
        refine ⟨_, DGet.t (k := idk _) hd3 ht3, ?_⟩
        have eg : (valV kvs (idk ((ids f ns)[i]'(by omega)))).getD (V.int 0) = .int ((N (.inr ((ids f ns)[i]'(by omega)))).getD 0) := by
          rw [hk _]
          show (Option.map V.int (N (.inr _))).getD (V.int 0) = _
          cases N (.inr ((ids f ns)[i]'(by omega))) <;> rfl
        rw [eg]
        walk_at "g"
        refine ⟨nn, _, rfl, DPut.t (k := idk _) ek ht3 (small1000 (by omega)), ?_⟩
        refine ⟨⟨_, rfl⟩, s3.trans (Sx.put rfl), g3.trans Gr.upd, _, upd_same, ?_, Nat.le_trans (putK_more _ _ _) (Nat.succ_le_succ lkv)⟩
        rw [List.take_add_one, ep]
        exact dk.show
      · obtain ⟨⟨y3, rfl⟩, s3, g3, kv, ek, dk, lkv⟩ := p
        rw [ly, ← lids, List.take_length] at dk
        have l5 := hg.1
        have hm3 := s3 _ _ mn hm2
        walk_at "g"
        walk_at "set"
        walk_at "g"
        walk_at "set"
        have sF : Sx (one m) H (upd (upd H' m (.lst [fv, v, .ref d])) m (.lst [fv, v, .ref nn])) := fun c u hc e => by
          rw [upd_ne hc, upd_ne hc]
          exact s3 _ _ (fun z => by rw [show c = nn from z, hnn] at e; cases e) (s12 _ _ e)
        have gF : Gr H (upd (upd H' m (.lst [fv, v, .ref d])) m (.lst [fv, v, .ref nn])) := (Gr.same s12).trans (g3.trans (Gr.upd.trans Gr.upd))
        refine q _ nn sF gF hnn upd_same ⟨kv, by rw [upd_ne (Ne.symm mn), upd_ne (Ne.symm mn)]; exact ek, dk, by omega⟩
end
end D

namespace D
open PySem PySem.Spec PyProof.Rows L2
local macro_rules | `(tactic| walk_at "st") => `(tactic| first | exact SqT.of (by assumption) | exact Or.inl (by assumption) | exact SqT.of upd_same | fail "st")
local macro_rules | `(tactic| walk_at "ixt") => `(tactic| refine ⟨_, _, _, _, rfl, rfl, (by walk_at "st" : SqT _ _ _ _), by rfl, ?_⟩)
local macro_rules | `(tactic| walk_at "sq") => `(tactic| first | exact SqL.of (by assumption) | assumption | exact Or.inl (by assumption) | exact SqL.of upd_same | fail "sq")
local macro_rules | `(tactic| walk_at "ix") => `(tactic| refine ⟨_, _, _, _, rfl, rfl, (by walk_at "sq" : SqL _ _ _ _), by rfl, ?_⟩)
local macro_rules | `(tactic| walk_at "set") => `(tactic| refine ⟨_, _, _, _, rfl, rfl, by first | assumption | exact upd_same, by rfl, ?_⟩)
local macro_rules | `(tactic| walk_at "len") => `(tactic| refine ⟨_, _, rfl, Or.inl (by walk_at "sq" : SqL _ _ _ _), ?_⟩)
local macro_rules | `(tactic| walk_at "g") => `(tactic| repeat (first | refine ⟨_, rfl, ?_⟩ | refine ⟨_, _, rfl, rfl, ?_⟩ | refine ⟨Or.inr (by decide), ?_⟩ | refine ⟨Or.inl (by decide), ?_⟩ | refine ⟨(by decide : (0 : Int) < _), ?_⟩ | refine ⟨(⟨by decide, by decide⟩ : CDiv _ _), ?_⟩ | refine ⟨(⟨by decide, by decide, by decide⟩ : CPow _ _), ?_⟩ | refine Or.inl ⟨_, rfl, ?_⟩ | refine ⟨rfl, ?_⟩ | walk_at "ix" | walk_at "ixt" | walk_at "len" | fail "g"))
local macro_rules | `(tactic| walk_at "if") => `(tactic| refine ite2 (fun e => ?_) (fun e => ?_))
section
variable {P : Program} {w : World} {K : PySem.W.Frag} {mg : Str → Option Value} {base : Heap}
theorem ints_rp {M : Ms} {H : Hp} : ∀ ws : List Int, RpAll M H (ws.map V.int) (ws.map PyData.int)
  | [] => .nil
  | n :: r => .cons (.int _) (ints_rp r)
theorem ints_lay : ∀ ws : List Int, PyData.canLayAll0 (ws.map PyData.int) = true
  | [] => rfl
  | n :: r => by
    show PyData.canLayAll0 (PyData.int n :: _) = true
    simp only [PyData.canLayAll0, PyData.canLay0, ints_lay r, Bool.and_self]
theorem ints_deep : ∀ ws : List Int, PyData.depthAll (ws.map PyData.int) ≤ 0
  | [] => Nat.le_refl _
  | n :: r => by
    have := ints_deep r
    show PyData.depthAll (PyData.int n :: _) ≤ 0
    simp only [PyData.depthAll, PyData.depth]
    omega
theorem ints_shaped (ws : List Int) : SeqAt.shaped (.list (ws.map PyData.int)) = true := by
  have h := ints_deep ws
  refine Bool.and_eq_true_iff.mpr ⟨ints_lay ws, decide_eq_true ?_⟩
  show PyData.depth (.list _) ≤ _
  simp only [PyData.depth]
  omega
theorem ints_eqvAll : ∀ a b : List Int, PyData.eqvAll (a.map PyData.int) (b.map PyData.int) = decide (a = b)
  | [], [] => rfl
  | [], _ :: _ => rfl
  | _ :: _, [] => rfl
  | x :: a, y :: b => by
    show PyData.eqvAll (PyData.int x :: _) (PyData.int y :: _) = _
    simp only [PyData.eqvAll, PyData.eqv, ints_eqvAll a b]
    rw [Bool.eq_iff_iff]
    simp
theorem ints_eqv (a b : List Int) : PyData.eqv (.list (a.map PyData.int)) (.list (b.map PyData.int)) = decide (a = b) := by
  simp only [PyData.eqv, ints_eqvAll]
theorem ints_shapedT (ws : List Int) : SeqAt.shaped (.tuple (ws.map PyData.int)) = true := by
  have h := ints_deep ws
  refine Bool.and_eq_true_iff.mpr ⟨ints_lay ws, decide_eq_true ?_⟩
  show PyData.depth (.tuple _) ≤ _
  simp only [PyData.depth]
  omega
theorem ints_eqvT (a b : List Int) : PyData.eqv (.tuple (a.map PyData.int)) (.tuple (b.map PyData.int)) = decide (a = b) := by
  simp only [PyData.eqv, ints_eqvAll]
theorem RowF.dp {K : PySem.W.Frag} {M : Ms} {H : Hp} {v : V} {ns : List Int} (h : RowF M H v ns) : Dp K H v (.tuple (ns.map PyData.int)) := by
  obtain ⟨b, ob, rfl, nb, hb, o1, o2⟩ := h
  exact .tup (.inl (.inr ⟨ob, hb⟩)) (RpAll.dp (M := M) _ _ (ints_rp ns))
theorem list_dp {K : PySem.W.Frag} {H : Hp} {l : Addr} {ns : List Int} (h : H l = some (.lst (ns.map V.int))) : Dp K H (.ref l) (.list (ns.map PyData.int)) := .lst (.inl (.inl h)) (RpAll.dp (M := fun _ => False) _ _ (ints_rp ns))
theorem ThAt.same {C : Addr} {M : Ms} {H H' : Hp} {a nd : Addr} {v : V} {ns : List Int} {T : Int → Option Int} (h : ThAt C M H a nd v ns T) (s : Same H H') : ThAt C M H' a nd v ns T := h.frame (F := fun _ => False) (Sx.same s) (fun _ z => z.elim) (fun z => z) fun z => z
theorem KnAt.same {CK C : Addr} {M : Ms} {H H' : Hp} {a nd : Addr} {v : V} {f : Fm} {ns : List Int} {N : IP → Option Int} (h : KnAt CK C M H a nd v f ns N) (s : Same H H') : KnAt CK C M H' a nd v f ns N := h.frame (F := fun _ => False) (Sx.same s) (fun _ z => z.elim) (fun z => z) fun z => z
theorem it_same {H H'' : Hp} {q it : Addr} {o o2 : HO} (hq : H q = none) (hit : upd H q o it = none) (z : ∀ b, b ≠ it → b ≠ q → H'' b = upd (upd H q o) it o2 b) : Same H H'' := fun c u e => by
  have cq : c ≠ q := fun y => by rw [y, hq] at e; cases e
  have ci : c ≠ it := fun y => by rw [← y, upd_ne cq, e] at hit; cases hit
  rw [z c ci cq, upd_ne ci, upd_ne cq]
  exact e
/-- what the law keeps beside a box -/
def ModAt (o : Option Fm) (M : Ms) (H : Hp) (m d : Addr) (v : V) (N : Int ⊕ IP → Option Int) : Prop := ∃ fv, H m = some (.lst [fv, v, .ref d]) ∧ FormAt o M H fv ∧ DictO o H d N
theorem ModAt.same {o : Option Fm} {M : Ms} {H H' : Hp} {m d : Addr} {v : V} {N : Int ⊕ IP → Option Int} (h : ModAt o M H m d v N) (s : Same H H') : ModAt o M H' m d v N := by
  obtain ⟨fv, hm, hF, hD⟩ := h
  refine ⟨fv, s _ _ hm, FormAt.sx hF (Sx.same s), ?_⟩
  cases o with
  | none => obtain ⟨kvs, h1, h2⟩ := hD; exact ⟨kvs, s _ _ h1, h2⟩
  | some f => obtain ⟨kvs, h1, h2⟩ := hD; exact ⟨kvs, s _ _ h1, h2⟩
def sp_agrees (T : Txt K mg) : Sp := fun vs H Q _ => ∃ (o : Option Fm) (a nd m d : Addr) (v : V) (ns : List Int) (N : Int ⊕ IP → Option Int) (M : Ms), vs = [.ref a, .ref m] ∧ BoxAt T o M H a nd v ns N ∧ ModAt o M H m d v N ∧ Mk M H ∧ ∀ H', Same H H' → Q (.bl true) H'
theorem ok_agrees (T : Txt K mg) : FnOk P w K mg base CX0 10 T.f__law_agrees T.d__law_agrees ["_law_box", "_law_model"] (sp_agrees T) := by
  have G__law_known_by := ok_known (P := P) (w := w) (base := base) T
  have G__law_number := ok_number (P := P) (w := w) (base := base) T
  refine T.F__law_agrees.ok sc__law_agrees (fun vs H Q E h => ?_) (fun cdv A outer s H vs Q E hr h => ?_)
  · obtain ⟨_, _, _, _, _, _, _, _, _, rfl, _⟩ := h
    rfl
  · obtain ⟨o, a, nd, m, d, v, ns, N, M, rfl, hB, hMo, hM, q⟩ := h
    cases o with
    | none =>
      have hT : ThAt T.C_Things M H a nd v ns (fun x => N (.inl x)) := hB
      obtain ⟨fv, hm, hF, hD⟩ := id hMo
      obtain ⟨dx, kvs, ha, hn, hd', l, mm, hR, hg⟩ := id hT
      obtain ⟨b, ob, rfl, nb, hb, o1, o2⟩ := id hR
      have G_Things___iter__ := ok_titer (P := P) (w := w) (base := base) T
      have G_Things___getitem__ := ok_tget (P := P) (w := w) (base := base) T
      refine ⟨_, (pss_cons (ps_if (PW.pt (pw_or (pt_not (pt_val (pe_callB (call_isi1K (K := K) rfl) (by rfl) T.m_isinstance (by decide +kernel) (pa_cons (pe_fldK (K := K) rfl (pv 0) rfl) (pa_cons (pe_bltn (v := .ty "tuple") (u := .type "tuple") (by rfl) T.m_tuple (by decide +kernel) rfl) pa_nil))))) (pw_or (pt_cmpR (op_neDK (K := K) rfl hr.units) (pe_fldK (K := K) rfl (pv 0) rfl) (pe_ix (ix_listK (K := K) rfl) (pv 1) pe_int (fun _ _ => rfl)) (nomark _)) (pw_or1 (pt_cmpR (op_neDK (K := K) rfl hr.units) (pe_callTy (call_listIt T.li_Things G_Things___iter__ T.b_Things___iter__ pass0 (hr.mono (by omega))) (by rfl) T.m_list (by decide +kernel) (pa_cons (pv 0) pa_nil)) (pe_callTy (call_listK (K := K) rfl) (by rfl) T.m_list (by decide +kernel) (pa_cons (pe_ix (ix_listK (K := K) rfl) (pv 1) pe_int (fun _ _ => rfl)) pa_nil)) (nomark _)))))) (pss_one (ps_ret pe_bl)) pss_nil)
      (pss_cons (ps_set (i := 2) sc__law_agrees.nd rfl (Or.inl rfl) (pe_call G__law_known_by (hr.mono (by omega)) (by rfl) T.g__law_known_by T.F__law_known_by.kp T.b__law_known_by .nil pass0 (pa_cons (pe_ix (ix_listK (K := K) rfl) (pv 1) pe_int (fun _ _ => rfl)) (pa_cons (pe_ix (ix_listK (K := K) rfl) (pv 1) pe_int (fun _ _ => rfl)) pa_nil))))
      (pss_cons (ps_for PassesOwn.never rfl (pi_range1 (by rfl) T.m_range (pa_cons (pe_callB (call_lenK (K := K) rfl) (by rfl) T.m_len PySem.boot_len (pa_cons (pv 2) pa_nil)) pa_nil)) (pg_name (i := 3) sc__law_agrees.nd rfl (Or.inl rfl)) (pss_cons (ps_set (i := 4) sc__law_agrees.nd rfl (Or.inl rfl) (pe_ownIx (pv 0) (pe_ix (ix_tupK (K := K) rfl) (pe_ix (ix_listK (K := K) rfl) (pv 1) pe_int (fun _ _ => rfl)) (pv 3) (fun _ _ => rfl)) T.a_Things___getitem__ T.n_Things___getitem__ T.i_Things___getitem__ G_Things___getitem__ T.b_Things___getitem__ (hr.mono (by omega)) pass0 (fun _ _ => by with_unfolding_all rfl)))
      (pss_one (ps_if (PW.pt (pw_or (pt_not (pt_val (pe_call G__law_number (hr.mono (by omega)) (by rfl) T.g__law_number T.F__law_number.kp T.b__law_number .nil pass0 (pa_cons (pv 4) pa_nil)))) (pw_or1 (pt_cmpR op_ne (pv 4) (pe_dget (hu_of hr) (pe_ix (ix_listK (K := K) rfl) (pv 1) pe_int (fun _ _ => rfl)) (pe_ix (ix_listK (K := K) rfl) (pv 2) (pv 3) (fun _ _ => rfl)) (fun _ _ => rfl)) (nomark _))))) (pss_one (ps_ret pe_bl)) pss_nil))))
      (pss_one (ps_ret pe_bl))))), ?_⟩
      walk_at "g"
      refine ⟨a, _, dx, _, _, rfl, ha, T.cl_Things, T.nA_Things_row, rfl, ?_⟩
      walk_at "g"
      refine ⟨_, _, _, _, true, rfl, .ty _, rd_ty (.inr ⟨ob, hb⟩), kit_ty (by decide +kernel), ?_⟩
      walk_at "g"
      refine ⟨a, _, dx, _, _, rfl, ha, T.cl_Things, T.nA_Things_row, rfl, ?_⟩
      walk_at "g"
      have r0 : Dp K H (.ref b) (.tuple (ns.map PyData.int)) := hR.dp
      refine ⟨_, _, r0, r0, ints_shapedT _, ints_shapedT _, ?_⟩
      rw [ints_eqvT, decide_eq_true rfl]
      walk_at "g"
      refine ⟨a, dx, _, rfl, ha, fun q1 hq1 => ?_⟩
      have sq : Same H (upd H q1 (.lst [])) := same_new hq1
      refine ⟨a, nd, .ref b, ns, _, M, rfl, hT.same sq, fun t it et sT hit => ?_⟩
      cases et
      have n1 : q1 ≠ it := fun z => by rw [← z, upd_same] at hit; cases hit
      have nbi : b ≠ it := fun z => by rw [← z, sq _ _ hb] at hit; cases hit
      have nbq : b ≠ q1 := fun z => by rw [z, hq1] at hb; cases hb
      have nai : a ≠ it := fun z => by rw [← z, sq _ _ ha] at hit; cases hit
      refine ⟨it, b, ns.map V.int, rfl, upd_same, .inl (.inr ⟨ob, by rw [upd_ne nbi]; exact sq _ _ hb⟩), nbi, nbq, n1, by rw [upd_ne n1]; exact upd_same, by rw [upd_ne nai]; exact sq _ _ ha, by rw [List.length_map]; have := hg.1; omega, fun H2 z2 e2 _ => ?_⟩
      have s2 : Same H H2 := it_same hq1 hit z2
      have hm2 := s2 _ _ hm
      walk_at "g"
      refine ⟨b, _, rfl, .inr (.inl (.inr ⟨ob, s2 _ _ hb⟩)), fun l2 hl2 => ?_⟩
      have ql : q1 ≠ l2 := fun z => by rw [← z, e2] at hl2; cases hl2
      refine ⟨_, _, list_dp (by rw [upd_ne ql]; exact e2), list_dp upd_same, ints_shaped _, ints_shaped _, ?_⟩
      rw [ints_eqv, decide_eq_true rfl]
      have s3 : Same H (upd H2 l2 (.lst (ns.map V.int))) := s2.trans (same_new hl2)
      generalize upd H2 l2 (.lst (ns.map V.int)) = H3 at s3
      have hm3 := s3 _ _ hm
      walk_at "g"
      refine ⟨none, fv, .ref b, ns, M, rfl, FormAt.sx hF (Sx.same s3), hR.sx (Sx.same s3), hg, hM.gr (Gr.same s3), fun H4 lm ys s4 nl4 e4 hys => ?_⟩
      obtain rfl : ys = ns.map V.int := hys
      have s5 := s3.trans s4
      have hm5 := s5 _ _ hm
      have hb5 := s5 _ _ hb
      have ha5 := s5 _ _ ha
      have hT5 := hT.same s5
      obtain ⟨kvd, hd1, hd2, _⟩ := hD
      have hd5 := s5 _ _ hd1
      have hl : (ns.map V.int).length = ns.length := List.length_map _
      walk_at "g"
      refine ⟨by have := hg.1; omega, by have := hg.1; omega, ?_⟩
      refine for_range (lo := 0) (n := ((ns.map V.int).length : Int).toNat) (fun i σ H' => (∃ y3 y4, σ = [some (.ref a), some (.ref m), some (.ref lm), y3, y4]) ∧ H' = H4) ⟨⟨_, _, rfl⟩, rfl⟩ (fun i σ H' hi p => ?_) (fun σ H' p => ?_)
      · obtain ⟨⟨y3, y4, rfl⟩, rfl⟩ := p
        have hi' : i < ns.length := by omega
        have at0 : atI (ns.map V.int) (i : Int) = some (.int ns[i]) := atI_nat (by rw [List.getElem?_map, List.getElem?_eq_getElem hi']; rfl)
        obtain ⟨w', ew⟩ : ∃ w', N (.inl ns[i]) = some w' := Option.isSome_iff_exists.mp ((mm ns[i]).mpr (List.getElem_mem hi'))
        rw [Int.zero_add]
        walk_at "g"
        refine ⟨_, _, _, _, rfl, rfl, .inl (.inr ⟨ob, hb5⟩), at0, ?_⟩
        refine ⟨a, dx, _, rfl, ha5, a, nd, .ref b, ns, _, ns[i], w', M, rfl, hT5, ew, ?_⟩
        walk_at "g"
        refine ⟨_, _, _, _, rfl, rfl, .inl e4, at0, ?_⟩
        have dg : DGet H' d (V.int ns[i]) (some (.int w')) := by
          have := DGet.k (k := .inl ns[i]) hd5
          rw [hd2 ns[i], show (fun x => N (Sum.inl x)) ns[i] = some w' from ew] at this
          exact this
        refine ⟨d, _, rfl, dg, ?_⟩
        walk_at "g"
        rw [decide_eq_true (show V.int w' = V.int w' from rfl)]
        walk_at "g"
        exact ⟨⟨_, _, rfl⟩, rfl⟩
      · obtain ⟨⟨y3, y4, rfl⟩, rfl⟩ := p
        walk_at "g"
        exact q _ s5
    | some f =>
      have hT : KnAt T.C_Key T.C_Known M H a nd v f ns (fun p => N (.inr p)) := hB
      obtain ⟨fv, hm, hF, hD⟩ := id hMo
      obtain ⟨dx, kvs, ivs, idd, kv, ha, hn, hd', l, nid, hid, hiv, mm, hK, hmem, hR, hg⟩ := id hT
      obtain ⟨b, ob, rfl, nb, hb, o1, o2⟩ := id hR
      have G_Known___iter__ := ok_kiter (P := P) (w := w) (base := base) T
      have G_Known___getitem__ := ok_kget (P := P) (w := w) (base := base) T
      refine ⟨_, (pss_cons (ps_if (PW.pt (pw_or (pt_not (pt_val (pe_callB (call_isi1K (K := K) rfl) (by rfl) T.m_isinstance (by decide +kernel) (pa_cons (pe_fldK (K := K) rfl (pv 0) rfl) (pa_cons (pe_bltn (v := .ty "tuple") (u := .type "tuple") (by rfl) T.m_tuple (by decide +kernel) rfl) pa_nil))))) (pw_or (pt_cmpR (op_neDK (K := K) rfl hr.units) (pe_fldK (K := K) rfl (pv 0) rfl) (pe_ix (ix_listK (K := K) rfl) (pv 1) pe_int (fun _ _ => rfl)) (nomark _)) (pw_or1 (pt_cmpR (op_neDK (K := K) rfl hr.units) (pe_callTy (call_listIt T.li_Known G_Known___iter__ T.b_Known___iter__ pass0 (hr.mono (by omega))) (by rfl) T.m_list (by decide +kernel) (pa_cons (pv 0) pa_nil)) (pe_callTy (call_listK (K := K) rfl) (by rfl) T.m_list (by decide +kernel) (pa_cons (pe_ix (ix_listK (K := K) rfl) (pv 1) pe_int (fun _ _ => rfl)) pa_nil)) (nomark _)))))) (pss_one (ps_ret pe_bl)) pss_nil)
      (pss_cons (ps_set (i := 2) sc__law_agrees.nd rfl (Or.inl rfl) (pe_call G__law_known_by (hr.mono (by omega)) (by rfl) T.g__law_known_by T.F__law_known_by.kp T.b__law_known_by .nil pass0 (pa_cons (pe_ix (ix_listK (K := K) rfl) (pv 1) pe_int (fun _ _ => rfl)) (pa_cons (pe_ix (ix_listK (K := K) rfl) (pv 1) pe_int (fun _ _ => rfl)) pa_nil))))
      (pss_cons (ps_for PassesOwn.never rfl (pi_range1 (by rfl) T.m_range (pa_cons (pe_callB (call_lenK (K := K) rfl) (by rfl) T.m_len PySem.boot_len (pa_cons (pv 2) pa_nil)) pa_nil)) (pg_name (i := 3) sc__law_agrees.nd rfl (Or.inl rfl)) (pss_cons (ps_set (i := 4) sc__law_agrees.nd rfl (Or.inl rfl) (pe_ownIx (pv 0) (pe_ix (ix_tupK (K := K) rfl) (pe_ix (ix_listK (K := K) rfl) (pv 1) pe_int (fun _ _ => rfl)) (pv 3) (fun _ _ => rfl)) T.a_Known___getitem__ T.n_Known___getitem__ T.i_Known___getitem__ G_Known___getitem__ T.b_Known___getitem__ (hr.mono (by omega)) pass0 (fun _ _ => by with_unfolding_all rfl)))
      (pss_one (ps_if (PW.pt (pw_or (pt_not (pt_val (pe_call G__law_number (hr.mono (by omega)) (by rfl) T.g__law_number T.F__law_number.kp T.b__law_number .nil pass0 (pa_cons (pv 4) pa_nil)))) (pw_or1 (pt_cmpR op_ne (pv 4) (pe_dget (hu_of hr) (pe_ix (ix_listK (K := K) rfl) (pv 1) pe_int (fun _ _ => rfl)) (pe_ix (ix_listK (K := K) rfl) (pv 2) (pv 3) (fun _ _ => rfl)) (fun _ _ => rfl)) (nomark _))))) (pss_one (ps_ret pe_bl)) pss_nil))))
      (pss_one (ps_ret pe_bl))))), ?_⟩
      walk_at "g"
      refine ⟨a, _, dx, _, _, rfl, ha, T.cl_Known, T.nA_Known_row, rfl, ?_⟩
      walk_at "g"
      refine ⟨_, _, _, _, true, rfl, .ty _, rd_ty (.inr ⟨ob, hb⟩), kit_ty (by decide +kernel), ?_⟩
      walk_at "g"
      refine ⟨a, _, dx, _, _, rfl, ha, T.cl_Known, T.nA_Known_row, rfl, ?_⟩
      walk_at "g"
      have r0 : Dp K H (.ref b) (.tuple (ns.map PyData.int)) := hR.dp
      refine ⟨_, _, r0, r0, ints_shapedT _, ints_shapedT _, ?_⟩
      rw [ints_eqvT, decide_eq_true rfl]
      walk_at "g"
      refine ⟨a, dx, _, rfl, ha, fun q1 hq1 => ?_⟩
      have sq : Same H (upd H q1 (.lst [])) := same_new hq1
      refine ⟨a, nd, .ref b, f, ns, _, M, rfl, hT.same sq, fun t it et sT hit => ?_⟩
      cases et
      have n1 : q1 ≠ it := fun z => by rw [← z, upd_same] at hit; cases hit
      have nbi : b ≠ it := fun z => by rw [← z, sq _ _ hb] at hit; cases hit
      have nbq : b ≠ q1 := fun z => by rw [z, hq1] at hb; cases hb
      have nai : a ≠ it := fun z => by rw [← z, sq _ _ ha] at hit; cases hit
      refine ⟨it, b, ns.map V.int, rfl, upd_same, .inl (.inr ⟨ob, by rw [upd_ne nbi]; exact sq _ _ hb⟩), nbi, nbq, n1, by rw [upd_ne n1]; exact upd_same, by rw [upd_ne nai]; exact sq _ _ ha, by rw [List.length_map]; have := hg.1; omega, fun H2 z2 e2 _ => ?_⟩
      have s2 : Same H H2 := it_same hq1 hit z2
      have hm2 := s2 _ _ hm
      walk_at "g"
      refine ⟨b, _, rfl, .inr (.inl (.inr ⟨ob, s2 _ _ hb⟩)), fun l2 hl2 => ?_⟩
      have ql : q1 ≠ l2 := fun z => by rw [← z, e2] at hl2; cases hl2
      refine ⟨_, _, list_dp (by rw [upd_ne ql]; exact e2), list_dp upd_same, ints_shaped _, ints_shaped _, ?_⟩
      rw [ints_eqv, decide_eq_true rfl]
      have s3 : Same H (upd H2 l2 (.lst (ns.map V.int))) := s2.trans (same_new hl2)
      generalize upd H2 l2 (.lst (ns.map V.int)) = H3 at s3
      have hm3 := s3 _ _ hm
      walk_at "g"
      refine ⟨some f, fv, .ref b, ns, M, rfl, FormAt.sx hF (Sx.same s3), hR.sx (Sx.same s3), hg, hM.gr (Gr.same s3), fun H4 lm ys s4 nl4 e4 hys => ?_⟩
      have ly : ys.length = ns.length := hys.1
      have lids : (ids f ns).length = ns.length := ids_len f ns
      have s5 := s3.trans s4
      have hm5 := s5 _ _ hm
      have hb5 := s5 _ _ hb
      have ha5 := s5 _ _ ha
      have hT5 := hT.same s5
      obtain ⟨kvd, hd1, hd2, _⟩ := hD
      have hd5 := s5 _ _ hd1
      walk_at "g"
      refine ⟨by have := hg.1; omega, by have := hg.1; omega, ?_⟩
      refine for_range (lo := 0) (n := (ys.length : Int).toNat) (fun i σ H' => (∃ y3 y4, σ = [some (.ref a), some (.ref m), some (.ref lm), y3, y4]) ∧ H' = H4) ⟨⟨_, _, rfl⟩, rfl⟩ (fun i σ H' hi p => ?_) (fun σ H' p => ?_)
      · obtain ⟨⟨y3, y4, rfl⟩, rfl⟩ := p
        have hi' : i < ns.length := by omega
        have at0 : atI (ns.map V.int) (i : Int) = some (.int ns[i]) := atI_nat (by rw [List.getElem?_map, List.getElem?_eq_getElem hi']; rfl)
        have ep : (ids f ns)[i]? = some ((ids f ns)[i]'(by omega)) := List.getElem?_eq_getElem _
        obtain ⟨tt, et, nt, ht⟩ := hys.2 i _ ep
        have at1 : atI ys (i : Int) = some (.ref tt) := atI_nat et
        obtain ⟨w', ew⟩ : ∃ w', N (.inr ((ids f ns)[i]'(by omega))) = some w' := Option.isSome_iff_exists.mp ((mm _).mpr (List.getElem_mem _))
        rw [Int.zero_add]
        walk_at "g"
        refine ⟨_, _, _, _, rfl, rfl, .inl (.inr ⟨ob, hb5⟩), at0, ?_⟩
        refine ⟨a, dx, _, rfl, ha5, a, nd, .ref b, f, ns, _, i, ns[i], w', _, M, rfl, hT5, List.getElem?_eq_getElem hi', ep, ew, ?_⟩
        walk_at "g"
        refine ⟨_, _, _, _, rfl, rfl, .inl e4, at1, ?_⟩
        have dg : DGet H' d (V.ref tt) (some (.int w')) := by
          have := DGet.t (k := idk ((ids f ns)[i]'(by omega))) hd5 ht
          rw [hd2 _, show (fun p => N (Sum.inr p)) ((ids f ns)[i]'(by omega)) = some w' from ew] at this
          exact this
        refine ⟨d, _, rfl, dg, ?_⟩
        walk_at "g"
        rw [decide_eq_true (show V.int w' = V.int w' from rfl)]
        walk_at "g"
        exact ⟨⟨_, _, rfl⟩, rfl⟩
      · obtain ⟨⟨y3, y4, rfl⟩, rfl⟩ := p
        walk_at "g"
        exact q _ s5
end
end D

namespace D
open PySem PySem.Spec PyProof.Rows L2
local macro_rules | `(tactic| walk_at "st") => `(tactic| first | exact SqT.of (by assumption) | exact Or.inl (by assumption) | exact SqT.of upd_same | fail "st")
local macro_rules | `(tactic| walk_at "ixt") => `(tactic| refine ⟨_, _, _, _, rfl, rfl, (by walk_at "st" : SqT _ _ _ _), by rfl, ?_⟩)
local macro_rules | `(tactic| walk_at "sq") => `(tactic| first | exact SqL.of (by assumption) | assumption | exact Or.inl (by assumption) | exact SqL.of upd_same | fail "sq")
local macro_rules | `(tactic| walk_at "ix") => `(tactic| refine ⟨_, _, _, _, rfl, rfl, (by walk_at "sq" : SqL _ _ _ _), by rfl, ?_⟩)
local macro_rules | `(tactic| walk_at "set") => `(tactic| refine ⟨_, _, _, _, rfl, rfl, by first | assumption | exact upd_same, by rfl, ?_⟩)
local macro_rules | `(tactic| walk_at "len") => `(tactic| refine ⟨_, _, rfl, Or.inl (by walk_at "sq" : SqL _ _ _ _), ?_⟩)
local macro_rules | `(tactic| walk_at "g") => `(tactic| repeat (first | refine ⟨_, rfl, ?_⟩ | refine ⟨_, _, rfl, rfl, ?_⟩ | refine ⟨Or.inr (by decide), ?_⟩ | refine ⟨Or.inl (by decide), ?_⟩ | refine ⟨(by decide : (0 : Int) < _), ?_⟩ | refine ⟨(⟨by decide, by decide⟩ : CDiv _ _), ?_⟩ | refine ⟨(⟨by decide, by decide, by decide⟩ : CPow _ _), ?_⟩ | refine Or.inl ⟨_, rfl, ?_⟩ | refine ⟨rfl, ?_⟩ | walk_at "ix" | walk_at "ixt" | walk_at "len" | fail "g"))
local macro_rules | `(tactic| walk_at "if") => `(tactic| refine ite2 (fun e => ?_) (fun e => ?_))
section
variable {P : Program} {w : World} {K : PySem.W.Frag} {mg : Str → Option Value} {base : Heap}
def alsoL : Ms → List Addr → Ms
  | M, [] => M
  | M, p :: r => alsoL (also M p) r
theorem alsoL_le : ∀ {l : List Addr} {M : Ms} {c : Addr}, M c → alsoL M l c
  | [], _, _, h => h
  | _ :: r, _, _, h => alsoL_le (l := r) (.inl h)
/-- the numbers behind a set -/
def putO (o : Option Fm) (ns : List Int) (i : Nat) (w : Int) (N : Int ⊕ IP → Option Int) : Int ⊕ IP → Option Int := match o with
  | none => Sum.elim (fun y => if some y = ns[i]? then some w else N (.inl y)) (fun p => N (.inr p))
  | some f => Sum.elim (fun y => N (.inl y)) (fun p => if some p = (ids f ns)[i]? then some w else N (.inr p))
section
variable {T : Txt K mg} {o : Option Fm} {M F : Ms} {H H' : Hp} {a nd m d p : Addr} {v : V} {ns : List Int} {N : Int ⊕ IP → Option Int}
theorem BoxAt.fresh (h : BoxAt T o M H a nd v ns N) (hp : H p = none) : BoxAt T o (also M p) H a nd v ns N := by
  cases o with
  | none => exact ThAt.fresh h hp
  | some f => exact KnAt.fresh h hp
theorem BoxAt.frame (h : BoxAt T o M H a nd v ns N) (s : Sx F H H') (le : ∀ c, F c → M c) (na : ¬ F a) (nn : ¬ F nd) : BoxAt T o M H' a nd v ns N := by
  cases o with
  | none => exact ThAt.frame h s le na nn
  | some f => exact KnAt.frame h s le na nn
theorem BoxAt.same (h : BoxAt T o M H a nd v ns N) (s : Same H H') : BoxAt T o M H' a nd v ns N := h.frame (F := fun _ => False) (Sx.same s) (fun _ z => z.elim) (fun z => z) fun z => z
theorem BoxAt.there (h : BoxAt T o M H a nd v ns N) : H a ≠ none ∧ H nd ≠ none ∧ a ≠ nd := by
  cases o with
  | none => exact ThAt.there h
  | some f => exact KnAt.there h
theorem BoxAt.row (h : BoxAt T o M H a nd v ns N) : RowF M H v ns ∧ goodRow ns := by
  cases o with
  | none => obtain ⟨_, _, _, _, _, _, _, hR, hg⟩ := (show ThAt _ _ _ _ _ _ _ _ from h); exact ⟨hR, hg⟩
  | some f => obtain ⟨_, _, _, _, _, _, _, _, _, _, _, _, _, _, _, hR, hg⟩ := (show KnAt _ _ _ _ _ _ _ _ _ _ from h); exact ⟨hR, hg⟩
theorem DictO.frame (h : DictO o H d N) (s : Sx F H H') (nd : ¬ F d) : DictO o H' d N := by
  cases o with
  | none => obtain ⟨kvs, h1, h2⟩ := h; exact ⟨kvs, s _ _ nd h1, h2⟩
  | some f => obtain ⟨kvs, h1, h2⟩ := h; exact ⟨kvs, s _ _ nd h1, h2⟩
theorem DictO.there (h : DictO o H d N) : H d ≠ none := by
  cases o with
  | none => obtain ⟨kvs, h1, h2⟩ := h; exact ne_none h1
  | some f => obtain ⟨kvs, h1, h2⟩ := h; exact ne_none h1
theorem DictO.not_lst {xs : List V} (h : DictO o H d N) : H d ≠ some (.lst xs) := fun z => by
  cases o with
  | none => obtain ⟨kvs, h1, h2⟩ := h; rw [z] at h1; cases h1
  | some f => obtain ⟨kvs, h1, h2⟩ := h; rw [z] at h1; cases h1
theorem ModAt.fresh (h : ModAt o M H m d v N) (hp : H p = none) : ModAt o (also M p) H m d v N := by
  obtain ⟨fv, hm, hF, hD⟩ := h
  exact ⟨fv, hm, FormAt.fresh hF hp, hD⟩
theorem ModAt.frame (h : ModAt o M H m d v N) (s : Sx F H H') (le : ∀ c, F c → M c) (nm : ¬ F m) (nd : ¬ F d) : ModAt o M H' m d v N := by
  obtain ⟨fv, hm, hF, hD⟩ := h
  exact ⟨fv, s _ _ nm hm, FormAt.sx hF (s.le le), hD.frame s nd⟩
theorem ModAt.there (h : ModAt o M H m d v N) : H m ≠ none ∧ H d ≠ none ∧ m ≠ d := by
  obtain ⟨fv, hm, hF, hD⟩ := h
  exact ⟨ne_none hm, hD.there, fun z => by rw [z] at hm; exact hD.not_lst hm⟩
end
/-- a box, and what the law keeps beside it -/
structure BX where
  a : Addr
  nd : Addr
  m : Addr
  d : Addr
  o : Option Fm
  v : V
  ns : List Int
  N : Int ⊕ IP → Option Int
def BX.as (x : BX) : List Addr := [x.a, x.nd, x.m, x.d]
def BXok (T : Txt K mg) (M : Ms) (H : Hp) (x : BX) : Prop := BoxAt T x.o M H x.a x.nd x.v x.ns x.N ∧ ModAt x.o M H x.m x.d x.v x.N ∧ M x.a ∧ M x.nd ∧ M x.m ∧ M x.d
section
variable {T : Txt K mg} {M F : Ms} {H H' : Hp} {p : Addr} {x : BX}
theorem BXok.fresh (h : BXok T M H x) (hp : H p = none) : BXok T (also M p) H x := ⟨h.1.fresh hp, h.2.1.fresh hp, .inl h.2.2.1, .inl h.2.2.2.1, .inl h.2.2.2.2.1, .inl h.2.2.2.2.2⟩
theorem BXok.freshL : ∀ {l : List Addr} {M : Ms}, BXok T M H x → (∀ p ∈ l, H p = none) → BXok T (alsoL M l) H x
  | [], _, h, _ => h
  | p :: r, _, h, z => BXok.freshL (l := r) (h.fresh (z p List.mem_cons_self)) fun q hq => z q (List.mem_cons_of_mem _ hq)
theorem BXok.frame (h : BXok T M H x) (s : Sx F H H') (le : ∀ c, F c → M c) (n : ∀ c ∈ x.as, ¬ F c) : BXok T M H' x :=
  ⟨h.1.frame s le (n _ (by simp [BX.as])) (n _ (by simp [BX.as])), h.2.1.frame s le (n _ (by simp [BX.as])) (n _ (by simp [BX.as])), h.2.2⟩
theorem BXok.there (h : BXok T M H x) : ∀ c ∈ x.as, H c ≠ none := fun c hc => by
  simp only [BX.as, List.mem_cons, List.not_mem_nil, or_false] at hc
  rcases hc with rfl | rfl | rfl | rfl
  · exact h.1.there.1
  · exact h.1.there.2.1
  · exact h.2.1.there.1
  · exact h.2.1.there.2.1
theorem BXok.mem (h : BXok T M H x) : ∀ c ∈ x.as, M c := fun c hc => by
  simp only [BX.as, List.mem_cons, List.not_mem_nil, or_false] at hc
  rcases hc with rfl | rfl | rfl | rfl
  · exact h.2.2.1
  · exact h.2.2.2.1
  · exact h.2.2.2.2.1
  · exact h.2.2.2.2.2
end
def sp_bshow (T : Txt K mg) (o : Option Fm) : Sp := fun vs H Q _ => ∃ (a nd : Addr) (v0 v : V) (ms ns : List Int) (N : Int ⊕ IP → Option Int) (M : Ms), vs = [.ref a, v] ∧ BoxAt T o M H a nd v0 ms N ∧ RowF M H v ns ∧ goodRow ns ∧ Mk M H ∧ M a ∧
  ∀ H' nd', Sx (one a) H H' → Gr H H' → H nd' = none → BoxAt T o (also M nd') H' a nd' v ns (shownO o ns N) → Q .non H'
theorem ok_bshowT (T : Txt K mg) : FnOk P w K mg base CX0 11 T.f_Things_show T.d_Things_show ["self", "row"] (sp_bshow T none) := by
  refine ((ok_tshow2 (P := P) (w := w) (base := base) T).mono (by omega)).imp fun vs H Q E h => ?_
  obtain ⟨a, nd, v0, v, ms, ns, N, M, rfl, hB, hR, hg, hM, ma, q⟩ := h
  exact ⟨a, nd, v0, v, ms, ns, _, M, rfl, hB, hR, hg, ma, fun H' nd' s g n hT => q H' nd' s g n hT⟩
theorem ok_bshowK (T : Txt K mg) (f : Fm) : FnOk P w K mg base CX0 11 T.f_Known_show T.d_Known_show ["self", "row"] (sp_bshow T (some f)) := by
  refine (ok_kshow2 (P := P) (w := w) (base := base) T).imp fun vs H Q E h => ?_
  obtain ⟨a, nd, v0, v, ms, ns, N, M, rfl, hB, hR, hg, hM, ma, q⟩ := h
  exact ⟨a, nd, v0, v, f, ms, ns, _, M, rfl, hB, hR, hg, hM, ma, fun H' nd' s g n hT => q H' nd' s g n hT⟩
def sp_bput (T : Txt K mg) (o : Option Fm) : Sp := fun vs H Q _ => ∃ (a nd : Addr) (v : V) (ns : List Int) (N : Int ⊕ IP → Option Int) (i : Nat) (x w : Int) (M : Ms), vs = [.ref a, .int x, .int w] ∧ BoxAt T o M H a nd v ns N ∧ ns[i]? = some x ∧ M nd ∧
  ∀ H', Sx (one nd) H H' → Gr H H' → BoxAt T o M H' a nd v ns (putO o ns i w N) → Q .non H'
theorem ok_bputT (T : Txt K mg) : FnOk P w K mg base CX0 2 T.f_Things___setitem__ T.d_Things___setitem__ ["self", "item", "number"] (sp_bput T none) := by
  refine (ok_tput (P := P) (w := w) (base := base) T).imp fun vs H Q E h => ?_
  obtain ⟨a, nd, v, ns, N, i, x, w, M, rfl, hB, hx, mn, q⟩ := h
  refine ⟨a, nd, v, ns, _, x, w, M, rfl, hB, List.mem_of_getElem? hx, mn, fun H' s g hT => q H' s g ?_⟩
  have e : (fun y => putO none ns i w N (.inl y)) = fun y => if y = x then some w else N (.inl y) := by
    funext y
    show (if some y = ns[i]? then some w else N (.inl y)) = _
    rw [hx]
    by_cases c : y = x
    · rw [if_pos c, if_pos (by rw [c])]
    · rw [if_neg c, if_neg (fun z => c (Option.some.inj z))]
  show ThAt _ _ _ _ _ _ _ _
  rw [e]
  exact hT
theorem ok_bputK (T : Txt K mg) (f : Fm) : FnOk P w K mg base CX0 2 T.f_Known___setitem__ T.d_Known___setitem__ ["self", "item", "number"] (sp_bput T (some f)) := by
  refine (ok_kput (P := P) (w := w) (base := base) T).imp fun vs H Q E h => ?_
  obtain ⟨a, nd, v, ns, N, i, x, w, M, rfl, hB, hx, mn, q⟩ := h
  have hi : i < (ids f ns).length := by rw [ids_len]; exact (List.getElem?_eq_some_iff.mp hx).1
  refine ⟨a, nd, v, f, ns, _, i, x, w, (ids f ns)[i], M, rfl, hB, hx, List.getElem?_eq_getElem hi, mn, fun H' s g hT => q H' s g ?_⟩
  have e : (fun y => putO (some f) ns i w N (.inr y)) = fun y => if y = (ids f ns)[i] then some w else N (.inr y) := by
    funext y
    show (if some y = (ids f ns)[i]? then some w else N (.inr y)) = _
    rw [List.getElem?_eq_getElem hi]
    by_cases c : y = (ids f ns)[i]
    · rw [if_pos c, if_pos (by rw [c])]
    · rw [if_neg c, if_neg (fun z => c (Option.some.inj z))]
  show KnAt _ _ _ _ _ _ _ _ _ _
  rw [e]
  exact hT
end
end D

namespace D
open PySem PySem.Spec PyProof.Rows L2
local macro_rules | `(tactic| walk_at "st") => `(tactic| first | exact SqT.of (by assumption) | exact Or.inl (by assumption) | exact SqT.of upd_same | fail "st")
local macro_rules | `(tactic| walk_at "ixt") => `(tactic| refine ⟨_, _, _, _, rfl, rfl, (by walk_at "st" : SqT _ _ _ _), by rfl, ?_⟩)
local macro_rules | `(tactic| walk_at "sq") => `(tactic| first | exact SqL.of (by assumption) | assumption | exact Or.inl (by assumption) | exact SqL.of upd_same | fail "sq")
local macro_rules | `(tactic| walk_at "ix") => `(tactic| refine ⟨_, _, _, _, rfl, rfl, (by walk_at "sq" : SqL _ _ _ _), by rfl, ?_⟩)
local macro_rules | `(tactic| walk_at "set") => `(tactic| refine ⟨_, _, _, _, rfl, rfl, by first | assumption | exact upd_same, by rfl, ?_⟩)
local macro_rules | `(tactic| walk_at "len") => `(tactic| refine ⟨_, _, rfl, Or.inl (by walk_at "sq" : SqL _ _ _ _), ?_⟩)
local macro_rules | `(tactic| walk_at "g") => `(tactic| repeat (first | refine ⟨_, rfl, ?_⟩ | refine ⟨_, _, rfl, rfl, ?_⟩ | refine ⟨Or.inr (by decide), ?_⟩ | refine ⟨Or.inl (by decide), ?_⟩ | refine ⟨(by decide : (0 : Int) < _), ?_⟩ | refine ⟨(⟨by decide, by decide⟩ : CDiv _ _), ?_⟩ | refine ⟨(⟨by decide, by decide, by decide⟩ : CPow _ _), ?_⟩ | refine Or.inl ⟨_, rfl, ?_⟩ | refine ⟨rfl, ?_⟩ | walk_at "ix" | walk_at "ixt" | walk_at "len" | fail "g"))
local macro_rules | `(tactic| walk_at "if") => `(tactic| refine ite2 (fun e => ?_) (fun e => ?_))
section
variable {P : Program} {w : World} {K : PySem.W.Frag} {mg : Str → Option Value} {base : Heap}
def foot (b : Addr) (x : BX) : Ms := fun c => c = b ∨ c ∈ x.as
theorem ins_t {T : Txt K mg} {M : Ms} {H : Hp} {a nd : Addr} {v : V} {ns : List Int} {N : Int ⊕ IP → Option Int} (h : BoxAt T none M H a nd v ns N) : ∃ dx fs, H a = some (.ins T.C_Things dx fs) ∧ fs.lookup (Str.ofString "show") = none := by
  obtain ⟨dx, kvs, ha, _⟩ := (show ThAt _ _ _ _ _ _ _ _ from h)
  exact ⟨dx, _, ha, rfl⟩
theorem ins_k {T : Txt K mg} {f : Fm} {M : Ms} {H : Hp} {a nd : Addr} {v : V} {ns : List Int} {N : Int ⊕ IP → Option Int} (h : BoxAt T (some f) M H a nd v ns N) : ∃ dx fs, H a = some (.ins T.C_Known dx fs) ∧ fs.lookup (Str.ofString "show") = none := by
  obtain ⟨dx, kvs, ivs, idd, kv, ha, _⟩ := (show KnAt _ _ _ _ _ _ _ _ _ _ from h)
  exact ⟨dx, _, ha, rfl⟩
theorem DictO.put_t {H : Hp} {d : Addr} {ns : List Int} {N : Int ⊕ IP → Option Int} {i : Nat} {x : Int} (w : Int) (h : DictO none H d N) (hx : ns[i]? = some x) (hm : (N (.inl x)).isSome = true) :
    ∃ kvs, H d = some (.dK kvs) ∧ kvs.length ≤ 5 ∧ ∀ H', H' d = some (.dK (putK kvs (.inl x) (.int w))) → DictO none H' d (putO none ns i w N) := by
  obtain ⟨kvs, h1, h2, h3⟩ := h
  obtain ⟨u, eu⟩ := Option.isSome_iff_exists.mp hm
  refine ⟨kvs, h1, h3, fun H' e => ⟨_, e, ?_, ?_⟩⟩
  · have e2 : (fun y => putO none ns i w N (.inl y)) = fun y => if y = x then some w else N (.inl y) := by
      funext y
      show (if some y = ns[i]? then some w else N (.inl y)) = _
      rw [hx]
      by_cases c : y = x
      · rw [if_pos c, if_pos (by rw [c])]
      · rw [if_neg c, if_neg (fun z => c (Option.some.inj z))]
    rw [e2]
    exact h2.put x w
  · rw [putK_len (y := .int u) (by rw [h2 x]; show Option.map V.int (N (.inl x)) = _; rw [eu]; rfl)]
    exact h3
theorem DictO.put_k {H : Hp} {d : Addr} {f : Fm} {ns : List Int} {N : Int ⊕ IP → Option Int} {i : Nat} {x : IP} (w : Int) (h : DictO (some f) H d N) (hx : (ids f ns)[i]? = some x) (hm : (N (.inr x)).isSome = true) :
    ∃ kvs, H d = some (.dT kvs) ∧ kvs.length ≤ 5 ∧ ∀ H', H' d = some (.dT (putK kvs (idk x) (.int w))) → DictO (some f) H' d (putO (some f) ns i w N) := by
  obtain ⟨kvs, h1, h2, h3⟩ := h
  obtain ⟨u, eu⟩ := Option.isSome_iff_exists.mp hm
  refine ⟨kvs, h1, h3, fun H' e => ⟨_, e, ?_, ?_⟩⟩
  · have e2 : (fun y => putO (some f) ns i w N (.inr y)) = fun y => if y = x then some w else N (.inr y) := by
      funext y
      show (if some y = (ids f ns)[i]? then some w else N (.inr y)) = _
      rw [hx]
      by_cases c : y = x
      · rw [if_pos c, if_pos (by rw [c])]
      · rw [if_neg c, if_neg (fun z => c (Option.some.inj z))]
    rw [e2]
    exact h2.put x w
  · rw [putK_len (y := .int u) (by rw [h2 x]; show Option.map V.int (N (.inr x)) = _; rw [eu]; rfl)]
    exact h3
theorem has_t {T : Txt K mg} {M : Ms} {H : Hp} {a nd : Addr} {v : V} {ns : List Int} {N : Int ⊕ IP → Option Int} (h : BoxAt T none M H a nd v ns N) {x : Int} (hx : x ∈ ns) : (N (.inl x)).isSome = true := by
  obtain ⟨dx, kvs, ha, hn, hd', l, mm, hR, hg⟩ := (show ThAt _ _ _ _ _ _ _ _ from h)
  exact (mm x).mpr hx
theorem has_k {T : Txt K mg} {f : Fm} {M : Ms} {H : Hp} {a nd : Addr} {v : V} {ns : List Int} {N : Int ⊕ IP → Option Int} (h : BoxAt T (some f) M H a nd v ns N) {x : IP} (hx : x ∈ ids f ns) : (N (.inr x)).isSome = true := by
  obtain ⟨dx, kvs, ivs, idd, kv, ha, hn, hd', l, nid, hid, hiv, mm, hK, hmem, hR, hg⟩ := (show KnAt _ _ _ _ _ _ _ _ _ _ from h)
  exact (mm x).mpr hx
def sp_step (T : Txt K mg) : Sp := fun vs H Q _ => ∃ (b : Addr) (x : BX) (rv : V) (nss : List (List Int)) (M : Ms), vs = [.ref b, .ref x.a, .ref x.m, rv] ∧ Bag K M H b ∧ BXok T M H x ∧ x.as.Nodup ∧ b ∉ x.as ∧ MenuAt M H rv nss ∧ 1 ≤ nss.length ∧ Mk M H ∧
  ∀ H' l x', Sx (foot b x) H H' → Gr H H' → (∀ p ∈ l, H p = none) → Bag K (alsoL M l) H' b → Mk (alsoL M l) H' → BXok T (alsoL M l) H' x' → x'.a = x.a → x'.m = x.m → x'.o = x.o → (∀ c ∈ x'.as, c ∈ x.as ∨ H c = none) → x'.as.Nodup → b ∉ x'.as → Q (.bl true) H'
theorem ok_step (T : Txt K mg) : FnOk P w K mg base CX0 12 T.f__law_step T.d__law_step ["_law_bag_here", "_law_box", "_law_model", "_law_rows"] (sp_step T) := by
  have G__law_pick := ok_pick (P := P) (w := w) (base := base) T
  have G__law_shows := ok_lshows (P := P) (w := w) (base := base) T
  have G__law_known_by := ok_known (P := P) (w := w) (base := base) T
  have G__law_not_read := ok_notread (P := P) (w := w) (base := base) T
  have G__law_not_set := ok_notset (P := P) (w := w) (base := base) T
  refine T.F__law_step.ok sc__law_step (fun vs H Q E h => ?_) (fun cdv A outer s H vs Q E hr h => ?_)
  · obtain ⟨_, _, _, _, _, rfl, _⟩ := h
    rfl
  · obtain ⟨b, ⟨xa, xnd, xm, xd, o, v, ns, N⟩, rv, nss, M, rfl, hB, hX, hnd, hb, hMe, hn1, hM, q⟩ := h
    obtain ⟨hBx, hMo, ma, mnd, mm, md⟩ := id hX
    dsimp only at hBx hMo ma mnd mm md
    have nd1 := List.nodup_cons.mp hnd
    have nd2 := List.nodup_cons.mp nd1.2
    have nd3 := List.nodup_cons.mp nd2.2
    have a_nd : xa ≠ xnd := fun z => nd1.1 (by rw [z]; simp)
    have a_m : xa ≠ xm := fun z => nd1.1 (by rw [z]; simp)
    have a_d : xa ≠ xd := fun z => nd1.1 (by rw [z]; simp)
    have nd_m : xnd ≠ xm := fun z => nd2.1 (by rw [z]; simp)
    have nd_d : xnd ≠ xd := fun z => nd2.1 (by rw [z]; simp)
    have m_d : xm ≠ xd := fun z => nd3.1 (by rw [z]; simp)
    have b_a : b ≠ xa := fun z => hb (by rw [z]; simp [BX.as])
    have b_nd : b ≠ xnd := fun z => hb (by rw [z]; simp [BX.as])
    have b_m : b ≠ xm := fun z => hb (by rw [z]; simp [BX.as])
    have b_d : b ≠ xd := fun z => hb (by rw [z]; simp [BX.as])
    have mb := hB.w
    obtain ⟨rm, xs, rfl, nr, hrm, lx, l8, rows⟩ := id hMe
    have ext : ∀ c ∈ [xa, xnd, xm, xd], H c ≠ none := hX.there
    have xa_t := ext xa (by simp)
    have xm_t := ext xm (by simp)
    have close_show : ∀ (H' : Hp) (nd' d' : Addr) (v' : V) (ns' : List Int) (N' : Int ⊕ IP → Option Int), Sx (foot b ⟨xa, xnd, xm, xd, o, v, ns, N⟩) H H' → Gr H H' → H nd' = none → H d' = none → nd' ≠ d' → Bag K (also (also M nd') d') H' b → Mk (also (also M nd') d') H' → BoxAt T o (also (also M nd') d') H' xa nd' v' ns' N' → ModAt o (also (also M nd') d') H' xm d' v' N' → Q (.bl true) H' := fun H' nd' d' v' ns' N' s g h1 h2 h3 h4 h5 h6 h7 => by
      have e1 : xa ≠ nd' := fun z => xa_t (by rw [z]; exact h1)
      have e2 : xa ≠ d' := fun z => xa_t (by rw [z]; exact h2)
      have e3 : nd' ≠ xm := fun z => xm_t (by rw [← z]; exact h1)
      have e4 : xm ≠ d' := fun z => xm_t (by rw [z]; exact h2)
      have e5 : b ≠ nd' := fun z => hB.there (by rw [z]; exact h1)
      have e6 : b ≠ d' := fun z => hB.there (by rw [z]; exact h2)
      refine q H' [nd', d'] ⟨xa, nd', xm, d', o, v', ns', N'⟩ s g (fun p hp => ?_) h4 h5 ⟨h6, h7, .inl (.inl ma), .inl (.inr rfl), .inl (.inl mm), .inr rfl⟩ rfl rfl rfl (fun c hc => ?_) ?_ ?_
      · simp only [List.mem_cons, List.not_mem_nil, or_false] at hp
        rcases hp with rfl | rfl
        · exact h1
        · exact h2
      · simp only [BX.as, List.mem_cons, List.not_mem_nil, or_false] at hc ⊢
        rcases hc with rfl | rfl | rfl | rfl
        · exact .inl (.inl rfl)
        · exact .inr h1
        · exact .inl (.inr (.inr (.inl rfl)))
        · exact .inr h2
      · simp [BX.as, e1, a_m, e2, e3, h3, e4]
      · simp [BX.as, b_a, e5, b_m, e6]
    have close_put : ∀ (H' : Hp) (N' : Int ⊕ IP → Option Int), Sx (foot b ⟨xa, xnd, xm, xd, o, v, ns, N⟩) H H' → Gr H H' → Bag K M H' b → Mk M H' → BoxAt T o M H' xa xnd v ns N' → ModAt o M H' xm xd v N' → Q (.bl true) H' := fun H' N' s g h4 h5 h6 h7 =>
      q H' [] ⟨xa, xnd, xm, xd, o, v, ns, N'⟩ s g (fun p hp => nomatch hp) h4 h5 ⟨h6, h7, ma, mnd, mm, md⟩ rfl rfl rfl (fun c hc => .inl hc) hnd hb
    have f_b : foot b ⟨xa, xnd, xm, xd, o, v, ns, N⟩ b := .inl rfl
    have f_a : foot b ⟨xa, xnd, xm, xd, o, v, ns, N⟩ xa := .inr (by simp [BX.as])
    have f_nd : foot b ⟨xa, xnd, xm, xd, o, v, ns, N⟩ xnd := .inr (by simp [BX.as])
    have f_m : foot b ⟨xa, xnd, xm, xd, o, v, ns, N⟩ xm := .inr (by simp [BX.as])
    have f_d : foot b ⟨xa, xnd, xm, xd, o, v, ns, N⟩ xd := .inr (by simp [BX.as])
    clear nd1 nd2 nd3 q
    cases o with
    | none =>
      have G_Things_show := ok_bshowT (P := P) (w := w) (base := base) T
      have G_Things___setitem__ := ok_bputT (P := P) (w := w) (base := base) T
      refine ⟨_, (pss_cons (ps_set (i := 4) sc__law_step.nd rfl (Or.inl rfl) (pe_call G__law_pick (hr.mono (by omega)) (by rfl) T.g__law_pick T.F__law_pick.kp T.b__law_pick .nil pass0 (pa_cons (pv 0) (pa_cons pe_int pa_nil))))
      (pss_cons (ps_set (i := 5) sc__law_step.nd rfl (Or.inr rfl) (pe_ix (ix_listK (K := K) rfl) (pv 2) pe_int (fun _ _ => rfl)))
      (pss_cons (ps_if (pt_cmpR op_lt (pv 4) pe_int (nomark _)) (pss_cons (ps_set (i := 6) sc__law_step.nd rfl (Or.inl rfl) (pe_ix (ix_tupK (K := K) rfl) (pv 3) (pe_call G__law_pick (hr.mono (by omega)) (by rfl) T.g__law_pick T.F__law_pick.kp T.b__law_pick .nil pass0 (pa_cons (pv 0) (pa_cons (pe_callB (call_lenK (K := K) rfl) (by rfl) T.m_len PySem.boot_len (pa_cons (pv 3) pa_nil)) pa_nil))) (fun _ _ => rfl)))
      (pss_cons (ps_expr (pe_meth (pv 1) T.cl_Things ⟨T.a_Things_show, T.i_Things_show, T.F_Things_show.kp⟩ G_Things_show (hr.mono (by omega)) T.b_Things_show .nil pass0 (pa_cons (pv 6) pa_nil)))
      (pss_one (ps_expr (pe_call G__law_shows (hr.mono (by omega)) (by rfl) T.g__law_shows T.F__law_shows.kp T.b__law_shows .nil pass0 (pa_cons (pv 2) (pa_cons (pv 6) pa_nil))))))) (pss_one (ps_if (PW.pt (pw_and (pt_cmpR op_lt (pv 4) pe_int (nomark _)) (pw_and1 (pt_truthK (K := K) rfl (pv 5) (by intro _; rfl))))) (pss_cons (ps_set (i := 7) sc__law_step.nd rfl (Or.inl rfl) (pe_call G__law_pick (hr.mono (by omega)) (by rfl) T.g__law_pick T.F__law_pick.kp T.b__law_pick .nil pass0 (pa_cons (pv 0) (pa_cons (pe_callB (call_lenK (K := K) rfl) (by rfl) T.m_len PySem.boot_len (pa_cons (pv 5) pa_nil)) pa_nil))))
      (pss_cons (ps_set (i := 8) sc__law_step.nd rfl (Or.inl rfl) (pe_ix (ix_listK (K := K) rfl) (pe_lst (pa_cons (pe_call G__law_pick (hr.mono (by omega)) (by rfl) T.g__law_pick T.F__law_pick.kp T.b__law_pick .nil pass0 (pa_cons (pv 0) (pa_cons pe_int pa_nil))) (pa_cons (pe_op op_pow pe_int pe_int) (pa_cons pe_int (pa_cons pe_int pa_nil))))) (pe_call G__law_pick (hr.mono (by omega)) (by rfl) T.g__law_pick T.F__law_pick.kp T.b__law_pick .nil pass0 (pa_cons (pv 0) (pa_cons pe_int pa_nil))) (fun _ _ => rfl)))
      (pss_cons (ps_ownPut (pv 1) (pe_ix (ix_tupK (K := K) rfl) (pv 5) (pv 7) (fun _ _ => rfl)) (pv 8) T.ns_Things T.a_Things___setitem__ T.i_Things___setitem__ G_Things___setitem__ T.b_Things___setitem__ (hr.mono (by omega)) pass0 rfl)
      (pss_cons (ps_set (i := 9) sc__law_step.nd rfl (Or.inl rfl) (pe_ix (ix_listK (K := K) rfl) (pv 2) pe_int (fun _ _ => rfl)))
      (pss_one (ps_dput (hu_of hr) (pv 9) (pe_ix (ix_listK (K := K) rfl) (pe_call G__law_known_by (hr.mono (by omega)) (by rfl) T.g__law_known_by T.F__law_known_by.kp T.b__law_known_by .nil pass0 (pa_cons (pe_ix (ix_listK (K := K) rfl) (pv 2) pe_int (fun _ _ => rfl)) (pa_cons (pv 5) pa_nil))) (pv 7) (fun _ _ => rfl)) (pv 8) rfl)))))) (pss_cons (ps_setLc (i := 11) (own := [("_law_item", 10)]) (g := gName 10)  (by rfl) sc__law_step.nd rfl rfl (sw_true rfl rfl rfl (by decide +kernel)) (pi_range1 (by rfl) T.m_range (pa_cons pe_int pa_nil)) (blkOk_by (own := [("_law_item", 10)]) (N := ["_law_bag_here", "_law_box", "_law_model", "_law_rows", "_law_way", "_law_row_here", "_law_shown", "_law_at", "_law_number_here", "_law_numbers", "_law_item", "_law_missing"]) (sc := defScope s__law_step) (by decide +kernel)) (fun _ _ _ _ _ => (pg_name (i := 10) sc__law_step.nd rfl (Or.inl rfl))) (fun _ _ _ _ _ => (pts_one (pt_cmpR (op_notIn_seqK (K := K) rfl) (pv 10) (pv 5) (by rfl)))) (fun _ _ _ _ _ => (pv 10)))
      (pss_cons (ps_set (i := 10) sc__law_step.nd rfl (Or.inl rfl) (pe_ix (ix_listK (K := K) rfl) (pv 11) (pe_call G__law_pick (hr.mono (by omega)) (by rfl) T.g__law_pick T.F__law_pick.kp T.b__law_pick .nil pass0 (pa_cons (pv 0) (pa_cons (pe_callB (call_lenK (K := K) rfl) (by rfl) T.m_len PySem.boot_len (pa_cons (pv 11) pa_nil)) pa_nil))) (fun _ _ => rfl)))
      (pss_one (ps_ret (pe_and (pe_call G__law_not_read (hr.mono (by omega)) (by rfl) T.g__law_not_read T.F__law_not_read.kp T.b__law_not_read .nil pass0 (pa_cons (pv 1) (pa_cons (pv 10) pa_nil))) (pe_one (pe_call G__law_not_set (hr.mono (by omega)) (by rfl) T.g__law_not_set T.F__law_not_set.kp T.b__law_not_set .nil pass0 (pa_cons (pv 1) (pa_cons (pv 10) pa_nil))))))))))))
      (pss_one (ps_ret pe_bl))))), ?_⟩
      walk_at "g"
      refine ⟨b, _, M, rfl, hB, by omega, by omega, fun way H1 h0 h1 hA1 hB1 => ?_⟩
      have sb1 : Sx (one b) H H1 := hA1.sx
      have g1 := At.gr hA1 hB1.there
      have hX1 : BXok T M H1 _ := hX.frame sb1 (one_le mb) (fun c hc z => hb (by rw [← show c = b from z]; exact hc))
      have hMe1 := hMe.sx (sb1.le (one_le mb))
      have hM1 := hM.gr g1
      obtain ⟨fv, hm1, hF1, hD1⟩ := hX1.2.1
      dsimp only at hm1 hF1 hD1
      obtain ⟨hR1, hg⟩ := hX1.1.row
      dsimp only at hR1 hg
      have hr1 := sx_rd sb1 (fun z => nr (by rw [show rm = b from z]; exact mb)) hrm
      walk_at "g"
      walk_at "if"
      · walk_at "g"
        refine ⟨_, _, rfl, .inr (.inl hr1), ?_⟩
        walk_at "g"
        refine ⟨b, _, M, rfl, hB1, by omega, by omega, fun w2 H2 k0 k1 hA2 hB2 => ?_⟩
        obtain ⟨j, rfl⟩ : ∃ j : Nat, w2 = (j : Int) := ⟨w2.toNat, by omega⟩
        have hj : j < nss.length := by omega
        obtain ⟨sw, hw, hRw, gw⟩ := rows j _ (List.getElem?_eq_getElem hj)
        have sb2 : Sx (one b) H H2 := sb1.trans hA2.sx
        have g2 := g1.trans (At.gr hA2 hB2.there)
        have hX2 : BXok T M H2 _ := hX.frame sb2 (one_le mb) (fun c hc z => hb (by rw [← show c = b from z]; exact hc))
        have hM2 := hM.gr g2
        have hr2 := sx_rd sb2 (fun z => nr (by rw [show rm = b from z]; exact mb)) hrm
        have hRw2 := hRw.sx (sb2.le (one_le mb))
        refine ⟨_, _, _, _, rfl, rfl, .inl hr2, atI_nat hw, ?_⟩
        walk_at "g"
        obtain ⟨dx, fs, hins, hlk⟩ := ins_t hX2.1
        refine ⟨xa, dx, fs, rfl, hins, hlk, ?_⟩
        walk_at "g"
        refine ⟨xa, xnd, v, sw, ns, _, N, M, rfl, hX2.1, hRw2, gw, hM2, ma, fun H3 nd' s3 g3 n3 hBx3 => ?_⟩
        obtain ⟨fv2, hm2, hF2, hD2⟩ := hX2.2.1
        dsimp only at hm2 hF2 hD2
        have hm3 := s3 _ _ (show ¬ one xa xm from fun z => a_m z.symm) hm2
        have s3L : Sx (also M nd') H2 H3 := s3.le (one_le (.inl ma))
        have hD3 := hD2.frame s3 (show ¬ one xa xd from fun z => a_d z.symm)
        have nb : b ≠ nd' := fun z => hB2.there (by rw [z]; exact n3)
        have hB3 : Bag K (also M nd') H3 b := (hB2.more n3).keep s3 (show ¬ one xa b from b_a) (one_le (.inl ma))
        have hM3 : Mk (also M nd') H3 := (hM2.gr g3).also hBx3.there.2.1
        walk_at "g"
        refine ⟨none, xm, xd, fv2, v, sw, nss[j], N, also M nd', rfl, hm3, FormAt.sx (FormAt.fresh hF2 n3) s3L, hD3, (hRw2.fresh n3).sx s3L, gw, hM3, .inl mm, fun H4 d' s4 g4 n4 hm4 hD4 => ?_⟩
        walk_at "g"
        have n4' : H d' = none := none_gr (g2.trans g3) n4
        have n3' : H nd' = none := none_gr g2 n3
        have ndd : nd' ≠ d' := fun z => hBx3.there.2.1 (by rw [z]; exact n4)
        have s4L : Sx (also (also M nd') d') H3 H4 := s4.le (one_le (.inl (.inl mm)))
        have nm : nd' ≠ xm := fun z => xm_t (by rw [← z]; exact n3')
        refine close_show H4 nd' d' sw nss[j] _ ((sb2.le (one_le f_b)).trans ((s3.le (one_le f_a)).trans (s4.le (one_le f_m)))) (g2.trans (g3.trans g4)) n3' n4' ndd ((hB3.more n4).keep s4 (show ¬ one xm b from b_m) (one_le (.inl (.inl mm)))) ((hM3.gr g4).also hD4.there) ((hBx3.fresh n4).frame s4 (one_le (.inl (.inl mm))) (show ¬ one xm xa from a_m) (show ¬ one xm nd' from nm)) ⟨fv2, hm4, FormAt.sx (FormAt.fresh (FormAt.sx (FormAt.fresh hF2 n3) s3L) n4) s4L, hD4⟩
      · rename_i c2
        have c2' : ¬ way < 2 := fun z => c2 (decide_eq_true z)
        obtain ⟨br, ob, rfl, nbr, hbr, o1, o2⟩ := id hR1
        let spare : List Int := ten.filter (fun x => decide (x ∉ ns))
        have ten_at : ∀ i : Nat, i < 10 → ten[i]? = some (i : Int) := by decide
        have spare_in : ∀ x ∈ spare, x ∉ ns := fun x hx => of_decide_eq_true (List.mem_filter.mp hx).2
        have spare_pos : 0 < spare.length := by
          rw [List.length_pos_iff]
          intro z
          have hsub : ∀ x ∈ ten, x ∈ ns := fun x hx => by
            by_cases c : x ∈ ns
            · exact c
            · exfalso
              have : x ∈ spare := List.mem_filter.mpr ⟨hx, decide_eq_true c⟩
              rw [z] at this
              exact nomatch this
          have := (sub_len ns ten (by decide) hsub).1
          have l5 := hg.1
          have : ten.length = 10 := rfl
          omega
        have spare_le : spare.length ≤ 10 := List.length_filter_le _ _
        walk_at "g"
        by_cases c4 : way < 4
        · rw [decide_eq_true c4]
          walk_at "g"
          refine ⟨!(ns.map V.int).isEmpty, .inr (.inl ⟨_, .inl (.inr ⟨ob, hbr⟩), rfl⟩), ?_⟩
          by_cases cn : ns = []
          · rw [show (!(ns.map V.int).isEmpty) = false by rw [cn]; rfl]
            walk_at "g"
            refine ⟨by decide, by decide, fun D hD => ?_⟩
            refine rng_loop (n := 10) (lo := 0) (fun i H' => Same H1 H' ∧ H' D = some (.lst (((ten.take i).filter (fun x => decide (x ∉ ns))).map V.int))) ⟨same_new hD, upd_same⟩ (fun i H' hi p => ?_) (fun H2 p => ?_)
            · obtain ⟨s2, eD⟩ := p
              rw [Int.zero_add]
              refine ⟨rfl, ?_⟩
              walk_at "g"
              refine ⟨br, _, rfl, .inr (.inl (.inr ⟨ob, s2 _ _ hbr⟩)), rfl, flat_ints ns, ?_⟩
              rw [in_ints]
              refine ⟨_, rfl, ?_⟩
              have ht : (ten.take (i + 1)).filter (fun x => decide (x ∉ ns)) = (ten.take i).filter (fun x => decide (x ∉ ns)) ++ if (i : Int) ∈ ns then [] else [(i : Int)] := by
                rw [List.take_add_one, ten_at i hi, List.filter_append]
                congr 1
                by_cases c : (i : Int) ∈ ns
                · rw [if_pos c]; simp [c]
                · rw [if_neg c]; simp [c]
              have lt : ((ten.take i).filter (fun x => decide (x ∉ ns))).length ≤ 10 := Nat.le_trans (List.length_filter_le _ _) (by rw [List.length_take]; have : ten.length = 10 := rfl; omega)
              rw [ht]
              by_cases c : (i : Int) ∈ ns
              · rw [decide_eq_true c, if_pos c, List.append_nil]
                exact ⟨s2, eD⟩
              · rw [decide_eq_false c, if_neg c]
                walk_at "g"
                refine ⟨_, eD, small1000 (by rw [List.length_map]; omega), same_put s2 hD, ?_⟩
                rw [upd_same, List.map_append]
                rfl
            obtain ⟨s2, eD⟩ := p
            have eD : H2 D = some (.lst (spare.map V.int)) := eD
            have hB2 := hB1.same s2
            have Db : D ≠ b := fun z => hB1.there (by rw [← z]; exact hD)
            have lsp : (spare.map V.int).length = spare.length := List.length_map _
            walk_at "g"
            refine ⟨b, _, M, rfl, hB2, by omega, by omega, fun w3 H3 k0 k1 hA3 hB3 => ?_⟩
            obtain ⟨j, rfl⟩ : ∃ j : Nat, w3 = (j : Int) := ⟨w3.toNat, by omega⟩
            have hj : j < spare.length := by omega
            have eD3 := (hA3 D Db).trans eD
            have xn := spare_in spare[j] (List.getElem_mem hj)
            have g3 := (Gr.same s2).trans (At.gr hA3 hB3.there)
            have sb3 : Sx (one b) H H3 := sb1.trans ((Sx.same s2).trans hA3.sx)
            have hX3 : BXok T M H3 _ := hX.frame sb3 (one_le mb) (fun c hc z => hb (by rw [← show c = b from z]; exact hc))
            walk_at "g"
            refine ⟨_, _, _, _, rfl, rfl, SqL.of eD3, atI_nat (by rw [List.getElem?_map, List.getElem?_eq_getElem hj]; rfl), ?_⟩
            walk_at "g"
            refine ⟨none, xa, xnd, .ref br, ns, N, spare[j], M, rfl, hX3.1, xn, fun H4 s4 => ?_⟩
            walk_at "g"
            refine ⟨none, xa, xnd, .ref br, ns, N, spare[j], M, rfl, BoxAt.same hX3.1 s4, xn, fun H5 s5 => ?_⟩
            walk_at "g"
            have s45 := s4.trans s5
            exact close_put H5 N ((sb3.trans (Sx.same s45)).le (one_le f_b)) (g1.trans (g3.trans (Gr.same s45))) (hB3.same s45) ((hM1.gr g3).gr (Gr.same s45)) (BoxAt.same hX3.1 s45) (hX3.2.1.same s45)
          · rw [show (!(ns.map V.int).isEmpty) = true by cases ns with | nil => exact absurd rfl cn | cons _ _ => rfl]
            walk_at "g"
            refine ⟨_, _, rfl, .inr (.inl (.inr ⟨ob, hbr⟩)), ?_⟩
            have ln : (ns.map V.int).length = ns.length := List.length_map _
            have lpos : 0 < ns.length := List.length_pos_iff.mpr cn
            walk_at "g"
            refine ⟨b, _, M, rfl, hB1, by omega, by have := hg.1; omega, fun w3 H3 k0 k1 hA3 hB3 => ?_⟩
            obtain ⟨j, rfl⟩ : ∃ j : Nat, w3 = (j : Int) := ⟨w3.toNat, by omega⟩
            have hj : j < ns.length := by omega
            walk_at "g"
            refine ⟨b, _, M, rfl, hB3, by omega, by omega, fun w4 H4 p0 p1 hA4 hB4 => ?_⟩
            walk_at "g"
            refine ⟨szK rfl, fun p5 hp5 => ?_⟩
            have s5 : Same H4 (upd H4 p5 (.lst [.int w4, .int (10 ^ 20), .int 0, .int 1])) := same_new hp5
            have e5 : upd H4 p5 (.lst [.int w4, .int (10 ^ 20), .int 0, .int 1]) p5 = some (.lst [.int w4, .int (10 ^ 20), .int 0, .int 1]) := upd_same
            have hB5 := hB4.same s5
            have p5b : p5 ≠ b := fun z => hB4.there (by rw [← z]; exact hp5)
            walk_at "g"
            refine ⟨b, _, M, rfl, hB5, by omega, by omega, fun w6 H6 r0 r1 hA6 hB6 => ?_⟩
            have e6 := (hA6 p5 p5b).trans e5
            obtain ⟨u, hu⟩ : ∃ u, atI [.int w4, .int (10 ^ 20), .int 0, .int 1] w6 = some (V.int u) := by
              have hc : w6 = 0 ∨ w6 = 1 ∨ w6 = 2 ∨ w6 = 3 := by omega
              rcases hc with rfl | rfl | rfl | rfl <;> exact ⟨_, rfl⟩
            refine ⟨_, _, _, _, rfl, rfl, SqL.of e6, hu, ?_⟩
            have sb6 : Sx (one b) H H6 := sb1.trans (hA3.sx.trans (hA4.sx.trans ((Sx.same s5).trans hA6.sx)))
            have g6 : Gr H H6 := g1.trans ((At.gr hA3 hB3.there).trans ((At.gr hA4 hB4.there).trans ((Gr.same s5).trans (At.gr hA6 hB6.there))))
            have hX6 : BXok T M H6 _ := hX.frame sb6 (one_le mb) (fun c hc z => hb (by rw [← show c = b from z]; exact hc))
            obtain ⟨hR6, _⟩ := hX6.1.row
            dsimp only at hR6
            have hbr6 : H6 br = some (.frz ob (.tup (ns.map V.int))) := (hA6.sx br _ (fun z => nbr (by rw [show br = b from z]; exact mb)) (s5 _ _ (hA4.sx br _ (fun z => nbr (by rw [show br = b from z]; exact mb)) (hA3.sx br _ (fun z => nbr (by rw [show br = b from z]; exact mb)) hbr))))
            have at0 : atI (ns.map V.int) (j : Int) = some (.int ns[j]) := atI_nat (by rw [List.getElem?_map, List.getElem?_eq_getElem hj]; rfl)
            walk_at "g"
            refine ⟨_, _, _, _, rfl, rfl, .inl (.inr ⟨ob, hbr6⟩), at0, ?_⟩
            obtain ⟨dx, fs, hins, hlk⟩ := ins_t hX6.1
            refine ⟨xa, dx, fs, rfl, hins, xa, xnd, .ref br, ns, N, j, ns[j], u, M, rfl, hX6.1, List.getElem?_eq_getElem hj, mnd, fun H7 s7 g7 hB7 => ?_⟩
            obtain ⟨fv6, hm6, hF6, hD6⟩ := hX6.2.1
            dsimp only at hm6 hF6 hD6
            have hm7 := s7 _ _ (show ¬ one xnd xm from fun z => nd_m z.symm) hm6
            have hD7 := hD6.frame s7 (show ¬ one xnd xd from fun z => nd_d z.symm)
            have s7L : Sx M H6 H7 := s7.le (one_le mnd)
            have hbr7 : H7 br = some (.frz ob (.tup (ns.map V.int))) := s7 _ _ (fun z => nbr (by rw [show br = xnd from z]; exact mnd)) hbr6
            have hM7 := (hM.gr g6).gr g7
            walk_at "g"
            refine ⟨none, fv6, .ref br, ns, M, rfl, FormAt.sx hF6 s7L, hR6.sx s7L, hg, hM7, fun H8 l8' ys s8 nl8 el8 hys => ?_⟩
            have hD8 := hD7.frame (F := fun _ => False) (Sx.same s8) (fun z => z)
            walk_at "g"
            obtain rfl : ys = ns.map V.int := hys
            refine ⟨_, _, _, _, rfl, rfl, .inl el8, at0, ?_⟩
            obtain ⟨kvs, hd8, lk8, fin8⟩ := hD8.put_t u (List.getElem?_eq_getElem hj) (has_t hBx (List.getElem_mem hj))
            walk_at "g"
            refine ⟨xd, _, rfl, DPut.k (k := .inl ns[j]) hd8 (small1000 (by omega)), ?_⟩
            walk_at "g"
            have sP : Sx (one xd) H8 (upd H8 xd (.dK (putK kvs (.inl ns[j]) (.int u)))) := Sx.put rfl
            refine close_put _ (putO none ns j u N) ((sb6.le (one_le f_b)).trans ((s7.le (one_le f_nd)).trans ((Sx.same s8).trans (sP.le (one_le f_d))))) (g6.trans (g7.trans ((Gr.same s8).trans Gr.upd))) (((hB6.keep s7 (show ¬ one xnd b from b_nd) (one_le mnd)).same s8).keep sP (show ¬ one xd b from b_d) (one_le md)) ((hM7.gr (Gr.same s8)).gr Gr.upd) ((BoxAt.same hB7 s8).frame sP (one_le md) (show ¬ one xd xa from a_d) (show ¬ one xd xnd from nd_d)) ⟨fv6, ?_, FormAt.sx hF6 (s7L.trans ((Sx.same s8).trans (sP.le (one_le md)))), fin8 _ upd_same⟩
            rw [upd_ne m_d]
            exact s8 _ _ hm7
        · rw [decide_eq_false c4]
          walk_at "g"
          refine ⟨by decide, by decide, fun D hD => ?_⟩
          refine rng_loop (n := 10) (lo := 0) (fun i H' => Same H1 H' ∧ H' D = some (.lst (((ten.take i).filter (fun x => decide (x ∉ ns))).map V.int))) ⟨same_new hD, upd_same⟩ (fun i H' hi p => ?_) (fun H2 p => ?_)
          · obtain ⟨s2, eD⟩ := p
            rw [Int.zero_add]
            refine ⟨rfl, ?_⟩
            walk_at "g"
            refine ⟨br, _, rfl, .inr (.inl (.inr ⟨ob, s2 _ _ hbr⟩)), rfl, flat_ints ns, ?_⟩
            rw [in_ints]
            refine ⟨_, rfl, ?_⟩
            have ht : (ten.take (i + 1)).filter (fun x => decide (x ∉ ns)) = (ten.take i).filter (fun x => decide (x ∉ ns)) ++ if (i : Int) ∈ ns then [] else [(i : Int)] := by
              rw [List.take_add_one, ten_at i hi, List.filter_append]
              congr 1
              by_cases c : (i : Int) ∈ ns
              · rw [if_pos c]; simp [c]
              · rw [if_neg c]; simp [c]
            have lt : ((ten.take i).filter (fun x => decide (x ∉ ns))).length ≤ 10 := Nat.le_trans (List.length_filter_le _ _) (by rw [List.length_take]; have : ten.length = 10 := rfl; omega)
            rw [ht]
            by_cases c : (i : Int) ∈ ns
            · rw [decide_eq_true c, if_pos c, List.append_nil]
              exact ⟨s2, eD⟩
            · rw [decide_eq_false c, if_neg c]
              walk_at "g"
              refine ⟨_, eD, small1000 (by rw [List.length_map]; omega), same_put s2 hD, ?_⟩
              rw [upd_same, List.map_append]
              rfl
          obtain ⟨s2, eD⟩ := p
          have eD : H2 D = some (.lst (spare.map V.int)) := eD
          have hB2 := hB1.same s2
          have Db : D ≠ b := fun z => hB1.there (by rw [← z]; exact hD)
          have lsp : (spare.map V.int).length = spare.length := List.length_map _
          walk_at "g"
          refine ⟨b, _, M, rfl, hB2, by omega, by omega, fun w3 H3 k0 k1 hA3 hB3 => ?_⟩
          obtain ⟨j, rfl⟩ : ∃ j : Nat, w3 = (j : Int) := ⟨w3.toNat, by omega⟩
          have hj : j < spare.length := by omega
          have eD3 := (hA3 D Db).trans eD
          have xn := spare_in spare[j] (List.getElem_mem hj)
          have g3 := (Gr.same s2).trans (At.gr hA3 hB3.there)
          have sb3 : Sx (one b) H H3 := sb1.trans ((Sx.same s2).trans hA3.sx)
          have hX3 : BXok T M H3 _ := hX.frame sb3 (one_le mb) (fun c hc z => hb (by rw [← show c = b from z]; exact hc))
          walk_at "g"
          refine ⟨_, _, _, _, rfl, rfl, SqL.of eD3, atI_nat (by rw [List.getElem?_map, List.getElem?_eq_getElem hj]; rfl), ?_⟩
          walk_at "g"
          refine ⟨none, xa, xnd, .ref br, ns, N, spare[j], M, rfl, hX3.1, xn, fun H4 s4 => ?_⟩
          walk_at "g"
          refine ⟨none, xa, xnd, .ref br, ns, N, spare[j], M, rfl, BoxAt.same hX3.1 s4, xn, fun H5 s5 => ?_⟩
          walk_at "g"
          have s45 := s4.trans s5
          exact close_put H5 N ((sb3.trans (Sx.same s45)).le (one_le f_b)) (g1.trans (g3.trans (Gr.same s45))) (hB3.same s45) ((hM1.gr g3).gr (Gr.same s45)) (BoxAt.same hX3.1 s45) (hX3.2.1.same s45)
    | some f =>
      have G_Known_show := ok_bshowK (P := P) (w := w) (base := base) T f
      have G_Known___setitem__ := ok_bputK (P := P) (w := w) (base := base) T f
      refine ⟨_, (pss_cons (ps_set (i := 4) sc__law_step.nd rfl (Or.inl rfl) (pe_call G__law_pick (hr.mono (by omega)) (by rfl) T.g__law_pick T.F__law_pick.kp T.b__law_pick .nil pass0 (pa_cons (pv 0) (pa_cons pe_int pa_nil))))
      (pss_cons (ps_set (i := 5) sc__law_step.nd rfl (Or.inr rfl) (pe_ix (ix_listK (K := K) rfl) (pv 2) pe_int (fun _ _ => rfl)))
      (pss_cons (ps_if (pt_cmpR op_lt (pv 4) pe_int (nomark _)) (pss_cons (ps_set (i := 6) sc__law_step.nd rfl (Or.inl rfl) (pe_ix (ix_tupK (K := K) rfl) (pv 3) (pe_call G__law_pick (hr.mono (by omega)) (by rfl) T.g__law_pick T.F__law_pick.kp T.b__law_pick .nil pass0 (pa_cons (pv 0) (pa_cons (pe_callB (call_lenK (K := K) rfl) (by rfl) T.m_len PySem.boot_len (pa_cons (pv 3) pa_nil)) pa_nil))) (fun _ _ => rfl)))
      (pss_cons (ps_expr (pe_meth (pv 1) T.cl_Known ⟨T.a_Known_show, T.i_Known_show, T.F_Known_show.kp⟩ G_Known_show (hr.mono (by omega)) T.b_Known_show .nil pass0 (pa_cons (pv 6) pa_nil)))
      (pss_one (ps_expr (pe_call G__law_shows (hr.mono (by omega)) (by rfl) T.g__law_shows T.F__law_shows.kp T.b__law_shows .nil pass0 (pa_cons (pv 2) (pa_cons (pv 6) pa_nil))))))) (pss_one (ps_if (PW.pt (pw_and (pt_cmpR op_lt (pv 4) pe_int (nomark _)) (pw_and1 (pt_truthK (K := K) rfl (pv 5) (by intro _; rfl))))) (pss_cons (ps_set (i := 7) sc__law_step.nd rfl (Or.inl rfl) (pe_call G__law_pick (hr.mono (by omega)) (by rfl) T.g__law_pick T.F__law_pick.kp T.b__law_pick .nil pass0 (pa_cons (pv 0) (pa_cons (pe_callB (call_lenK (K := K) rfl) (by rfl) T.m_len PySem.boot_len (pa_cons (pv 5) pa_nil)) pa_nil))))
      (pss_cons (ps_set (i := 8) sc__law_step.nd rfl (Or.inl rfl) (pe_ix (ix_listK (K := K) rfl) (pe_lst (pa_cons (pe_call G__law_pick (hr.mono (by omega)) (by rfl) T.g__law_pick T.F__law_pick.kp T.b__law_pick .nil pass0 (pa_cons (pv 0) (pa_cons pe_int pa_nil))) (pa_cons (pe_op op_pow pe_int pe_int) (pa_cons pe_int (pa_cons pe_int pa_nil))))) (pe_call G__law_pick (hr.mono (by omega)) (by rfl) T.g__law_pick T.F__law_pick.kp T.b__law_pick .nil pass0 (pa_cons (pv 0) (pa_cons pe_int pa_nil))) (fun _ _ => rfl)))
      (pss_cons (ps_ownPut (pv 1) (pe_ix (ix_tupK (K := K) rfl) (pv 5) (pv 7) (fun _ _ => rfl)) (pv 8) T.ns_Known T.a_Known___setitem__ T.i_Known___setitem__ G_Known___setitem__ T.b_Known___setitem__ (hr.mono (by omega)) pass0 rfl)
      (pss_cons (ps_set (i := 9) sc__law_step.nd rfl (Or.inl rfl) (pe_ix (ix_listK (K := K) rfl) (pv 2) pe_int (fun _ _ => rfl)))
      (pss_one (ps_dput (hu_of hr) (pv 9) (pe_ix (ix_listK (K := K) rfl) (pe_call G__law_known_by (hr.mono (by omega)) (by rfl) T.g__law_known_by T.F__law_known_by.kp T.b__law_known_by .nil pass0 (pa_cons (pe_ix (ix_listK (K := K) rfl) (pv 2) pe_int (fun _ _ => rfl)) (pa_cons (pv 5) pa_nil))) (pv 7) (fun _ _ => rfl)) (pv 8) rfl)))))) (pss_cons (ps_setLc (i := 11) (own := [("_law_item", 10)]) (g := gName 10)  (by rfl) sc__law_step.nd rfl rfl (sw_true rfl rfl rfl (by decide +kernel)) (pi_range1 (by rfl) T.m_range (pa_cons pe_int pa_nil)) (blkOk_by (own := [("_law_item", 10)]) (N := ["_law_bag_here", "_law_box", "_law_model", "_law_rows", "_law_way", "_law_row_here", "_law_shown", "_law_at", "_law_number_here", "_law_numbers", "_law_item", "_law_missing"]) (sc := defScope s__law_step) (by decide +kernel)) (fun _ _ _ _ _ => (pg_name (i := 10) sc__law_step.nd rfl (Or.inl rfl))) (fun _ _ _ _ _ => (pts_one (pt_cmpR (op_notIn_seqK (K := K) rfl) (pv 10) (pv 5) (by rfl)))) (fun _ _ _ _ _ => (pv 10)))
      (pss_cons (ps_set (i := 10) sc__law_step.nd rfl (Or.inl rfl) (pe_ix (ix_listK (K := K) rfl) (pv 11) (pe_call G__law_pick (hr.mono (by omega)) (by rfl) T.g__law_pick T.F__law_pick.kp T.b__law_pick .nil pass0 (pa_cons (pv 0) (pa_cons (pe_callB (call_lenK (K := K) rfl) (by rfl) T.m_len PySem.boot_len (pa_cons (pv 11) pa_nil)) pa_nil))) (fun _ _ => rfl)))
      (pss_one (ps_ret (pe_and (pe_call G__law_not_read (hr.mono (by omega)) (by rfl) T.g__law_not_read T.F__law_not_read.kp T.b__law_not_read .nil pass0 (pa_cons (pv 1) (pa_cons (pv 10) pa_nil))) (pe_one (pe_call G__law_not_set (hr.mono (by omega)) (by rfl) T.g__law_not_set T.F__law_not_set.kp T.b__law_not_set .nil pass0 (pa_cons (pv 1) (pa_cons (pv 10) pa_nil))))))))))))
      (pss_one (ps_ret pe_bl))))), ?_⟩
      walk_at "g"
      refine ⟨b, _, M, rfl, hB, by omega, by omega, fun way H1 h0 h1 hA1 hB1 => ?_⟩
      have sb1 : Sx (one b) H H1 := hA1.sx
      have g1 := At.gr hA1 hB1.there
      have hX1 : BXok T M H1 _ := hX.frame sb1 (one_le mb) (fun c hc z => hb (by rw [← show c = b from z]; exact hc))
      have hMe1 := hMe.sx (sb1.le (one_le mb))
      have hM1 := hM.gr g1
      obtain ⟨fv, hm1, hF1, hD1⟩ := hX1.2.1
      dsimp only at hm1 hF1 hD1
      obtain ⟨hR1, hg⟩ := hX1.1.row
      dsimp only at hR1 hg
      have hr1 := sx_rd sb1 (fun z => nr (by rw [show rm = b from z]; exact mb)) hrm
      walk_at "g"
      walk_at "if"
      · walk_at "g"
        refine ⟨_, _, rfl, .inr (.inl hr1), ?_⟩
        walk_at "g"
        refine ⟨b, _, M, rfl, hB1, by omega, by omega, fun w2 H2 k0 k1 hA2 hB2 => ?_⟩
        obtain ⟨j, rfl⟩ : ∃ j : Nat, w2 = (j : Int) := ⟨w2.toNat, by omega⟩
        have hj : j < nss.length := by omega
        obtain ⟨sw, hw, hRw, gw⟩ := rows j _ (List.getElem?_eq_getElem hj)
        have sb2 : Sx (one b) H H2 := sb1.trans hA2.sx
        have g2 := g1.trans (At.gr hA2 hB2.there)
        have hX2 : BXok T M H2 _ := hX.frame sb2 (one_le mb) (fun c hc z => hb (by rw [← show c = b from z]; exact hc))
        have hM2 := hM.gr g2
        have hr2 := sx_rd sb2 (fun z => nr (by rw [show rm = b from z]; exact mb)) hrm
        have hRw2 := hRw.sx (sb2.le (one_le mb))
        refine ⟨_, _, _, _, rfl, rfl, .inl hr2, atI_nat hw, ?_⟩
        walk_at "g"
        obtain ⟨dx, fs, hins, hlk⟩ := ins_k hX2.1
        refine ⟨xa, dx, fs, rfl, hins, hlk, ?_⟩
        walk_at "g"
        refine ⟨xa, xnd, v, sw, ns, _, N, M, rfl, hX2.1, hRw2, gw, hM2, ma, fun H3 nd' s3 g3 n3 hBx3 => ?_⟩
        obtain ⟨fv2, hm2, hF2, hD2⟩ := hX2.2.1
        dsimp only at hm2 hF2 hD2
        have hm3 := s3 _ _ (show ¬ one xa xm from fun z => a_m z.symm) hm2
        have s3L : Sx (also M nd') H2 H3 := s3.le (one_le (.inl ma))
        have hD3 := hD2.frame s3 (show ¬ one xa xd from fun z => a_d z.symm)
        have nb : b ≠ nd' := fun z => hB2.there (by rw [z]; exact n3)
        have hB3 : Bag K (also M nd') H3 b := (hB2.more n3).keep s3 (show ¬ one xa b from b_a) (one_le (.inl ma))
        have hM3 : Mk (also M nd') H3 := (hM2.gr g3).also hBx3.there.2.1
        walk_at "g"
        refine ⟨(some f), xm, xd, fv2, v, sw, nss[j], N, also M nd', rfl, hm3, FormAt.sx (FormAt.fresh hF2 n3) s3L, hD3, (hRw2.fresh n3).sx s3L, gw, hM3, .inl mm, fun H4 d' s4 g4 n4 hm4 hD4 => ?_⟩
        walk_at "g"
        have n4' : H d' = none := none_gr (g2.trans g3) n4
        have n3' : H nd' = none := none_gr g2 n3
        have ndd : nd' ≠ d' := fun z => hBx3.there.2.1 (by rw [z]; exact n4)
        have s4L : Sx (also (also M nd') d') H3 H4 := s4.le (one_le (.inl (.inl mm)))
        have nm : nd' ≠ xm := fun z => xm_t (by rw [← z]; exact n3')
        refine close_show H4 nd' d' sw nss[j] _ ((sb2.le (one_le f_b)).trans ((s3.le (one_le f_a)).trans (s4.le (one_le f_m)))) (g2.trans (g3.trans g4)) n3' n4' ndd ((hB3.more n4).keep s4 (show ¬ one xm b from b_m) (one_le (.inl (.inl mm)))) ((hM3.gr g4).also hD4.there) ((hBx3.fresh n4).frame s4 (one_le (.inl (.inl mm))) (show ¬ one xm xa from a_m) (show ¬ one xm nd' from nm)) ⟨fv2, hm4, FormAt.sx (FormAt.fresh (FormAt.sx (FormAt.fresh hF2 n3) s3L) n4) s4L, hD4⟩
      · rename_i c2
        have c2' : ¬ way < 2 := fun z => c2 (decide_eq_true z)
        obtain ⟨br, ob, rfl, nbr, hbr, o1, o2⟩ := id hR1
        let spare : List Int := ten.filter (fun x => decide (x ∉ ns))
        have ten_at : ∀ i : Nat, i < 10 → ten[i]? = some (i : Int) := by decide
        have spare_in : ∀ x ∈ spare, x ∉ ns := fun x hx => of_decide_eq_true (List.mem_filter.mp hx).2
        have spare_pos : 0 < spare.length := by
          rw [List.length_pos_iff]
          intro z
          have hsub : ∀ x ∈ ten, x ∈ ns := fun x hx => by
            by_cases c : x ∈ ns
            · exact c
            · exfalso
              have : x ∈ spare := List.mem_filter.mpr ⟨hx, decide_eq_true c⟩
              rw [z] at this
              exact nomatch this
          have := (sub_len ns ten (by decide) hsub).1
          have l5 := hg.1
          have : ten.length = 10 := rfl
          omega
        have spare_le : spare.length ≤ 10 := List.length_filter_le _ _
        walk_at "g"
        by_cases c4 : way < 4
        · rw [decide_eq_true c4]
          walk_at "g"
          refine ⟨!(ns.map V.int).isEmpty, .inr (.inl ⟨_, .inl (.inr ⟨ob, hbr⟩), rfl⟩), ?_⟩
          by_cases cn : ns = []
          · rw [show (!(ns.map V.int).isEmpty) = false by rw [cn]; rfl]
            walk_at "g"
            refine ⟨by decide, by decide, fun D hD => ?_⟩
            refine rng_loop (n := 10) (lo := 0) (fun i H' => Same H1 H' ∧ H' D = some (.lst (((ten.take i).filter (fun x => decide (x ∉ ns))).map V.int))) ⟨same_new hD, upd_same⟩ (fun i H' hi p => ?_) (fun H2 p => ?_)
            · obtain ⟨s2, eD⟩ := p
              rw [Int.zero_add]
              refine ⟨rfl, ?_⟩
              walk_at "g"
              refine ⟨br, _, rfl, .inr (.inl (.inr ⟨ob, s2 _ _ hbr⟩)), rfl, flat_ints ns, ?_⟩
              rw [in_ints]
              refine ⟨_, rfl, ?_⟩
              have ht : (ten.take (i + 1)).filter (fun x => decide (x ∉ ns)) = (ten.take i).filter (fun x => decide (x ∉ ns)) ++ if (i : Int) ∈ ns then [] else [(i : Int)] := by
                rw [List.take_add_one, ten_at i hi, List.filter_append]
                congr 1
                by_cases c : (i : Int) ∈ ns
                · rw [if_pos c]; simp [c]
                · rw [if_neg c]; simp [c]
              have lt : ((ten.take i).filter (fun x => decide (x ∉ ns))).length ≤ 10 := Nat.le_trans (List.length_filter_le _ _) (by rw [List.length_take]; have : ten.length = 10 := rfl; omega)
              rw [ht]
              by_cases c : (i : Int) ∈ ns
              · rw [decide_eq_true c, if_pos c, List.append_nil]
                exact ⟨s2, eD⟩
              · rw [decide_eq_false c, if_neg c]
                walk_at "g"
                refine ⟨_, eD, small1000 (by rw [List.length_map]; omega), same_put s2 hD, ?_⟩
                rw [upd_same, List.map_append]
                rfl
            obtain ⟨s2, eD⟩ := p
            have eD : H2 D = some (.lst (spare.map V.int)) := eD
            have hB2 := hB1.same s2
            have Db : D ≠ b := fun z => hB1.there (by rw [← z]; exact hD)
            have lsp : (spare.map V.int).length = spare.length := List.length_map _
            walk_at "g"
            refine ⟨b, _, M, rfl, hB2, by omega, by omega, fun w3 H3 k0 k1 hA3 hB3 => ?_⟩
            obtain ⟨j, rfl⟩ : ∃ j : Nat, w3 = (j : Int) := ⟨w3.toNat, by omega⟩
            have hj : j < spare.length := by omega
            have eD3 := (hA3 D Db).trans eD
            have xn := spare_in spare[j] (List.getElem_mem hj)
            have g3 := (Gr.same s2).trans (At.gr hA3 hB3.there)
            have sb3 : Sx (one b) H H3 := sb1.trans ((Sx.same s2).trans hA3.sx)
            have hX3 : BXok T M H3 _ := hX.frame sb3 (one_le mb) (fun c hc z => hb (by rw [← show c = b from z]; exact hc))
            walk_at "g"
            refine ⟨_, _, _, _, rfl, rfl, SqL.of eD3, atI_nat (by rw [List.getElem?_map, List.getElem?_eq_getElem hj]; rfl), ?_⟩
            walk_at "g"
            refine ⟨(some f), xa, xnd, .ref br, ns, N, spare[j], M, rfl, hX3.1, xn, fun H4 s4 => ?_⟩
            walk_at "g"
            refine ⟨(some f), xa, xnd, .ref br, ns, N, spare[j], M, rfl, BoxAt.same hX3.1 s4, xn, fun H5 s5 => ?_⟩
            walk_at "g"
            have s45 := s4.trans s5
            exact close_put H5 N ((sb3.trans (Sx.same s45)).le (one_le f_b)) (g1.trans (g3.trans (Gr.same s45))) (hB3.same s45) ((hM1.gr g3).gr (Gr.same s45)) (BoxAt.same hX3.1 s45) (hX3.2.1.same s45)
          · rw [show (!(ns.map V.int).isEmpty) = true by cases ns with | nil => exact absurd rfl cn | cons _ _ => rfl]
            walk_at "g"
            refine ⟨_, _, rfl, .inr (.inl (.inr ⟨ob, hbr⟩)), ?_⟩
            have ln : (ns.map V.int).length = ns.length := List.length_map _
            have lpos : 0 < ns.length := List.length_pos_iff.mpr cn
            walk_at "g"
            refine ⟨b, _, M, rfl, hB1, by omega, by have := hg.1; omega, fun w3 H3 k0 k1 hA3 hB3 => ?_⟩
            obtain ⟨j, rfl⟩ : ∃ j : Nat, w3 = (j : Int) := ⟨w3.toNat, by omega⟩
            have hj : j < ns.length := by omega
            walk_at "g"
            refine ⟨b, _, M, rfl, hB3, by omega, by omega, fun w4 H4 p0 p1 hA4 hB4 => ?_⟩
            walk_at "g"
            refine ⟨szK rfl, fun p5 hp5 => ?_⟩
            have s5 : Same H4 (upd H4 p5 (.lst [.int w4, .int (10 ^ 20), .int 0, .int 1])) := same_new hp5
            have e5 : upd H4 p5 (.lst [.int w4, .int (10 ^ 20), .int 0, .int 1]) p5 = some (.lst [.int w4, .int (10 ^ 20), .int 0, .int 1]) := upd_same
            have hB5 := hB4.same s5
            have p5b : p5 ≠ b := fun z => hB4.there (by rw [← z]; exact hp5)
            walk_at "g"
            refine ⟨b, _, M, rfl, hB5, by omega, by omega, fun w6 H6 r0 r1 hA6 hB6 => ?_⟩
            have e6 := (hA6 p5 p5b).trans e5
            obtain ⟨u, hu⟩ : ∃ u, atI [.int w4, .int (10 ^ 20), .int 0, .int 1] w6 = some (V.int u) := by
              have hc : w6 = 0 ∨ w6 = 1 ∨ w6 = 2 ∨ w6 = 3 := by omega
              rcases hc with rfl | rfl | rfl | rfl <;> exact ⟨_, rfl⟩
            refine ⟨_, _, _, _, rfl, rfl, SqL.of e6, hu, ?_⟩
            have sb6 : Sx (one b) H H6 := sb1.trans (hA3.sx.trans (hA4.sx.trans ((Sx.same s5).trans hA6.sx)))
            have g6 : Gr H H6 := g1.trans ((At.gr hA3 hB3.there).trans ((At.gr hA4 hB4.there).trans ((Gr.same s5).trans (At.gr hA6 hB6.there))))
            have hX6 : BXok T M H6 _ := hX.frame sb6 (one_le mb) (fun c hc z => hb (by rw [← show c = b from z]; exact hc))
            obtain ⟨hR6, _⟩ := hX6.1.row
            dsimp only at hR6
            have hbr6 : H6 br = some (.frz ob (.tup (ns.map V.int))) := (hA6.sx br _ (fun z => nbr (by rw [show br = b from z]; exact mb)) (s5 _ _ (hA4.sx br _ (fun z => nbr (by rw [show br = b from z]; exact mb)) (hA3.sx br _ (fun z => nbr (by rw [show br = b from z]; exact mb)) hbr))))
            have at0 : atI (ns.map V.int) (j : Int) = some (.int ns[j]) := atI_nat (by rw [List.getElem?_map, List.getElem?_eq_getElem hj]; rfl)
            walk_at "g"
            refine ⟨_, _, _, _, rfl, rfl, .inl (.inr ⟨ob, hbr6⟩), at0, ?_⟩
            obtain ⟨dx, fs, hins, hlk⟩ := ins_k hX6.1
            refine ⟨xa, dx, fs, rfl, hins, xa, xnd, .ref br, ns, N, j, ns[j], u, M, rfl, hX6.1, List.getElem?_eq_getElem hj, mnd, fun H7 s7 g7 hB7 => ?_⟩
            obtain ⟨fv6, hm6, hF6, hD6⟩ := hX6.2.1
            dsimp only at hm6 hF6 hD6
            have hm7 := s7 _ _ (show ¬ one xnd xm from fun z => nd_m z.symm) hm6
            have hD7 := hD6.frame s7 (show ¬ one xnd xd from fun z => nd_d z.symm)
            have s7L : Sx M H6 H7 := s7.le (one_le mnd)
            have hbr7 : H7 br = some (.frz ob (.tup (ns.map V.int))) := s7 _ _ (fun z => nbr (by rw [show br = xnd from z]; exact mnd)) hbr6
            have hM7 := (hM.gr g6).gr g7
            walk_at "g"
            refine ⟨(some f), fv6, .ref br, ns, M, rfl, FormAt.sx hF6 s7L, hR6.sx s7L, hg, hM7, fun H8 l8' ys s8 nl8 el8 hys => ?_⟩
            have hD8 := hD7.frame (F := fun _ => False) (Sx.same s8) (fun z => z)
            walk_at "g"
            have hji : j < (ids f ns).length := by rw [ids_len]; exact hj
            obtain ⟨tt, et, ntt, htt⟩ := hys.2 j _ (List.getElem?_eq_getElem hji)
            refine ⟨_, _, _, _, rfl, rfl, .inl el8, atI_nat et, ?_⟩
            obtain ⟨kvs, hd8, lk8, fin8⟩ := hD8.put_k u (List.getElem?_eq_getElem hji) (has_k hBx (List.getElem_mem hji))
            walk_at "g"
            refine ⟨xd, _, rfl, DPut.t (k := idk (ids f ns)[j]) hd8 htt (small1000 (by omega)), ?_⟩
            walk_at "g"
            have sP : Sx (one xd) H8 (upd H8 xd (.dT (putK kvs (idk (ids f ns)[j]) (.int u)))) := Sx.put rfl
            refine close_put _ (putO (some f) ns j u N) ((sb6.le (one_le f_b)).trans ((s7.le (one_le f_nd)).trans ((Sx.same s8).trans (sP.le (one_le f_d))))) (g6.trans (g7.trans ((Gr.same s8).trans Gr.upd))) (((hB6.keep s7 (show ¬ one xnd b from b_nd) (one_le mnd)).same s8).keep sP (show ¬ one xd b from b_d) (one_le md)) ((hM7.gr (Gr.same s8)).gr Gr.upd) ((BoxAt.same hB7 s8).frame sP (one_le md) (show ¬ one xd xa from a_d) (show ¬ one xd xnd from nd_d)) ⟨fv6, ?_, FormAt.sx hF6 (s7L.trans ((Sx.same s8).trans (sP.le (one_le md)))), fin8 _ upd_same⟩
            rw [upd_ne m_d]
            exact s8 _ _ hm7
        · rw [decide_eq_false c4]
          walk_at "g"
          refine ⟨by decide, by decide, fun D hD => ?_⟩
          refine rng_loop (n := 10) (lo := 0) (fun i H' => Same H1 H' ∧ H' D = some (.lst (((ten.take i).filter (fun x => decide (x ∉ ns))).map V.int))) ⟨same_new hD, upd_same⟩ (fun i H' hi p => ?_) (fun H2 p => ?_)
          · obtain ⟨s2, eD⟩ := p
            rw [Int.zero_add]
            refine ⟨rfl, ?_⟩
            walk_at "g"
            refine ⟨br, _, rfl, .inr (.inl (.inr ⟨ob, s2 _ _ hbr⟩)), rfl, flat_ints ns, ?_⟩
            rw [in_ints]
            refine ⟨_, rfl, ?_⟩
            have ht : (ten.take (i + 1)).filter (fun x => decide (x ∉ ns)) = (ten.take i).filter (fun x => decide (x ∉ ns)) ++ if (i : Int) ∈ ns then [] else [(i : Int)] := by
              rw [List.take_add_one, ten_at i hi, List.filter_append]
              congr 1
              by_cases c : (i : Int) ∈ ns
              · rw [if_pos c]; simp [c]
              · rw [if_neg c]; simp [c]
            have lt : ((ten.take i).filter (fun x => decide (x ∉ ns))).length ≤ 10 := Nat.le_trans (List.length_filter_le _ _) (by rw [List.length_take]; have : ten.length = 10 := rfl; omega)
            rw [ht]
            by_cases c : (i : Int) ∈ ns
            · rw [decide_eq_true c, if_pos c, List.append_nil]
              exact ⟨s2, eD⟩
            · rw [decide_eq_false c, if_neg c]
              walk_at "g"
              refine ⟨_, eD, small1000 (by rw [List.length_map]; omega), same_put s2 hD, ?_⟩
              rw [upd_same, List.map_append]
              rfl
          obtain ⟨s2, eD⟩ := p
          have eD : H2 D = some (.lst (spare.map V.int)) := eD
          have hB2 := hB1.same s2
          have Db : D ≠ b := fun z => hB1.there (by rw [← z]; exact hD)
          have lsp : (spare.map V.int).length = spare.length := List.length_map _
          walk_at "g"
          refine ⟨b, _, M, rfl, hB2, by omega, by omega, fun w3 H3 k0 k1 hA3 hB3 => ?_⟩
          obtain ⟨j, rfl⟩ : ∃ j : Nat, w3 = (j : Int) := ⟨w3.toNat, by omega⟩
          have hj : j < spare.length := by omega
          have eD3 := (hA3 D Db).trans eD
          have xn := spare_in spare[j] (List.getElem_mem hj)
          have g3 := (Gr.same s2).trans (At.gr hA3 hB3.there)
          have sb3 : Sx (one b) H H3 := sb1.trans ((Sx.same s2).trans hA3.sx)
          have hX3 : BXok T M H3 _ := hX.frame sb3 (one_le mb) (fun c hc z => hb (by rw [← show c = b from z]; exact hc))
          walk_at "g"
          refine ⟨_, _, _, _, rfl, rfl, SqL.of eD3, atI_nat (by rw [List.getElem?_map, List.getElem?_eq_getElem hj]; rfl), ?_⟩
          walk_at "g"
          refine ⟨(some f), xa, xnd, .ref br, ns, N, spare[j], M, rfl, hX3.1, xn, fun H4 s4 => ?_⟩
          walk_at "g"
          refine ⟨(some f), xa, xnd, .ref br, ns, N, spare[j], M, rfl, BoxAt.same hX3.1 s4, xn, fun H5 s5 => ?_⟩
          walk_at "g"
          have s45 := s4.trans s5
          exact close_put H5 N ((sb3.trans (Sx.same s45)).le (one_le f_b)) (g1.trans (g3.trans (Gr.same s45))) (hB3.same s45) ((hM1.gr g3).gr (Gr.same s45)) (BoxAt.same hX3.1 s45) (hX3.2.1.same s45)
end
end D

namespace D
open PySem PySem.Spec PyProof.Rows L2
local macro_rules | `(tactic| walk_at "st") => `(tactic| first | exact SqT.of (by assumption) | exact Or.inl (by assumption) | exact SqT.of upd_same | fail "st")
local macro_rules | `(tactic| walk_at "ixt") => `(tactic| refine ⟨_, _, _, _, rfl, rfl, (by walk_at "st" : SqT _ _ _ _), by rfl, ?_⟩)
local macro_rules | `(tactic| walk_at "sq") => `(tactic| first | exact SqL.of (by assumption) | assumption | exact Or.inl (by assumption) | exact SqL.of upd_same | fail "sq")
local macro_rules | `(tactic| walk_at "ix") => `(tactic| refine ⟨_, _, _, _, rfl, rfl, (by walk_at "sq" : SqL _ _ _ _), by rfl, ?_⟩)
local macro_rules | `(tactic| walk_at "set") => `(tactic| refine ⟨_, _, _, _, rfl, rfl, by first | assumption | exact upd_same, by rfl, ?_⟩)
local macro_rules | `(tactic| walk_at "len") => `(tactic| refine ⟨_, _, rfl, Or.inl (by walk_at "sq" : SqL _ _ _ _), ?_⟩)
local macro_rules | `(tactic| walk_at "g") => `(tactic| repeat (first | refine ⟨_, rfl, ?_⟩ | refine ⟨_, _, rfl, rfl, ?_⟩ | refine ⟨Or.inr (by decide), ?_⟩ | refine ⟨Or.inl (by decide), ?_⟩ | refine ⟨(by decide : (0 : Int) < _), ?_⟩ | refine ⟨(⟨by decide, by decide⟩ : CDiv _ _), ?_⟩ | refine ⟨(⟨by decide, by decide, by decide⟩ : CPow _ _), ?_⟩ | refine Or.inl ⟨_, rfl, ?_⟩ | refine ⟨rfl, ?_⟩ | walk_at "ix" | walk_at "ixt" | walk_at "len" | fail "g"))
local macro_rules | `(tactic| walk_at "if") => `(tactic| refine ite2 (fun e => ?_) (fun e => ?_))
section
variable {P : Program} {w : World} {K : PySem.W.Frag} {mg : Str → Option Value} {base : Heap}
theorem alsoL_app : ∀ {l r : List Addr} {M : Ms}, alsoL M (l ++ r) = alsoL (alsoL M l) r
  | [], _, _ => rfl
  | _ :: l, r, _ => alsoL_app (l := l) (r := r)
/-- a box, with the law's record beside it or still without -/
def SX := Bool × BX
def SX.as (s : SX) : List Addr := if s.1 = true then s.2.as else [s.2.a, s.2.nd]
def SXok (T : Txt K mg) (M : Ms) (H : Hp) (s : SX) : Prop := BoxAt T s.2.o M H s.2.a s.2.nd s.2.v s.2.ns s.2.N ∧ M s.2.a ∧ M s.2.nd ∧ (s.1 = true → ModAt s.2.o M H s.2.m s.2.d s.2.v s.2.N ∧ M s.2.m ∧ M s.2.d)
theorem SX.as_sub {s : SX} {c : Addr} (h : c ∈ s.as) : c ∈ s.2.as := by
  unfold SX.as at h
  split at h
  · exact h
  · simp only [List.mem_cons, List.not_mem_nil, or_false] at h
    rcases h with rfl | rfl <;> simp [BX.as]
section
variable {T : Txt K mg} {M F e : Ms} {H H' : Hp} {p : Addr} {s s' : SX} {ps : List SX} {i : Nat} {l : List Addr}
theorem SXok.full (h : SXok T M H s) (f : s.1 = true) : BXok T M H s.2 := ⟨h.1, (h.2.2.2 f).1, h.2.1, h.2.2.1, (h.2.2.2 f).2.1, (h.2.2.2 f).2.2⟩
theorem SXok.of (h : BXok T M H s.2) : SXok T M H s := ⟨h.1, h.2.2.1, h.2.2.2.1, fun _ => ⟨h.2.1, h.2.2.2.2.1, h.2.2.2.2.2⟩⟩
theorem SXok.fresh (h : SXok T M H s) (hp : H p = none) : SXok T (also M p) H s := ⟨h.1.fresh hp, .inl h.2.1, .inl h.2.2.1, fun z => ⟨(h.2.2.2 z).1.fresh hp, .inl (h.2.2.2 z).2.1, .inl (h.2.2.2 z).2.2⟩⟩
theorem SXok.freshL : ∀ {l : List Addr} {M : Ms}, SXok T M H s → (∀ p ∈ l, H p = none) → SXok T (alsoL M l) H s
  | [], _, h, _ => h
  | p :: r, _, h, z => SXok.freshL (l := r) (h.fresh (z p List.mem_cons_self)) fun q hq => z q (List.mem_cons_of_mem _ hq)
theorem SX.a_mem (s : SX) : s.2.a ∈ s.as := by unfold SX.as; split <;> simp [BX.as]
theorem SX.nd_mem (s : SX) : s.2.nd ∈ s.as := by unfold SX.as; split <;> simp [BX.as]
theorem SX.m_mem {s : SX} (h : s.1 = true) : s.2.m ∈ s.as := by unfold SX.as; rw [if_pos h]; simp [BX.as]
theorem SX.d_mem {s : SX} (h : s.1 = true) : s.2.d ∈ s.as := by unfold SX.as; rw [if_pos h]; simp [BX.as]
theorem SXok.frame (h : SXok T M H s) (sx : Sx F H H') (le : ∀ c, F c → M c) (n : ∀ c ∈ s.as, ¬ F c) : SXok T M H' s :=
  ⟨h.1.frame sx le (n _ s.a_mem) (n _ s.nd_mem), h.2.1, h.2.2.1, fun z => ⟨(h.2.2.2 z).1.frame sx le (n _ (SX.m_mem z)) (n _ (SX.d_mem z)), (h.2.2.2 z).2⟩⟩
theorem SXok.there (h : SXok T M H s) : ∀ c ∈ s.as, H c ≠ none := fun c hc => by
  unfold SX.as at hc
  split at hc
  · rename_i z
    exact (h.full z).there c hc
  · simp only [List.mem_cons, List.not_mem_nil, or_false] at hc
    rcases hc with rfl | rfl
    · exact h.1.there.1
    · exact h.1.there.2.1
theorem SXok.mem (h : SXok T M H s) : ∀ c ∈ s.as, M c := fun c hc => by
  unfold SX.as at hc
  split at hc
  · rename_i z
    exact (h.full z).mem c hc
  · simp only [List.mem_cons, List.not_mem_nil, or_false] at hc
    rcases hc with rfl | rfl
    · exact h.2.1
    · exact h.2.2.1
/-- the boxes, apart from each other and from e -/
structure WB (T : Txt K mg) (M : Ms) (H : Hp) (e : Ms) (ps : List SX) : Prop where
  ok : ∀ (j : Nat) (s : SX), ps[j]? = some s → SXok T M H s ∧ s.as.Nodup ∧ ∀ c ∈ s.as, ¬ e c
  apart : ∀ (j k : Nat) (s t : SX), ps[j]? = some s → ps[k]? = some t → j ≠ k → ∀ c ∈ s.as, c ∉ t.as
  le : ∀ c, e c → M c
theorem WB.nil (le : ∀ c, e c → M c) : WB T M H e [] := ⟨fun j s h => by simp at h, fun j k s t h => by simp at h, le⟩
theorem WB.less {e' : Ms} (h : WB T M H e ps) (f : ∀ c, e' c → e c) : WB T M H e' ps := ⟨fun j s hj => ⟨(h.ok j s hj).1, (h.ok j s hj).2.1, fun c hc z => (h.ok j s hj).2.2 c hc (f c z)⟩, h.apart, fun c z => h.le c (f c z)⟩
theorem WB.same (h : WB T M H e ps) (sm : Same H H') : WB T M H' e ps := ⟨fun j s hj => ⟨(h.ok j s hj).1.frame (F := fun _ => False) (Sx.same sm) (fun _ z => z.elim) (fun _ _ z => z), (h.ok j s hj).2⟩, h.apart, h.le⟩
theorem WB.freshL (h : WB T M H e ps) (hl : ∀ p ∈ l, H p = none) : WB T (alsoL M l) H e ps := ⟨fun j s hj => ⟨(h.ok j s hj).1.freshL hl, (h.ok j s hj).2⟩, h.apart, fun c z => alsoL_le (h.le c z)⟩
/-- more is kept apart -/
theorem WB.more (h : WB T M H e ps) (hp : H p = none) : WB T (also M p) H (also e p) ps := ⟨fun j s hj => ⟨(h.ok j s hj).1.fresh hp, (h.ok j s hj).2.1, fun c hc z => z.elim ((h.ok j s hj).2.2 c hc) fun z => (h.ok j s hj).1.there c hc (by rw [show c = p from z]; exact hp)⟩, h.apart, fun c z => z.elim (fun z => .inl (h.le c z)) .inr⟩
/-- what touches only e -/
theorem WB.frame (h : WB T M H e ps) (sx : Sx F H H') (hF : ∀ c, F c → e c) : WB T M H' e ps := ⟨fun j s hj => ⟨(h.ok j s hj).1.frame sx (fun c z => h.le c (hF c z)) (fun c hc z => (h.ok j s hj).2.2 c hc (hF c z)), (h.ok j s hj).2⟩, h.apart, h.le⟩
/-- one box is changed -/
theorem WB.upd (h : WB T M H e ps) (hi : ps[i]? = some s) (hl : ∀ p ∈ l, H p = none) (sx : Sx F H H') (hF : ∀ c, F c → e c ∨ c ∈ s.as) (ok' : SXok T (alsoL M l) H' s') (new : ∀ c ∈ s'.as, c ∈ s.as ∨ H c = none) (nd' : s'.as.Nodup) (hme : ∀ c, e c → H c ≠ none) : WB T (alsoL M l) H' e (ps.set i s') := by
  have li : i < ps.length := (List.getElem?_eq_some_iff.mp hi).1
  have old := h.ok i s hi
  refine ⟨fun j t hj => ?_, fun j k t u hj hk hne c hc => ?_, fun c z => alsoL_le (h.le c z)⟩
  · by_cases ji : j = i
    · subst ji
      rw [List.getElem?_set_self li] at hj
      cases hj
      refine ⟨ok', nd', fun c hc z => ?_⟩
      rcases new c hc with y | y
      · exact old.2.2 c y z
      · exact hme c z y
    · rw [List.getElem?_set_ne (Ne.symm ji)] at hj
      have o := h.ok j t hj
      refine ⟨(o.1.freshL hl).frame sx (fun c z => ?_) (fun c hc z => ?_), o.2⟩
      · rcases hF c z with y | y
        · exact alsoL_le (h.le c y)
        · exact alsoL_le (old.1.mem c y)
      · rcases hF c z with y | y
        · exact o.2.2 c hc y
        · exact h.apart j i t s hj hi ji c hc y
  · by_cases ji : j = i
    · subst ji
      rw [List.getElem?_set_self li] at hj
      cases hj
      rw [List.getElem?_set_ne hne] at hk
      rcases new c hc with y | y
      · exact h.apart j k s u hi hk hne c y
      · exact fun z => (h.ok k u hk).1.there c z y
    · rw [List.getElem?_set_ne (Ne.symm ji)] at hj
      by_cases ki : k = i
      · subst ki
        rw [List.getElem?_set_self li] at hk
        cases hk
        intro z
        rcases new c z with y | y
        · exact h.apart j k t s hj hi ji c hc y
        · exact (h.ok j t hj).1.there c hc y
      · rw [List.getElem?_set_ne (Ne.symm ki)] at hk
        exact h.apart j k t u hj hk hne c hc
/-- one more box -/
theorem WB.add (h : WB T M H e ps) (hl : ∀ p ∈ l, H p = none) (sm : Same H H') (ok' : SXok T (alsoL M l) H' s') (new : ∀ c ∈ s'.as, H c = none) (nd' : s'.as.Nodup) (hme : ∀ c, e c → H c ≠ none) : WB T (alsoL M l) H' e (ps ++ [s']) := by
  have at' : ∀ {j : Nat} {t : SX}, (ps ++ [s'])[j]? = some t → ps[j]? = some t ∧ j < ps.length ∨ t = s' ∧ j = ps.length := fun {j t} hj => by
    by_cases c : j < ps.length
    · rw [List.getElem?_append_left c] at hj
      exact .inl ⟨hj, c⟩
    · rw [List.getElem?_append_right (by omega)] at hj
      cases k : j - ps.length with
      | zero => rw [k] at hj; cases hj; exact .inr ⟨rfl, by omega⟩
      | succ n => rw [k] at hj; simp at hj
  refine ⟨fun j t hj => ?_, fun j k t u hj hk hne c hc z => ?_, fun c z => alsoL_le (h.le c z)⟩
  · rcases at' hj with ⟨hj, _⟩ | ⟨rfl, _⟩
    · have o := h.ok j t hj
      exact ⟨(o.1.freshL hl).frame (F := fun _ => False) (Sx.same sm) (fun _ z => z.elim) (fun _ _ z => z), o.2⟩
    · exact ⟨ok', nd', fun c hc z => hme c z (new c hc)⟩
  · rcases at' hj with ⟨hj1, l1⟩ | ⟨e1, l1⟩
    · rcases at' hk with ⟨hk1, _⟩ | ⟨e2, _⟩
      · exact h.apart j k t u hj1 hk1 hne c hc z
      · exact (h.ok j t hj1).1.there c hc (new c (by rw [← e2]; exact z))
    · rcases at' hk with ⟨hk1, _⟩ | ⟨e2, _⟩
      · exact (h.ok k u hk1).1.there c z (new c (by rw [← e1]; exact hc))
      · omega
end
section
variable {X : Cx} {pos : Pos}
/-- {} may be read as a dict of whole numbers and texts, and as one of tuples -/
def tDNewB : TE := fun σ H Q => tDNewK σ H Q ∨ tDNewT σ H Q
theorem pe_dnewB : PE X (.Dict [] [] pos) tDNewB := ⟨fun pins s σ H Q I h => h.elim (pe_dnewK.run pins s σ H Q I) (pe_dnewT.run pins s σ H Q I)⟩
end
end
end D

namespace D
open PySem PySem.Spec PyProof.Rows L2
local macro_rules | `(tactic| walk_at "st") => `(tactic| first | exact SqT.of (by assumption) | exact Or.inl (by assumption) | exact SqT.of upd_same | fail "st")
local macro_rules | `(tactic| walk_at "ixt") => `(tactic| refine ⟨_, _, _, _, rfl, rfl, (by walk_at "st" : SqT _ _ _ _), by rfl, ?_⟩)
local macro_rules | `(tactic| walk_at "sq") => `(tactic| first | exact SqL.of (by assumption) | assumption | exact Or.inl (by assumption) | exact SqL.of upd_same | fail "sq")
local macro_rules | `(tactic| walk_at "ix") => `(tactic| refine ⟨_, _, _, _, rfl, rfl, (by walk_at "sq" : SqL _ _ _ _), by rfl, ?_⟩)
local macro_rules | `(tactic| walk_at "set") => `(tactic| refine ⟨_, _, _, _, rfl, rfl, by first | assumption | exact upd_same, by rfl, ?_⟩)
local macro_rules | `(tactic| walk_at "len") => `(tactic| refine ⟨_, _, rfl, Or.inl (by walk_at "sq" : SqL _ _ _ _), ?_⟩)
local macro_rules | `(tactic| walk_at "g") => `(tactic| repeat (first | refine ⟨_, rfl, ?_⟩ | refine ⟨_, _, rfl, rfl, ?_⟩ | refine ⟨Or.inr (by decide), ?_⟩ | refine ⟨Or.inl (by decide), ?_⟩ | refine ⟨(by decide : (0 : Int) < _), ?_⟩ | refine ⟨(⟨by decide, by decide⟩ : CDiv _ _), ?_⟩ | refine ⟨(⟨by decide, by decide, by decide⟩ : CPow _ _), ?_⟩ | refine Or.inl ⟨_, rfl, ?_⟩ | refine ⟨rfl, ?_⟩ | walk_at "ix" | walk_at "ixt" | walk_at "len" | fail "g"))
local macro_rules | `(tactic| walk_at "if") => `(tactic| refine ite2 (fun e => ?_) (fun e => ?_))
section
variable {P : Program} {w : World} {K : PySem.W.Frag} {mg : Str → Option Value} {base : Heap}
def fullS (x : BX) : SX := ((true, x) : Bool × BX)
def withM (s : SX) (m d : Addr) : SX := ((true, { s.2 with m := m, d := d }) : Bool × BX)
theorem alsoL_mem : ∀ {l : List Addr} {M : Ms} {c : Addr}, alsoL M l c → M c ∨ c ∈ l
  | [], _, _, h => .inl h
  | p :: r, _, c, h => by
    rcases alsoL_mem (l := r) h with (z | z) | z
    · exact .inl z
    · exact .inr (by rw [show c = p from z]; exact List.mem_cons_self)
    · exact .inr (List.mem_cons_of_mem _ z)
theorem dnewB {o : Option Fm} {σ : L2.St} {H : Hp} {Q : VK} (h : ∀ d H', H d = none → Same H H' → DictO o H' d (fun _ => none) → Q (.ref d) H') : tDNewB σ H Q := by
  cases o with
  | none => exact .inl (fun d hd => h d _ hd (same_new hd) ⟨[], upd_same, fun x => rfl, Nat.zero_le _⟩)
  | some f => exact .inr (fun d hd => h d _ hd (same_new hd) ⟨[], upd_same, fun x => rfl, Nat.zero_le _⟩)
theorem same_step {H H1 H2 : Hp} {p : Addr} (s : Same H H1) (z : Sx (one p) H1 H2) (hp : H p = none) : Same H H2 := fun a u e => z a u (fun y => by rw [show a = p from y, hp] at e; cases e) (s a u e)
abbrev bare (a nd : Addr) (o : Option Fm) (v : V) (ns : List Int) : SX := (false, ⟨a, nd, 0, 0, o, v, ns, shownO o ns (fun _ => none)⟩)
theorem Rp.freshL {H : Hp} {v : V} {d : PyData} : ∀ {l : List Addr} {M : Ms}, Rp M H v d → (∀ p ∈ l, H p = none) → Rp (alsoL M l) H v d
  | [], _, h, _ => h
  | p :: r, _, h, z => Rp.freshL (l := r) (h.fresh (z p List.mem_cons_self)) fun q hq => z q (List.mem_cons_of_mem _ hq)
theorem RowF.freshL {H : Hp} {v : V} {ns : List Int} : ∀ {l : List Addr} {M : Ms}, RowF M H v ns → (∀ p ∈ l, H p = none) → RowF (alsoL M l) H v ns
  | [], _, h, _ => h
  | p :: r, _, h, z => RowF.freshL (l := r) (h.fresh (z p List.mem_cons_self)) fun q hq => z q (List.mem_cons_of_mem _ hq)
theorem MenuAt.freshL {H : Hp} {v : V} {nss : List (List Int)} : ∀ {l : List Addr} {M : Ms}, MenuAt M H v nss → (∀ p ∈ l, H p = none) → MenuAt (alsoL M l) H v nss
  | [], _, h, _ => h
  | p :: r, _, h, z => MenuAt.freshL (l := r) (MenuAt.fresh (z p List.mem_cons_self) h) fun q hq => z q (List.mem_cons_of_mem _ hq)
theorem FormAt.freshL {H : Hp} {o : Option Fm} {v : V} : ∀ {l : List Addr} {M : Ms}, FormAt o M H v → (∀ p ∈ l, H p = none) → FormAt o (alsoL M l) H v
  | [], _, h, _ => h
  | p :: r, _, h, z => FormAt.freshL (l := r) (h.fresh (z p List.mem_cons_self)) fun q hq => z q (List.mem_cons_of_mem _ hq)
theorem Bag.moreL {K : PySem.W.Frag} {H : Hp} {b : Addr} : ∀ {l : List Addr} {M : Ms}, Bag K M H b → (∀ p ∈ l, H p = none) → Bag K (alsoL M l) H b
  | [], _, h, _ => h
  | p :: r, _, h, z => Bag.moreL (l := r) (h.more (z p List.mem_cons_self)) fun q hq => z q (List.mem_cons_of_mem _ hq)
def sp_law (K : PySem.W.Frag) : Sp := fun vs H Q _ => ∃ (a : Addr) (ns : List Int), vs = [.ref a] ∧ SqL K H a (ns.map V.int) ∧ ns.length ≤ 63 ∧ ∀ H', Q (.bl true) H'
theorem ok_law (T : Txt K mg) (U : TMany K mg w) : FnOk P w K mg base CX0 16 T.f_law T.d_law ["_law_script"] (sp_law K) := by
  have G__law_bag := ok_bag (P := P) (w := w) (base := base) T
  have G__law_pick := ok_pick (P := P) (w := w) (base := base) T
  have G__law_any_key := ok_anyKey (P := P) (w := w) (base := base) T
  have G__law_rows_shown := ok_shown (P := P) (w := w) (base := base) T
  have G_Key___init__ := ok_init (P := P) (w := w) (base := base) T U
  have G_Known___init__ := ok_kinit (P := P) (w := w) (base := base) T
  have G_Things___init__ := ok_tinit (P := P) (w := w) (base := base) T
  have G__law_shows := ok_lshows (P := P) (w := w) (base := base) T
  have G__law_step := ok_step (P := P) (w := w) (base := base) T
  have G__law_agrees := ok_agrees (P := P) (w := w) (base := base) T
  refine T.F_law.ok sc_law (fun vs H Q E h => ?_) (fun cdv A outer s H vs Q E hr h => ?_)
  · obtain ⟨_, _, rfl, _⟩ := h
    rfl
  · obtain ⟨a, ns, rfl, hS, hl, q⟩ := h
    refine ⟨_, (pss_cons (ps_set (i := 1) sc_law.nd rfl (Or.inr rfl) (pe_call G__law_bag (hr.mono (by omega)) (by rfl) T.g__law_bag T.F__law_bag.kp T.b__law_bag .nil pass0 (pa_cons (pv 0) pa_nil)))
      (pss_cons (ps_set (i := 2) sc_law.nd rfl (Or.inl rfl) (pe_lst (pa_cons (pe_call G__law_any_key (hr.mono (by omega)) (by rfl) T.g__law_any_key T.F__law_any_key.kp T.b__law_any_key .nil pass0 (pa_cons (pv 1) pa_nil)) (pa_cons (pe_call G__law_any_key (hr.mono (by omega)) (by rfl) T.g__law_any_key T.F__law_any_key.kp T.b__law_any_key .nil pass0 (pa_cons (pv 1) pa_nil)) (pa_cons pe_non (pa_cons pe_non pa_nil))))))
      (pss_cons (ps_set (i := 3) sc_law.nd rfl (Or.inr rfl) (pe_call G__law_rows_shown (hr.mono (by omega)) (by rfl) T.g__law_rows_shown T.F__law_rows_shown.kp T.b__law_rows_shown .nil pass0 (pa_cons (pv 1) pa_nil)))
      (pss_cons (ps_setLc (i := 4) (own := [("_law_form_here", 10)]) (g := gName 10) (tt := tYes) (by rfl) sc_law.nd rfl rfl (sw_true rfl rfl rfl (by decide +kernel)) (pi_listK (K := K) rfl (pv 2)) (blkOk_by (own := [("_law_form_here", 10)]) (N := ["_law_script", "_law_bag_here", "_law_forms", "_law_rows", "_law_starts", "_law_boxes", "_law_models", "_law_which", "_law_step_here", "_law_other", "_law_form_here"]) (sc := defScope s_law) (by decide +kernel)) (fun _ _ _ _ _ => (pg_name (i := 10) sc_law.nd rfl (Or.inl rfl))) (fun _ _ _ _ _ => pts_nil) (fun _ _ _ _ _ => (pe_ix (ix_tupK (K := K) rfl) (pv 3) (pe_call G__law_pick (hr.mono (by omega)) (by rfl) T.g__law_pick T.F__law_pick.kp T.b__law_pick .nil pass0 (pa_cons (pv 1) (pa_cons (pe_callB (call_lenK (K := K) rfl) (by rfl) T.m_len PySem.boot_len (pa_cons (pv 3) pa_nil)) pa_nil))) (fun _ _ => rfl))))
      (pss_cons (ps_set (i := 5) sc_law.nd rfl (Or.inl rfl) (pe_lst (pa_cons (pe_make ⟨T.mk_Known, T.a_Known___init__, T.i_Known___init__, T.kc_Known⟩ G_Known___init__ (hr.mono (by omega)) (by rfl) T.g_Known T.b_Known___init__ .nil pass0 (pa_cons (pe_make ⟨T.mk_Key, T.a_Key___init__, T.i_Key___init__, T.kc_Key⟩ G_Key___init__ (hr.mono (by omega)) (by rfl) T.g_Key T.b_Key___init__ .nil pass0 (pa_cons (pe_ix (ix_listK (K := K) rfl) (pv 2) pe_int (fun _ _ => rfl)) pa_nil)) (pa_cons (pe_ix (ix_listK (K := K) rfl) (pv 4) pe_int (fun _ _ => rfl)) pa_nil))) (pa_cons (pe_make ⟨T.mk_Known, T.a_Known___init__, T.i_Known___init__, T.kc_Known⟩ G_Known___init__ (hr.mono (by omega)) (by rfl) T.g_Known T.b_Known___init__ .nil pass0 (pa_cons (pe_make ⟨T.mk_Key, T.a_Key___init__, T.i_Key___init__, T.kc_Key⟩ G_Key___init__ (hr.mono (by omega)) (by rfl) T.g_Key T.b_Key___init__ .nil pass0 (pa_cons (pe_ix (ix_listK (K := K) rfl) (pv 2) pe_int (fun _ _ => rfl)) pa_nil)) (pa_cons (pe_ix (ix_listK (K := K) rfl) (pv 4) pe_int (fun _ _ => rfl)) pa_nil))) (pa_cons (pe_make ⟨T.mk_Things, T.a_Things___init__, T.i_Things___init__, T.kc_Things⟩ G_Things___init__ (hr.mono (by omega)) (by rfl) T.g_Things T.b_Things___init__ .nil pass0 (pa_cons (pe_ix (ix_listK (K := K) rfl) (pv 4) pe_int (fun _ _ => rfl)) pa_nil)) (pa_cons (pe_make ⟨T.mk_Things, T.a_Things___init__, T.i_Things___init__, T.kc_Things⟩ G_Things___init__ (hr.mono (by omega)) (by rfl) T.g_Things T.b_Things___init__ .nil pass0 (pa_cons (pe_ix (ix_listK (K := K) rfl) (pv 4) pe_int (fun _ _ => rfl)) pa_nil)) pa_nil))))))
      (pss_cons (ps_set (i := 6) sc_law.nd rfl (Or.inl rfl) (pe_lst pa_nil))
      (pss_cons (ps_for PassesOwn.never rfl (pi_range1 (by rfl) T.m_range (pa_cons pe_int pa_nil)) (pg_name (i := 7) sc_law.nd rfl (Or.inl rfl)) (pss_cons (ps_expr (pe_bmK2 (K := K) rfl PySem.F.plainAttrs_list PySem.F.slot_list_append PySem.F.type_list_append mt_append (pv 6) (pa_cons (pe_lst (pa_cons (pe_ix (ix_listK (K := K) rfl) (pv 2) (pv 7) (fun _ _ => rfl)) (pa_cons (pe_tup pa_nil) (pa_cons pe_dnewB pa_nil)))) pa_nil)))
      (pss_one (ps_expr (pe_call G__law_shows (hr.mono (by omega)) (by rfl) T.g__law_shows T.F__law_shows.kp T.b__law_shows .nil pass0 (pa_cons (pe_ix (ix_listK (K := K) rfl) (pv 6) (pv 7) (fun _ _ => rfl)) (pa_cons (pe_ix (ix_listK (K := K) rfl) (pv 4) (pv 7) (fun _ _ => rfl)) pa_nil)))))))
      (pss_cons (ps_for PassesOwn.never rfl (pi_range1 (by rfl) T.m_range (pa_cons (pe_op op_add pe_int (pe_call G__law_pick (hr.mono (by omega)) (by rfl) T.g__law_pick T.F__law_pick.kp T.b__law_pick .nil pass0 (pa_cons (pv 1) (pa_cons pe_int pa_nil)))) pa_nil)) (pg_name (i := 8) sc_law.nd rfl (Or.inl rfl)) (pss_cons (ps_set (i := 7) sc_law.nd rfl (Or.inl rfl) (pe_call G__law_pick (hr.mono (by omega)) (by rfl) T.g__law_pick T.F__law_pick.kp T.b__law_pick .nil pass0 (pa_cons (pv 1) (pa_cons pe_int pa_nil))))
      (pss_cons (ps_if (pt_not (pt_val (pe_call G__law_step (hr.mono (by omega)) (by rfl) T.g__law_step T.F__law_step.kp T.b__law_step .nil pass0 (pa_cons (pv 1) (pa_cons (pe_ix (ix_listK (K := K) rfl) (pv 5) (pv 7) (fun _ _ => rfl)) (pa_cons (pe_ix (ix_listK (K := K) rfl) (pv 6) (pv 7) (fun _ _ => rfl)) (pa_cons (pv 3) pa_nil))))))) (pss_one (ps_ret pe_bl)) pss_nil)
      (pss_one (ps_for PassesOwn.never rfl (pi_range1 (by rfl) T.m_range (pa_cons pe_int pa_nil)) (pg_name (i := 9) sc_law.nd rfl (Or.inl rfl)) (pss_one (ps_if (pt_not (pt_val (pe_call G__law_agrees (hr.mono (by omega)) (by rfl) T.g__law_agrees T.F__law_agrees.kp T.b__law_agrees .nil pass0 (pa_cons (pe_ix (ix_listK (K := K) rfl) (pv 5) (pv 9) (fun _ _ => rfl)) (pa_cons (pe_ix (ix_listK (K := K) rfl) (pv 6) (pv 9) (fun _ _ => rfl)) pa_nil))))) (pss_one (ps_ret pe_bl)) pss_nil)))))))
      (pss_one (ps_ret pe_bl)))))))))), ?_⟩
    walk_at "g"
    refine ⟨a, ns, rfl, hS, hl, fun b H1 s1 nb hB1 => ?_⟩
    walk_at "g"
    have hM1 : Mk (one b) H1 := fun c z => by rw [show c = b from z]; exact hB1.there
    refine ⟨b, one b, rfl, hB1, hM1, fun v1 H2 d s2 g2 hB2 r1 hd => ?_⟩
    obtain ⟨f1, rfl, k1⟩ := hd
    walk_at "g"
    refine ⟨b, one b, rfl, hB2, hM1.gr g2, fun v2 H3 d s3 g3 hB3 r2 hd => ?_⟩
    obtain ⟨f2, rfl, k2⟩ := hd
    have r1' := r1.sx s3
    have hM3 : Mk (one b) H3 := (hM1.gr g2).gr g3
    walk_at "g"
    refine ⟨szK rfl, fun pf hpf => ?_⟩
    have sf : Same H3 (upd H3 pf (.lst [v1, v2, .non, .non])) := same_new hpf
    have ef : upd H3 pf (.lst [v1, v2, .non, .non]) pf = some (.lst [v1, v2, .non, .non]) := upd_same
    have hB4 := hB3.same sf
    have hM4 := hM3.gr (Gr.same sf)
    have r14 := r1'.sx (Sx.same sf)
    have r24 := r2.sx (Sx.same sf)
    generalize upd H3 pf (.lst [v1, v2, .non, .non]) = H4 at sf ef hB4 hM4 r14 r24
    have pfb : pf ≠ b := fun z => hB3.there (by rw [← z]; exact hpf)
    walk_at "g"
    refine ⟨b, one b, rfl, hB4, hM4, fun vr H5 nss s5 g5 hB5 hMe5 l1 l4 => ?_⟩
    obtain ⟨rm, xs, rfl, nr, hrm, lx, l8, rows⟩ := id hMe5
    have ef5 := s5 _ _ (show ¬ one b pf from pfb) ef
    have r15 := r14.sx s5
    have r25 := r24.sx s5
    have hM5 := hM4.gr g5
    walk_at "g"
    refine ⟨⟨_, SqL.of ef5⟩, fun D hD => ?_⟩
    have Db : D ≠ b := fun z => hB5.there (by rw [← z]; exact hD)
    refine list_loop (xs := [v1, v2, .non, .non]) (fun i H' => Sx (one b) H5 H' ∧ Gr H5 H' ∧ Bag K (also (one b) D) H' b ∧ ∃ acc mss, H' D = some (.lst acc) ∧ RowsAt goodRow (also (one b) D) H' acc mss ∧ acc.length = i) ⟨Sx.new hD, Gr.upd, (hB5.more hD).same (same_new hD), [], [], upd_same, RowsAt.nil, rfl⟩ (fun i H' _ p => SqL.of (p.1 _ _ pfb ef5)) (fun i x H' hx p => ?_) (fun H6 p => ?_)
    · obtain ⟨s6, g6, hB6, acc, mss, eD, hra, la⟩ := p
      have hi : i < 4 := (List.getElem?_eq_some_iff.mp hx).1
      have hw : also (one b) D b := .inl rfl
      refine ⟨rfl, ?_⟩
      walk_at "g"
      have hr6 := sx_rd s6 nr hrm
      refine ⟨_, _, rfl, .inr (.inl hr6), ?_⟩
      walk_at "g"
      refine ⟨b, _, also (one b) D, rfl, hB6, by omega, by omega, fun w7 H7 k0 k1 hA7 hB7 => ?_⟩
      obtain ⟨j, rfl⟩ : ∃ j : Nat, w7 = (j : Int) := ⟨w7.toNat, by omega⟩
      have hj : j < nss.length := by omega
      obtain ⟨sw, hw', hRw, gw⟩ := rows j _ (List.getElem?_eq_getElem hj)
      have s7 : Sx (one b) H5 H7 := s6.trans hA7.sx
      have hr7 := sx_rd s7 nr hrm
      have g7 := g6.trans (At.gr hA7 hB7.there)
      have eD7 := (hA7 D Db).trans eD
      walk_at "g"
      refine ⟨_, _, _, _, rfl, rfl, .inl hr7, atI_nat hw', ?_⟩
      walk_at "g"
      have sP : Sx (also (one b) D) H7 (upd H7 D (.lst (acc ++ [sw]))) := Sx.put (.inr rfl)
      refine ⟨acc, eD7, small1000 (by omega), fun c u n e => ?_, g7.trans Gr.upd, hB7.keep (N := one D) (Sx.put rfl) (Ne.symm Db) (fun c z => .inr z), acc ++ [sw], mss ++ [nss[j]], upd_same, ((hra.sx (hA7.sx.le (one_le hw))).sx sP).append (RowsAt.one (((hRw.fresh hD).sx (s7.le (one_le hw))).sx sP) gw), by rw [List.length_append, la]; rfl⟩
      rw [upd_ne (fun z => by rw [z, hD] at e; cases e)]
      exact s7 c u n e
    obtain ⟨s6, g6, hB6', acc, mss, eD6, hra', la⟩ := p
    have hra := hra'.less (N := one b) also_le
    have hB6 := hB6'.less (N := one b) rfl also_le
    have hM6 : Mk (one b) H6 := hM5.gr g6
    have ef6 := s6 _ _ (show ¬ one b pf from pfb) ef5
    have r16 := r15.sx s6
    have r26 := r25.sx s6
    have hMe6 := hMe5.sx s6
    obtain ⟨w0, w1, w2, w3, rfl⟩ : ∃ w0 w1 w2 w3, acc = [w0, w1, w2, w3] := by
      match acc, la with
      | [w0, w1, w2, w3], _ => exact ⟨w0, w1, w2, w3, rfl⟩
    obtain ⟨n0, -, q0, gr0⟩ := hra.get (i := 0) rfl
    obtain ⟨n1, -, q1, gr1⟩ := hra.get (i := 1) rfl
    obtain ⟨n2, -, q2, gr2⟩ := hra.get (i := 2) rfl
    obtain ⟨n3, -, q3, gr3⟩ := hra.get (i := 3) rfl
    clear hra hra' hB6' hB5 hB4 hB3 hB2 hB1 hM1 hM3 hM4 hM5 r15 r25 r14 r24 r1 r2 r1'
    have W0 : WB T (alsoL (one b) []) H6 (one b) [] := WB.nil (fun c z => z)
    have be : ∀ {H' : Hp}, Same H6 H' → ∀ c, one b c → H' c ≠ none := fun {H'} sm c z => Gr.same sm c (by rw [show c = b from z]; exact hB6.there)
    have hMk0 : Mk (alsoL (one b) []) H6 := hM6
    have hL0 : ∀ p ∈ ([] : List Addr), H6 p = none := fun p hp => nomatch hp
    have sm0 : Same H6 H6 := Same.refl _
    have ef0 := sm0 _ _ ef6
    have eD0' := sm0 _ _ eD6
    have fr0 : ∀ p ∈ ([] : List Addr), H6 p = none := hL0
    walk_at "g"
    intro ka0 kd0 hka0 hkd0 hne0
    have hx0 : upd H6 kd0 (.own ka0) ka0 = none := by rw [upd_ne (fun z => hne0 z.symm)]; exact hka0
    have sA0 : Same H6 (upd (upd H6 kd0 (.own ka0)) ka0 (.ins T.C_Key kd0 [])) := (same_new hkd0).trans (same_new hx0)
    refine ⟨ka0, kd0, v1, f1, one b, rfl, upd_same, (r16.sx (Sx.same sm0)).sx (Sx.same sA0), (hM6.gr (Gr.same sm0)).gr (Gr.same sA0), k1, fun J0 sJ0 => ?_⟩
    have sB0 : Same H6 (upd J0 ka0 (.ins T.C_Key kd0 [(sParts, v1)])) := same_put (sA0.trans sJ0) hka0
    have eK0 : upd J0 ka0 (.ins T.C_Key kd0 [(sParts, v1)]) ka0 = some (.ins T.C_Key kd0 [(sParts, v1)]) := upd_same
    refine ⟨rfl, ?_⟩
    generalize upd J0 ka0 (.ins T.C_Key kd0 [(sParts, v1)]) = I0 at sB0 eK0
    have smI0 := sm0.trans sB0
    have eDI0 := smI0 _ _ eD6
    walk_at "g"
    intro xa0 da0 hxa0 hda0 hnx0
    have hy0 : upd I0 da0 (.own xa0) xa0 = none := by rw [upd_ne (fun z => hnx0 z.symm)]; exact hxa0
    have sC0 : Same I0 (upd (upd I0 da0 (.own xa0)) xa0 (.ins T.C_Known da0 [])) := (same_new hda0).trans (same_new hy0)
    have eC0 : upd (upd I0 da0 (.own xa0)) xa0 (.ins T.C_Known da0 []) xa0 = some (.ins T.C_Known da0 []) := upd_same
    generalize upd (upd I0 da0 (.own xa0)) xa0 (.ins T.C_Known da0 []) = C0 at sC0 eC0
    have hMI0 : Mk (alsoL (one b) ([] : List Addr)) I0 := hMk0.gr (Gr.same sB0)
    have hMC0 : Mk (also (alsoL (one b) ([] : List Addr)) xa0) C0 := (hMI0.gr (Gr.same sC0)).also (ne_none eC0)
    have hKey0 : KeyAt T.C_Key (alsoL (one b) ([] : List Addr)) I0 (.ref ka0) f1 := ⟨ka0, kd0, v1, rfl, hMk0.out hka0, eK0, (Rp.freshL r16 fr0).sx (Sx.same smI0), k1⟩
    refine ⟨xa0, da0, .ref ka0, w0, f1, n0, also (alsoL (one b) ([] : List Addr)) xa0, rfl, eC0, (KeyAt.fresh hxa0 hKey0).sx (Sx.same sC0), ((((q0.freshL fr0).sx (Sx.same smI0)).fresh hxa0).sx (Sx.same sC0)), gr0, hMC0, .inr rfl, fun E0 nd0 sE0 gE0 nE0 hk0 => ?_⟩
    refine ⟨rfl, ?_⟩
    have hxaH0 : H6 xa0 = none := sB0.free hxa0
    have smE0' : Same I0 E0 := same_step sC0 sE0 hxa0
    have hndI0 : I0 nd0 = none := sC0.free nE0
    have hndH0 : H6 nd0 = none := sB0.free hndI0
    have smE0 : Same H6 E0 := smI0.trans smE0'
    have hx60 : H6 xa0 = none := sm0.free hxaH0
    have hn60 : H6 nd0 = none := sm0.free hndH0
    have hMk1 : Mk (alsoL (one b) (([] : List Addr) ++ [xa0, nd0])) E0 := by
      rw [alsoL_app]
      exact (hMC0.gr gE0).also hk0.there.2.1
    have hL1 : ∀ p ∈ ([] : List Addr) ++ [xa0, nd0], H6 p = none := fun p hp => by
      rcases List.mem_append.mp hp with z | z
      · exact hL0 p z
      · simp only [List.mem_cons, List.not_mem_nil, or_false] at z
        rcases z with rfl | rfl
        · exact hx60
        · exact hn60
    have W1 : WB T (alsoL (one b) (([] : List Addr) ++ [xa0, nd0])) E0 (one b) (([] : List SX) ++ [bare xa0 nd0 (some f1) w0 n0]) := by
      rw [alsoL_app]
      refine WB.add W0 (l := [xa0, nd0]) (fun p hp => ?_) (sB0.trans smE0') ⟨hk0, .inl (.inr rfl), .inr rfl, fun z => nomatch z⟩ (fun c hc => ?_) ?_ (be sm0)
      · simp only [List.mem_cons, List.not_mem_nil, or_false] at hp
        rcases hp with rfl | rfl
        · exact hxaH0
        · exact hndH0
      · have hc : c ∈ [xa0, nd0] := hc
        simp only [List.mem_cons, List.not_mem_nil, or_false] at hc
        rcases hc with rfl | rfl
        · exact hxaH0
        · exact hndH0
      · show [xa0, nd0].Nodup
        simp [hk0.there.2.2]
    have sm1 := smE0
    have ef1 := sm1 _ _ ef6
    have eD1' := sm1 _ _ eD6
    have fr1 : ∀ p ∈ (([] : List Addr) ++ [xa0, nd0]), H6 p = none := hL1
    walk_at "g"
    intro ka1 kd1 hka1 hkd1 hne1
    have hx1 : upd E0 kd1 (.own ka1) ka1 = none := by rw [upd_ne (fun z => hne1 z.symm)]; exact hka1
    have sA1 : Same E0 (upd (upd E0 kd1 (.own ka1)) ka1 (.ins T.C_Key kd1 [])) := (same_new hkd1).trans (same_new hx1)
    refine ⟨ka1, kd1, v2, f2, one b, rfl, upd_same, (r26.sx (Sx.same sm1)).sx (Sx.same sA1), (hM6.gr (Gr.same sm1)).gr (Gr.same sA1), k2, fun J1 sJ1 => ?_⟩
    have sB1 : Same E0 (upd J1 ka1 (.ins T.C_Key kd1 [(sParts, v2)])) := same_put (sA1.trans sJ1) hka1
    have eK1 : upd J1 ka1 (.ins T.C_Key kd1 [(sParts, v2)]) ka1 = some (.ins T.C_Key kd1 [(sParts, v2)]) := upd_same
    refine ⟨rfl, ?_⟩
    generalize upd J1 ka1 (.ins T.C_Key kd1 [(sParts, v2)]) = I1 at sB1 eK1
    have smI1 := sm1.trans sB1
    have eDI1 := smI1 _ _ eD6
    walk_at "g"
    intro xa1 da1 hxa1 hda1 hnx1
    have hy1 : upd I1 da1 (.own xa1) xa1 = none := by rw [upd_ne (fun z => hnx1 z.symm)]; exact hxa1
    have sC1 : Same I1 (upd (upd I1 da1 (.own xa1)) xa1 (.ins T.C_Known da1 [])) := (same_new hda1).trans (same_new hy1)
    have eC1 : upd (upd I1 da1 (.own xa1)) xa1 (.ins T.C_Known da1 []) xa1 = some (.ins T.C_Known da1 []) := upd_same
    generalize upd (upd I1 da1 (.own xa1)) xa1 (.ins T.C_Known da1 []) = C1 at sC1 eC1
    have hMI1 : Mk (alsoL (one b) (([] : List Addr) ++ [xa0, nd0])) I1 := hMk1.gr (Gr.same sB1)
    have hMC1 : Mk (also (alsoL (one b) (([] : List Addr) ++ [xa0, nd0])) xa1) C1 := (hMI1.gr (Gr.same sC1)).also (ne_none eC1)
    have hKey1 : KeyAt T.C_Key (alsoL (one b) (([] : List Addr) ++ [xa0, nd0])) I1 (.ref ka1) f2 := ⟨ka1, kd1, v2, rfl, hMk1.out hka1, eK1, (Rp.freshL r26 fr1).sx (Sx.same smI1), k2⟩
    refine ⟨xa1, da1, .ref ka1, w1, f2, n1, also (alsoL (one b) (([] : List Addr) ++ [xa0, nd0])) xa1, rfl, eC1, (KeyAt.fresh hxa1 hKey1).sx (Sx.same sC1), ((((q1.freshL fr1).sx (Sx.same smI1)).fresh hxa1).sx (Sx.same sC1)), gr1, hMC1, .inr rfl, fun E1 nd1 sE1 gE1 nE1 hk1 => ?_⟩
    refine ⟨rfl, ?_⟩
    have hxaH1 : E0 xa1 = none := sB1.free hxa1
    have smE1' : Same I1 E1 := same_step sC1 sE1 hxa1
    have hndI1 : I1 nd1 = none := sC1.free nE1
    have hndH1 : E0 nd1 = none := sB1.free hndI1
    have smE1 : Same H6 E1 := smI1.trans smE1'
    have hx61 : H6 xa1 = none := sm1.free hxaH1
    have hn61 : H6 nd1 = none := sm1.free hndH1
    have hMk2 : Mk (alsoL (one b) ((([] : List Addr) ++ [xa0, nd0]) ++ [xa1, nd1])) E1 := by
      rw [alsoL_app]
      exact (hMC1.gr gE1).also hk1.there.2.1
    have hL2 : ∀ p ∈ (([] : List Addr) ++ [xa0, nd0]) ++ [xa1, nd1], H6 p = none := fun p hp => by
      rcases List.mem_append.mp hp with z | z
      · exact hL1 p z
      · simp only [List.mem_cons, List.not_mem_nil, or_false] at z
        rcases z with rfl | rfl
        · exact hx61
        · exact hn61
    have W2 : WB T (alsoL (one b) ((([] : List Addr) ++ [xa0, nd0]) ++ [xa1, nd1])) E1 (one b) ((([] : List SX) ++ [bare xa0 nd0 (some f1) w0 n0]) ++ [bare xa1 nd1 (some f2) w1 n1]) := by
      rw [alsoL_app]
      refine WB.add W1 (l := [xa1, nd1]) (fun p hp => ?_) (sB1.trans smE1') ⟨hk1, .inl (.inr rfl), .inr rfl, fun z => nomatch z⟩ (fun c hc => ?_) ?_ (be sm1)
      · simp only [List.mem_cons, List.not_mem_nil, or_false] at hp
        rcases hp with rfl | rfl
        · exact hxaH1
        · exact hndH1
      · have hc : c ∈ [xa1, nd1] := hc
        simp only [List.mem_cons, List.not_mem_nil, or_false] at hc
        rcases hc with rfl | rfl
        · exact hxaH1
        · exact hndH1
      · show [xa1, nd1].Nodup
        simp [hk1.there.2.2]
    have sm2 := smE1
    have eD2' := sm2 _ _ eD6
    have fr2 : ∀ p ∈ ((([] : List Addr) ++ [xa0, nd0]) ++ [xa1, nd1]), H6 p = none := hL2
    walk_at "g"
    intro xa2 da2 hxa2 hda2 hnx2
    have hy2 : upd E1 da2 (.own xa2) xa2 = none := by rw [upd_ne (fun z => hnx2 z.symm)]; exact hxa2
    have sC2 : Same E1 (upd (upd E1 da2 (.own xa2)) xa2 (.ins T.C_Things da2 [])) := (same_new hda2).trans (same_new hy2)
    have eC2 : upd (upd E1 da2 (.own xa2)) xa2 (.ins T.C_Things da2 []) xa2 = some (.ins T.C_Things da2 []) := upd_same
    generalize upd (upd E1 da2 (.own xa2)) xa2 (.ins T.C_Things da2 []) = C2 at sC2 eC2
    have hMC2 : Mk (also (alsoL (one b) ((([] : List Addr) ++ [xa0, nd0]) ++ [xa1, nd1])) xa2) C2 := (hMk2.gr (Gr.same sC2)).also (ne_none eC2)
    refine ⟨xa2, da2, w2, n2, also (alsoL (one b) ((([] : List Addr) ++ [xa0, nd0]) ++ [xa1, nd1])) xa2, rfl, eC2, ((((q2.freshL fr2).sx (Sx.same sm2)).fresh hxa2).sx (Sx.same sC2)), gr2, hMC2, .inr rfl, fun E2 nd2 sE2 gE2 nE2 hk2 => ?_⟩
    refine ⟨rfl, ?_⟩
    have smE2' : Same E1 E2 := same_step sC2 sE2 hxa2
    have hndH2 : E1 nd2 = none := sC2.free nE2
    have smE2 : Same H6 E2 := sm2.trans smE2'
    have hx62 : H6 xa2 = none := sm2.free hxa2
    have hn62 : H6 nd2 = none := sm2.free hndH2
    have hMk3 : Mk (alsoL (one b) (((([] : List Addr) ++ [xa0, nd0]) ++ [xa1, nd1]) ++ [xa2, nd2])) E2 := by
      rw [alsoL_app]
      exact (hMC2.gr gE2).also hk2.there.2.1
    have hL3 : ∀ p ∈ ((([] : List Addr) ++ [xa0, nd0]) ++ [xa1, nd1]) ++ [xa2, nd2], H6 p = none := fun p hp => by
      rcases List.mem_append.mp hp with z | z
      · exact hL2 p z
      · simp only [List.mem_cons, List.not_mem_nil, or_false] at z
        rcases z with rfl | rfl
        · exact hx62
        · exact hn62
    have W3 : WB T (alsoL (one b) (((([] : List Addr) ++ [xa0, nd0]) ++ [xa1, nd1]) ++ [xa2, nd2])) E2 (one b) (((([] : List SX) ++ [bare xa0 nd0 (some f1) w0 n0]) ++ [bare xa1 nd1 (some f2) w1 n1]) ++ [bare xa2 nd2 none w2 n2]) := by
      rw [alsoL_app]
      refine WB.add W2 (l := [xa2, nd2]) (fun p hp => ?_) smE2' ⟨hk2, .inl (.inr rfl), .inr rfl, fun z => nomatch z⟩ (fun c hc => ?_) ?_ (be sm2)
      · simp only [List.mem_cons, List.not_mem_nil, or_false] at hp
        rcases hp with rfl | rfl
        · exact hxa2
        · exact hndH2
      · have hc : c ∈ [xa2, nd2] := hc
        simp only [List.mem_cons, List.not_mem_nil, or_false] at hc
        rcases hc with rfl | rfl
        · exact hxa2
        · exact hndH2
      · show [xa2, nd2].Nodup
        simp [hk2.there.2.2]
    have sm3 := smE2
    have eD3' := sm3 _ _ eD6
    have fr3 : ∀ p ∈ (((([] : List Addr) ++ [xa0, nd0]) ++ [xa1, nd1]) ++ [xa2, nd2]), H6 p = none := hL3
    walk_at "g"
    intro xa3 da3 hxa3 hda3 hnx3
    have hy3 : upd E2 da3 (.own xa3) xa3 = none := by rw [upd_ne (fun z => hnx3 z.symm)]; exact hxa3
    have sC3 : Same E2 (upd (upd E2 da3 (.own xa3)) xa3 (.ins T.C_Things da3 [])) := (same_new hda3).trans (same_new hy3)
    have eC3 : upd (upd E2 da3 (.own xa3)) xa3 (.ins T.C_Things da3 []) xa3 = some (.ins T.C_Things da3 []) := upd_same
    generalize upd (upd E2 da3 (.own xa3)) xa3 (.ins T.C_Things da3 []) = C3 at sC3 eC3
    have hMC3 : Mk (also (alsoL (one b) (((([] : List Addr) ++ [xa0, nd0]) ++ [xa1, nd1]) ++ [xa2, nd2])) xa3) C3 := (hMk3.gr (Gr.same sC3)).also (ne_none eC3)
    refine ⟨xa3, da3, w3, n3, also (alsoL (one b) (((([] : List Addr) ++ [xa0, nd0]) ++ [xa1, nd1]) ++ [xa2, nd2])) xa3, rfl, eC3, ((((q3.freshL fr3).sx (Sx.same sm3)).fresh hxa3).sx (Sx.same sC3)), gr3, hMC3, .inr rfl, fun E3 nd3 sE3 gE3 nE3 hk3 => ?_⟩
    refine ⟨rfl, ?_⟩
    have smE3' : Same E2 E3 := same_step sC3 sE3 hxa3
    have hndH3 : E2 nd3 = none := sC3.free nE3
    have smE3 : Same H6 E3 := sm3.trans smE3'
    have hx63 : H6 xa3 = none := sm3.free hxa3
    have hn63 : H6 nd3 = none := sm3.free hndH3
    have hMk4 : Mk (alsoL (one b) ((((([] : List Addr) ++ [xa0, nd0]) ++ [xa1, nd1]) ++ [xa2, nd2]) ++ [xa3, nd3])) E3 := by
      rw [alsoL_app]
      exact (hMC3.gr gE3).also hk3.there.2.1
    have hL4 : ∀ p ∈ (((([] : List Addr) ++ [xa0, nd0]) ++ [xa1, nd1]) ++ [xa2, nd2]) ++ [xa3, nd3], H6 p = none := fun p hp => by
      rcases List.mem_append.mp hp with z | z
      · exact hL3 p z
      · simp only [List.mem_cons, List.not_mem_nil, or_false] at z
        rcases z with rfl | rfl
        · exact hx63
        · exact hn63
    have W4 : WB T (alsoL (one b) ((((([] : List Addr) ++ [xa0, nd0]) ++ [xa1, nd1]) ++ [xa2, nd2]) ++ [xa3, nd3])) E3 (one b) ((((([] : List SX) ++ [bare xa0 nd0 (some f1) w0 n0]) ++ [bare xa1 nd1 (some f2) w1 n1]) ++ [bare xa2 nd2 none w2 n2]) ++ [bare xa3 nd3 none w3 n3]) := by
      rw [alsoL_app]
      refine WB.add W3 (l := [xa3, nd3]) (fun p hp => ?_) smE3' ⟨hk3, .inl (.inr rfl), .inr rfl, fun z => nomatch z⟩ (fun c hc => ?_) ?_ (be sm3)
      · simp only [List.mem_cons, List.not_mem_nil, or_false] at hp
        rcases hp with rfl | rfl
        · exact hxa3
        · exact hndH3
      · have hc : c ∈ [xa3, nd3] := hc
        simp only [List.mem_cons, List.not_mem_nil, or_false] at hc
        rcases hc with rfl | rfl
        · exact hxa3
        · exact hndH3
      · show [xa3, nd3].Nodup
        simp [hk3.there.2.2]
    have sm4 := smE3
    walk_at "g"
    refine ⟨szK rfl, fun pb hpb => ?_⟩
    have sb : Same E3 (upd E3 pb (.lst [.ref xa0, .ref xa1, .ref xa2, .ref xa3])) := same_new hpb
    have eb : upd E3 pb (.lst [.ref xa0, .ref xa1, .ref xa2, .ref xa3]) pb = some (.lst [.ref xa0, .ref xa1, .ref xa2, .ref xa3]) := upd_same
    generalize upd E3 pb (.lst [.ref xa0, .ref xa1, .ref xa2, .ref xa3]) = G0 at sb eb
    have pbb : pb ≠ b := fun z => by
      have := be sm4 b rfl
      rw [← z] at this
      exact this hpb
    walk_at "g"
    refine ⟨szK rfl, fun pm hpm => ?_⟩
    have sm5 := sm4.trans sb
    have spm : Same G0 (upd G0 pm (.lst [])) := same_new hpm
    have epm : upd G0 pm (.lst []) pm = some (.lst []) := upd_same
    have pmb : pm ≠ b := fun z => by
      have := be sm5 b rfl
      rw [← z] at this
      exact this hpm
    have npb : pb ≠ pm := fun z => by rw [← z, eb] at hpm; cases hpm
    obtain ⟨L4, eL4⟩ : ∃ L, L = ((((([] : List Addr) ++ [xa0, nd0]) ++ [xa1, nd1]) ++ [xa2, nd2]) ++ [xa3, nd3]) := ⟨_, rfl⟩
    have hL4' : ∀ p ∈ L4, H6 p = none := by rw [eL4]; exact hL4
    have hMk4' : Mk (alsoL (one b) L4) E3 := by rw [eL4]; exact hMk4
    have W4' : WB T (alsoL (one b) L4) E3 (one b) [bare xa0 nd0 (some f1) w0 n0, bare xa1 nd1 (some f2) w1 n1, bare xa2 nd2 none w2 n2, bare xa3 nd3 none w3 n3] := by rw [eL4]; exact W4
    have hM0 : Mk (also (alsoL (one b) L4) pm) (upd G0 pm (.lst [])) := ((hMk4'.gr (Gr.same sb)).gr (Gr.same spm)).also (ne_none epm)
    have WB0 : WB T (also (alsoL (one b) L4) pm) (upd G0 pm (.lst [])) (also (one b) pm) [bare xa0 nd0 (some f1) w0 n0, bare xa1 nd1 (some f2) w1 n1, bare xa2 nd2 none w2 n2, bare xa3 nd3 none w3 n3] := ((W4'.same sb).more hpm).same spm
    have hBg : Bag K (also (alsoL (one b) L4) pm) (upd G0 pm (.lst [])) b := ((((hB6.moreL hL4').same sm5).more hpm).same spm)
    have hMe0 : MenuAt (also (alsoL (one b) L4) pm) (upd G0 pm (.lst [])) (.ref rm) nss := (MenuAt.fresh hpm ((hMe6.freshL hL4').sx (Sx.same sm5))).sx (Sx.same spm)
    have fo1 : FormAt (some f1) (also (alsoL (one b) L4) pm) (upd G0 pm (.lst [])) v1 := FormAt.sx (FormAt.fresh (FormAt.sx (FormAt.freshL (o := some f1) ⟨r16, k1⟩ hL4') (Sx.same sm5)) hpm) (Sx.same spm)
    have fo2 : FormAt (some f2) (also (alsoL (one b) L4) pm) (upd G0 pm (.lst [])) v2 := FormAt.sx (FormAt.fresh (FormAt.sx (FormAt.freshL (o := some f2) ⟨r26, k2⟩ hL4') (Sx.same sm5)) hpm) (Sx.same spm)
    have smB := sm5.trans spm
    have efB := smB _ _ ef6
    have eDB := smB _ _ eD6
    have ebB := spm _ _ eb
    have nM : ∀ c, H6 c ≠ none → c ≠ b → ¬ (also (alsoL (one b) L4) pm) c := fun c h1 h2 z => by
      rcases z with z | z
      · rcases alsoL_mem z with y | y
        · exact h2 y
        · exact h1 (hL4' c y)
      · exact h1 (by rw [show c = pm from z]; exact sm5.free hpm)
    have nMpf := nM pf (ne_none ef6) pfb
    have nMD := nM D (ne_none eD6) Db
    have nMpb : ¬ (also (alsoL (one b) L4) pm) pb := fun z => by
      rcases z with z | z
      · exact hMk4'.out hpb z
      · exact npb z
    generalize upd G0 pm (.lst []) = B at spm epm hM0 WB0 hBg hMe0 fo1 fo2 smB efB eDB ebB
    obtain ⟨M5, eM5⟩ : ∃ M, M = also (alsoL (one b) L4) pm := ⟨_, rfl⟩
    rw [← eM5] at hM0 WB0 hBg hMe0 fo1 fo2 nMpf nMD nMpb
    have mb5 : M5 b := hBg.w
    have mpm5 : M5 pm := by rw [eM5]; exact .inr rfl
    clear eM5 nM eb sb hMk4' W4' hL4' eL4
    obtain ⟨P0, eP0⟩ : ∃ P : List SX, P = [bare xa0 nd0 (some f1) w0 n0, bare xa1 nd1 (some f2) w1 n1, bare xa2 nd2 none w2 n2, bare xa3 nd3 none w3 n3] := ⟨_, rfl⟩
    rw [← eP0] at WB0
    have lP0 : P0.length = 4 := by rw [eP0]; rfl
    have forms4 : ∀ (j : Nat) (s0 : SX), P0[j]? = some s0 → ∃ fv, [v1, v2, V.non, V.non][j]? = some fv ∧ FormAt s0.2.o M5 B fv := fun j s0 h => by
      rw [eP0] at h
      match j, h with
      | 0, h => cases h; exact ⟨v1, rfl, fo1⟩
      | 1, h => cases h; exact ⟨v2, rfl, fo2⟩
      | 2, h => cases h; exact ⟨.non, rfl, rfl⟩
      | 3, h => cases h; exact ⟨.non, rfl, rfl⟩
      | j + 4, h => simp at h
    have starts4 : ∀ (j : Nat) (s0 : SX), P0[j]? = some s0 → [w0, w1, w2, w3][j]? = some s0.2.v ∧ [V.ref xa0, .ref xa1, .ref xa2, .ref xa3][j]? = some (.ref s0.2.a) ∧ s0.1 = false ∧ s0.2.N = shownO s0.2.o s0.2.ns (fun _ => none) := fun j s0 h => by
      rw [eP0] at h
      match j, h with
      | 0, h => cases h; exact ⟨rfl, rfl, rfl, rfl⟩
      | 1, h => cases h; exact ⟨rfl, rfl, rfl, rfl⟩
      | 2, h => cases h; exact ⟨rfl, rfl, rfl, rfl⟩
      | 3, h => cases h; exact ⟨rfl, rfl, rfl, rfl⟩
      | j + 4, h => simp at h
    clear eP0 W0 W1 W2 W3 W4 hMk0 hMk1 hMk2 hMk3 hMk4 hL0 hL1 hL2 hL3 hL4 hk0 hk1 hk2 hk3
    have beB : ∀ {H' : Hp}, Gr B H' → ∀ c, also (one b) pm c → H' c ≠ none := fun {H'} g c z => g c (by
      rcases z with z | z
      · rw [show c = b from z]; exact hBg.there
      · rw [show c = pm from z]; exact ne_none epm)
    walk_at "g"
    refine ⟨by decide, by decide, ?_⟩
    refine for_range (lo := 0) (n := 4) (fun i σ H' => (∃ y7 y8 y9 y10, σ = [some (.ref a), some (.ref b), some (.ref pf), some (.ref rm), some (.ref D), some (.ref pb), some (.ref pm), y7, y8, y9, y10]) ∧ ∃ (L : List Addr) (ps : List SX) (xs : List V), (∀ p ∈ L, B p = none) ∧ Sx M5 B H' ∧ Gr B H' ∧ Bag K (alsoL M5 L) H' b ∧ Mk (alsoL M5 L) H' ∧ WB T (alsoL M5 L) H' (also (one b) pm) ps ∧ ps.length = 4 ∧
      (∀ (j : Nat) (s : SX), ps[j]? = some s → s.1 = decide (j < i) ∧ ∃ s0, P0[j]? = some s0 ∧ s.2.a = s0.2.a ∧ s.2.o = s0.2.o ∧ s.2.v = s0.2.v ∧ s.2.N = shownO s.2.o s.2.ns (fun _ => none)) ∧ H' pm = some (.lst xs) ∧ xs.length = i ∧ (∀ (j : Nat) (s : SX), j < i → ps[j]? = some s → xs[j]? = some (.ref s.2.m)))
      ⟨⟨_, _, _, _, rfl⟩, [], P0, [], fun p hp => (nomatch hp), Sx.same (Same.refl _), Gr.same (Same.refl _), hBg, hM0, WB0, lP0, fun j s hj => ⟨by rw [(starts4 j s hj).2.2.1]; exact (decide_eq_false (Nat.not_lt_zero j)).symm, s, hj, rfl, rfl, rfl, (starts4 j s hj).2.2.2⟩, epm, rfl, fun j s hj => absurd hj (Nat.not_lt_zero j)⟩ (fun i σ H' hi p => ?_) (fun σ H' p => ?_)
    · obtain ⟨⟨y7, y8, y9, y10, rfl⟩, L, ps, xs', fL, sx, gr, hBi, hMi, hW, lps, hps, exs, lxs, hxm⟩ := p
      have hi4 : i < 4 := by omega
      have hsi : ps[i]? = some (ps[i]'(by omega)) := List.getElem?_eq_getElem _
      obtain ⟨s, es⟩ : ∃ s, s = ps[i]'(by omega) := ⟨_, rfl⟩
      rw [← es] at hsi
      obtain ⟨t1, s0, h0, ea, eo, ev, eN⟩ := hps i s hsi
      have t1' : s.1 = false := by rw [t1]; exact decide_eq_false (Nat.lt_irrefl i)
      obtain ⟨fv, hfv, hF⟩ := forms4 i s0 h0
      obtain ⟨hst, -, -, -⟩ := starts4 i s0 h0
      rw [← ev] at hst
      rw [← eo] at hF
      obtain ⟨hok, hnds, hes⟩ := hW.ok i s hsi
      obtain ⟨hRs, hgs⟩ := hok.1.row
      have sxL : Sx (alsoL M5 L) B H' := sx.le (fun c z => alsoL_le z)
      have hFi := FormAt.sx (FormAt.freshL hF fL) sxL
      have efi := sx _ _ nMpf efB
      have eDi := sx _ _ nMD eDB
      rw [Int.zero_add]
      walk_at "g"
      refine ⟨.inl ⟨rfl, _, SqL.of exs⟩, ?_⟩
      walk_at "g"
      refine ⟨_, _, _, _, rfl, rfl, SqL.of efi, atI_nat hfv, ?_⟩
      walk_at "g"
      refine ⟨szK rfl, fun pt hpt => ?_⟩
      have sd0 : Same H' (upd H' pt (.tup [])) := same_new hpt
      generalize upd H' pt (.tup []) = Ht at sd0
      walk_at "g"
      refine dnewB (o := s.2.o) (fun pd Hd hpd sd hDd => ?_)
      walk_at "g"
      refine ⟨szK rfl, fun pl hpl => ?_⟩
      have sd1 := sd0.trans sd
      have spl : Same Hd (upd Hd pl (.lst [fv, .ref pt, .ref pd])) := same_new hpl
      have hpl' : H' pl = none := sd1.free hpl
      have hpd' : H' pd = none := sd0.free hpd
      have epl : upd Hd pl (.lst [fv, .ref pt, .ref pd]) pl = some (.lst [fv, .ref pt, .ref pd]) := upd_same
      have hDl := hDd.frame (F := fun _ => False) (Sx.same spl) (fun z => z)
      have sd2 := sd1.trans spl
      generalize upd Hd pl (.lst [fv, .ref pt, .ref pd]) = Hl at spl epl hDl sd2
      have exl := sd2 _ _ exs
      have plm : pl ≠ pm := fun z => by rw [z, exs] at hpl'; cases hpl'
      have pdm : pd ≠ pm := fun z => by rw [z, exs] at hpd'; cases hpd'
      refine ⟨pm, xs', _, rfl, rfl, exl, small1000000 (by omega), ?_⟩
      have sP : Sx (one pm) Hl (upd Hl pm (.lst (xs' ++ [.ref pl]))) := Sx.put rfl
      have gP : Gr Hl (upd Hl pm (.lst (xs' ++ [.ref pl]))) := Gr.upd
      have ex9 : upd Hl pm (.lst (xs' ++ [.ref pl])) pm = some (.lst (xs' ++ [.ref pl])) := upd_same
      have hm9 := sP _ _ (show ¬ one pm pl from plm) epl
      have hD9 := hDl.frame sP (show ¬ one pm pd from pdm)
      generalize upd Hl pm (.lst (xs' ++ [.ref pl])) = H9 at sP gP ex9 hm9 hD9
      have sT : Sx (one pm) H' H9 := (Sx.same sd2).trans sP
      have gT : Gr H' H9 := (Gr.same sd2).trans gP
      have mpmL : alsoL M5 L pm := alsoL_le mpm5
      have sTM : Sx (also (alsoL M5 L) pl) H' H9 := sT.le (one_le (.inl mpmL))
      have eD9 := sT _ _ (fun z => nMD (by rw [show D = pm from z]; exact mpm5)) eDi
      have exi : (xs' ++ [V.ref pl])[i]? = some (.ref pl) := by
        rw [List.getElem?_append_right (by omega), lxs]
        simp
      walk_at "g"
      refine ⟨_, _, _, _, rfl, rfl, SqL.of ex9, atI_nat exi, ?_⟩
      walk_at "g"
      refine ⟨_, _, _, _, rfl, rfl, SqL.of eD9, atI_nat hst, ?_⟩
      have hMk9 : Mk (also (alsoL M5 L) pl) H9 := (hMi.gr gT).also (ne_none hm9)
      refine ⟨s.2.o, pl, pd, fv, .ref pt, s.2.v, s.2.ns, fun _ => none, also (alsoL M5 L) pl, rfl, hm9, FormAt.sx (FormAt.fresh hFi hpl') sTM, hD9, (hRs.fresh hpl').sx sTM, hgs, hMk9, .inr rfl, fun H10 d' s10 g10 n10 hm10 hD10 => ?_⟩
      have n10' : H' d' = none := none_gr gT n10
      have pld : pl ≠ d' := fun z => by rw [← z, hm9] at n10; cases n10
      have sU : Sx (one pm) H' H10 := fun c u n e => s10 c u (fun z => by rw [show c = pl from z, hpl'] at e; cases e) (sT c u n e)
      have gU : Gr H' H10 := gT.trans g10
      have fr2 : ∀ p ∈ [pl, d'], H' p = none := fun p hp => by
        simp only [List.mem_cons, List.not_mem_nil, or_false] at hp
        rcases hp with rfl | rfl
        · exact hpl'
        · exact n10'
      have hok' := (hok.freshL fr2).frame sU (one_le (alsoL_le mpmL)) (fun c hc z => hes c hc (.inr z))
      have sa_t := hok.there s.2.a s.a_mem
      have sn_t := hok.there s.2.nd s.nd_mem
      have as_f : s.as = [s.2.a, s.2.nd] := by unfold SX.as; rw [if_neg (by rw [t1']; exact Bool.false_ne_true)]
      refine ⟨⟨_, _, _, _, rfl⟩, L ++ [pl, d'], ps.set i (withM s pl d'), xs' ++ [.ref pl], fun p hp => ?_, fun c u n e => ?_, gr.trans gU, ?_, ?_, ?_, by rw [List.length_set]; exact lps, fun j t hj => ?_, s10 _ _ (show ¬ one pl pm from fun z => plm z.symm) ex9, by rw [List.length_append, lxs]; rfl, fun j t hj ht => ?_⟩
      · rcases List.mem_append.mp hp with z | z
        · exact fL p z
        · exact none_gr gr (fr2 p z)
      · exact sU c u (fun z => n (by rw [show c = pm from z]; exact mpm5)) (sx c u n e)
      · rw [alsoL_app]
        exact (hBi.moreL fr2).keep sU (show ¬ one pm b from fun z => pmb z.symm) (one_le (alsoL_le mpmL))
      · rw [alsoL_app]
        exact (hMk9.gr g10).also hD10.there
      · rw [alsoL_app]
        refine hW.upd hsi fr2 sU (fun c z => .inl (.inr z)) (s' := withM s pl d') ⟨hok'.1, hok'.2.1, hok'.2.2.1, fun _ => ⟨⟨fv, hm10, ?_, ?_⟩, ?_, ?_⟩⟩ (fun c hc => ?_) ?_ (beB gr)
        · exact FormAt.sx (FormAt.fresh (FormAt.sx (FormAt.fresh hFi hpl') sTM) n10) (s10.le (one_le (.inl (.inr rfl))))
        · show DictO s.2.o H10 d' s.2.N
          rw [eN]
          exact hD10
        · exact .inl (.inr rfl)
        · exact .inr rfl
        · have hc : c ∈ [s.2.a, s.2.nd, pl, d'] := hc
          rw [as_f]
          simp only [List.mem_cons, List.not_mem_nil, or_false] at hc ⊢
          rcases hc with rfl | rfl | rfl | rfl
          · exact .inl (.inl rfl)
          · exact .inl (.inr rfl)
          · exact .inr hpl'
          · exact .inr n10'
        · show [s.2.a, s.2.nd, pl, d'].Nodup
          have z1 : s.2.a ≠ s.2.nd := hok.1.there.2.2
          have z2 : s.2.a ≠ pl := fun z => sa_t (by rw [z]; exact hpl')
          have z3 : s.2.a ≠ d' := fun z => sa_t (by rw [z]; exact n10')
          have z4 : s.2.nd ≠ pl := fun z => sn_t (by rw [z]; exact hpl')
          have z5 : s.2.nd ≠ d' := fun z => sn_t (by rw [z]; exact n10')
          simp [z1, z2, z3, z4, z5, pld]
      · by_cases ji : j = i
        · subst ji
          rw [List.getElem?_set_self (by omega)] at hj
          cases hj
          exact ⟨(decide_eq_true (Nat.lt_succ_self j)).symm, s0, h0, ea, eo, ev, eN⟩
        · rw [List.getElem?_set_ne (Ne.symm ji)] at hj
          obtain ⟨y1, y2⟩ := hps j t hj
          refine ⟨?_, y2⟩
          rw [y1]
          by_cases c : j < i
          · rw [decide_eq_true c, decide_eq_true (by omega)]
          · rw [decide_eq_false c, decide_eq_false (by omega)]
      · by_cases ji : j = i
        · subst ji
          rw [List.getElem?_set_self (by omega)] at ht
          cases ht
          exact exi
        · rw [List.getElem?_set_ne (Ne.symm ji)] at ht
          rw [List.getElem?_append_left (by omega)]
          exact hxm j t (by omega) ht
    obtain ⟨⟨y7, y8, y9, y10, rfl⟩, L, ps, xs', fL, sx, gr, hBi, hMi, hW, lps, hps, exs, lxs, hxm⟩ := p
    have mpmL : ∀ L : List Addr, alsoL M5 L pm := fun L => alsoL_le mpm5
    have mbL : ∀ L : List Addr, alsoL M5 L b := fun L => alsoL_le mb5
    walk_at "g"
    refine ⟨b, _, alsoL M5 L, rfl, hBi, by omega, by omega, fun cnt H7 c0 c1 hA7 hB7 => ?_⟩
    walk_at "g"
    refine ⟨by omega, by omega, ?_⟩
    refine for_range (lo := 0) (n := (8 + cnt).toNat) (fun i σ H' => (∃ y7 y8 y9 y10, σ = [some (.ref a), some (.ref b), some (.ref pf), some (.ref rm), some (.ref D), some (.ref pb), some (.ref pm), y7, y8, y9, y10]) ∧ ∃ (L : List Addr) (ps : List SX), (∀ p ∈ L, B p = none) ∧ Sx M5 B H' ∧ Gr B H' ∧ Bag K (alsoL M5 L) H' b ∧ Mk (alsoL M5 L) H' ∧ WB T (alsoL M5 L) H' (also (one b) pm) ps ∧ ps.length = 4 ∧
      (∀ (j : Nat) (s : SX), ps[j]? = some s → s.1 = true ∧ [V.ref xa0, .ref xa1, .ref xa2, .ref xa3][j]? = some (.ref s.2.a) ∧ xs'[j]? = some (.ref s.2.m)) ∧ H' pm = some (.lst xs'))
      ⟨⟨_, _, _, _, rfl⟩, L, ps, fL, sx.trans (hA7.sx.le (one_le mb5)), gr.trans (At.gr hA7 hB7.there), hB7, hMi.gr (At.gr hA7 hB7.there), hW.frame hA7.sx (fun c z => .inl z), lps, fun j s hj => ?_, (hA7 pm pmb).trans exs⟩ (fun i σ H' hi p => ?_) (fun σ H' p => ?_)
    · obtain ⟨y1, s0, h0, ea, -⟩ := hps j s hj
      have j4 : j < 4 := by
        have := (List.getElem?_eq_some_iff.mp hj).1
        omega
      refine ⟨by rw [y1]; exact decide_eq_true j4, ?_, hxm j s j4 hj⟩
      rw [ea]
      exact (starts4 j s0 h0).2.1
    · clear hps hxm hW hMi hBi gr sx fL lps exs
      obtain ⟨⟨y7, y8, y9, y10, rfl⟩, L, ps, fL, sx, gr, hBi, hMi, hW, lps, hps, exs⟩ := p
      rw [Int.zero_add]
      walk_at "g"
      refine ⟨b, _, alsoL M5 L, rfl, hBi, by omega, by omega, fun wh H1 d0 d1 hA1 hB1 => ?_⟩
      obtain ⟨j, rfl⟩ : ∃ j : Nat, wh = (j : Int) := ⟨wh.toNat, by omega⟩
      have hj4 : j < ps.length := by omega
      have g1 := At.gr hA1 hB1.there
      have hW1 := hW.frame hA1.sx (fun c z => .inl z)
      have sx1 : Sx M5 B H1 := sx.trans (hA1.sx.le (one_le mb5))
      have ex1 := (hA1 pm pmb).trans exs
      have eb1 := sx1 _ _ nMpb ebB
      have hM1 := hMi.gr g1
      have gr1 := gr.trans g1
      have hMe1 : MenuAt (alsoL M5 L) H1 (.ref rm) nss := (hMe0.freshL fL).sx (sx1.le (fun c z => alsoL_le z))
      obtain ⟨s, hs⟩ : ∃ s, ps[j]? = some s := ⟨_, List.getElem?_eq_getElem hj4⟩
      obtain ⟨t1, ha', hm'⟩ := hps j s hs
      obtain ⟨hok, hnds, hes⟩ := hW1.ok j s hs
      have as_t : s.as = s.2.as := by unfold SX.as; rw [if_pos t1]
      walk_at "g"
      refine ⟨_, _, _, _, rfl, rfl, SqL.of eb1, atI_nat ha', ?_⟩
      walk_at "g"
      refine ⟨_, _, _, _, rfl, rfl, SqL.of ex1, atI_nat hm', ?_⟩
      walk_at "g"
      refine ⟨b, s.2, .ref rm, nss, alsoL M5 L, rfl, hB1, hok.full t1, by rw [← as_t]; exact hnds, fun z => hes b (by rw [as_t]; exact z) (.inl rfl), hMe1, l1, hM1, fun H2 l x' s2 g2 fl hB2 hM2 hX2 e1 e2 e3 new nd' nb' => ?_⟩
      have hW2 : WB T (alsoL M5 (L ++ l)) H2 (also (one b) pm) (ps.set j (fullS x')) := by
        rw [alsoL_app]
        exact hW1.upd (s' := (fullS x')) hs fl s2 (fun c z => z.elim (fun z => .inl (.inl z)) (fun z => .inr (by rw [as_t]; exact z))) (SXok.of hX2) (fun c hc => by rw [as_t]; exact new c hc) nd' (beB gr1)
      have lset : (ps.set j (fullS x')).length = 4 := by rw [List.length_set]; exact lps
      have hps2 : ∀ (k : Nat) (t : SX), (ps.set j (fullS x'))[k]? = some t → t.1 = true ∧ [V.ref xa0, .ref xa1, .ref xa2, .ref xa3][k]? = some (.ref t.2.a) ∧ xs'[k]? = some (.ref t.2.m) := fun k t hk => by
        by_cases kj : k = j
        · subst kj
          rw [List.getElem?_set_self hj4] at hk
          cases hk
          refine ⟨rfl, ?_, ?_⟩
          · show _ = some (V.ref x'.a)
            rw [e1]
            exact ha'
          · show _ = some (V.ref x'.m)
            rw [e2]
            exact hm'
        · rw [List.getElem?_set_ne (Ne.symm kj)] at hk
          exact hps k t hk
      generalize ps.set j (fullS x') = ps2 at hW2 lset hps2
      have npm : ∀ c, foot b s.2 c → c ≠ pm := fun c z y => by
        rcases z with z | z
        · exact pmb (by rw [← y]; exact z)
        · exact hes c (by rw [as_t]; exact z) (.inr y)
      have ex2 := s2 _ _ (fun z => npm pm z rfl) ex1
      have nb2 : ∀ c u, ¬ M5 c → B c = some u → H2 c = some u := fun c u n e => s2 c u (fun z => by
        rcases z with z | z
        · exact n (by rw [z]; exact mb5)
        · have hcm : alsoL M5 L c := (hok.full t1).mem c z
          rcases alsoL_mem hcm with y | y
          · exact n y
          · rw [fL c y] at e
            cases e) (sx1 c u n e)
      have eb2 := nb2 pb _ nMpb ebB
      have fL2 : ∀ p ∈ L ++ l, B p = none := fun p hp => by
        rcases List.mem_append.mp hp with z | z
        · exact fL p z
        · exact none_gr gr1 (fl p z)
      have gr2 : Gr B H2 := gr1.trans g2
      have hB2' : Bag K (alsoL M5 (L ++ l)) H2 b := by rw [alsoL_app]; exact hB2
      have hM2' : Mk (alsoL M5 (L ++ l)) H2 := by rw [alsoL_app]; exact hM2
      walk_at "g"
      refine ⟨by decide, by decide, ?_⟩
      refine for_range (lo := 0) (n := 4) (fun k σ H3 => (∃ y9 y10, σ = [some (.ref a), some (.ref b), some (.ref pf), some (.ref rm), some (.ref D), some (.ref pb), some (.ref pm), some (.int j), some (.int i), y9, y10]) ∧ Same H2 H3) ⟨⟨_, _, rfl⟩, Same.refl _⟩ (fun k σ H3 hk p => ?_) (fun σ H3 p => ?_)
      · obtain ⟨⟨y9, y10, rfl⟩, s3⟩ := p
        have hk4 : k < ps2.length := by omega
        obtain ⟨t, ht⟩ : ∃ t, ps2[k]? = some t := ⟨_, List.getElem?_eq_getElem hk4⟩
        obtain ⟨u1, hta, htm⟩ := hps2 k t ht
        have ok3 := ((hW2.same s3).ok k t ht).1.full u1
        rw [Int.zero_add]
        walk_at "g"
        refine ⟨_, _, _, _, rfl, rfl, SqL.of (s3 _ _ eb2), atI_nat hta, ?_⟩
        walk_at "g"
        refine ⟨_, _, _, _, rfl, rfl, SqL.of (s3 _ _ ex2), atI_nat htm, ?_⟩
        walk_at "g"
        refine ⟨t.2.o, t.2.a, t.2.nd, t.2.m, t.2.d, t.2.v, t.2.ns, t.2.N, alsoL M5 (L ++ l), rfl, ok3.1, ok3.2.1, hM2'.gr (Gr.same s3), fun H4 s4 => ?_⟩
        walk_at "g"
        exact ⟨⟨_, _, rfl⟩, s3.trans s4⟩
      · obtain ⟨⟨y9, y10, rfl⟩, s3⟩ := p
        exact ⟨⟨_, _, _, _, rfl⟩, L ++ l, ps2, fL2, fun c u n e => s3 _ _ (nb2 c u n e), gr2.trans (Gr.same s3), hB2'.same s3, hM2'.gr (Gr.same s3), hW2.same s3, lset, hps2, s3 _ _ ex2⟩
    · obtain ⟨⟨y7, y8, y9, y10, rfl⟩, _⟩ := p
      walk_at "g"
      exact q _
end
end D

namespace D
open PySem PySem.Spec PyProof.Rows L2
theorem all_mk {l : PySem.W.OpenLaw} {w : World} {K : PySem.W.Frag} {h : Heap} {mg : Str → Option Value} {fa : Addr} {f_is_whole f_is_value f_is_name f_inner_forms f__well_made f_check_form f_value_of f_names_in f_is_row f_check_rows f__key_value f__idents f__law_mixed f__law_bag f__law_pick f__law_choice f__law_mingled f__law_number f__law_form f__law_value f__law_idents f__law_row f__law_any_key f__law_changed f__law_rows_shown f__law_known_by f__law_shows f__law_agrees f__law_not_read f__law_not_set f__law_step f_law C_Key f_Key___init__ f_Key_parts p_Key_parts f_Key___call__ f_Key___le__ f_Key_idents C_Known f_Known___init__ f_Known___getitem__ f_Known___setitem__ f_Known___iter__ f_Known_show C_Things f_Things___init__ f_Things___getitem__ f_Things___setitem__ f_Things___iter__ f_Things_show C_ScreenError C_NoName f_NoName___init__ C_BadRow f_BadRow___init__ C_NoItem f_NoItem___init__ : Addr} (X : K.In h) (G : h.Ns mainGlobals mg) (hfa : mg "law" = some (.ref fa))
    {od_is_whole an_is_whole : Option Addr} {sl_is_whole : Array (Option Value)} {oc_is_whole kV_is_whole dc_is_whole pm_is_whole cd_is_whole ct_is_whole : Value}
    (a_is_whole : PySem.W.nsIn K mainGlobals "is_whole" = some (some (.ref f_is_whole))) (l_is_whole : K.lookup f_is_whole = some ⟨oc_is_whole, od_is_whole, .func (PySem.W.fnOf "is_whole" "is_whole" (defArgs s_is_whole) (defBody s_is_whole) (defScope s_is_whole) .none kV_is_whole dc_is_whole pm_is_whole an_is_whole cd_is_whole ct_is_whole), sl_is_whole⟩) (c_is_whole : PySem.W.codeIn K cd_is_whole "is_whole" = true) (k_is_whole : PySem.W.keepIn K (.ref f_is_whole) = true)
    {od_is_value an_is_value : Option Addr} {sl_is_value : Array (Option Value)} {oc_is_value kV_is_value dc_is_value pm_is_value cd_is_value ct_is_value : Value}
    (a_is_value : PySem.W.nsIn K mainGlobals "is_value" = some (some (.ref f_is_value))) (l_is_value : K.lookup f_is_value = some ⟨oc_is_value, od_is_value, .func (PySem.W.fnOf "is_value" "is_value" (defArgs s_is_value) (defBody s_is_value) (defScope s_is_value) .none kV_is_value dc_is_value pm_is_value an_is_value cd_is_value ct_is_value), sl_is_value⟩) (c_is_value : PySem.W.codeIn K cd_is_value "is_value" = true) (k_is_value : PySem.W.keepIn K (.ref f_is_value) = true)
    {od_is_name an_is_name : Option Addr} {sl_is_name : Array (Option Value)} {oc_is_name kV_is_name dc_is_name pm_is_name cd_is_name ct_is_name : Value}
    (a_is_name : PySem.W.nsIn K mainGlobals "is_name" = some (some (.ref f_is_name))) (l_is_name : K.lookup f_is_name = some ⟨oc_is_name, od_is_name, .func (PySem.W.fnOf "is_name" "is_name" (defArgs s_is_name) (defBody s_is_name) (defScope s_is_name) .none kV_is_name dc_is_name pm_is_name an_is_name cd_is_name ct_is_name), sl_is_name⟩) (c_is_name : PySem.W.codeIn K cd_is_name "is_name" = true) (k_is_name : PySem.W.keepIn K (.ref f_is_name) = true)
    {od_inner_forms an_inner_forms : Option Addr} {sl_inner_forms : Array (Option Value)} {oc_inner_forms kV_inner_forms dc_inner_forms pm_inner_forms cd_inner_forms ct_inner_forms : Value}
    (a_inner_forms : PySem.W.nsIn K mainGlobals "inner_forms" = some (some (.ref f_inner_forms))) (l_inner_forms : K.lookup f_inner_forms = some ⟨oc_inner_forms, od_inner_forms, .func (PySem.W.fnOf "inner_forms" "inner_forms" (defArgs s_inner_forms) (defBody s_inner_forms) (defScope s_inner_forms) .none kV_inner_forms dc_inner_forms pm_inner_forms an_inner_forms cd_inner_forms ct_inner_forms), sl_inner_forms⟩) (c_inner_forms : PySem.W.codeIn K cd_inner_forms "inner_forms" = true) (k_inner_forms : PySem.W.keepIn K (.ref f_inner_forms) = true)
    {od__well_made an__well_made : Option Addr} {sl__well_made : Array (Option Value)} {oc__well_made kV__well_made dc__well_made pm__well_made cd__well_made ct__well_made : Value}
    (a__well_made : PySem.W.nsIn K mainGlobals "_well_made" = some (some (.ref f__well_made))) (l__well_made : K.lookup f__well_made = some ⟨oc__well_made, od__well_made, .func (PySem.W.fnOf "_well_made" "_well_made" (defArgs s__well_made) (defBody s__well_made) (defScope s__well_made) .none kV__well_made dc__well_made pm__well_made an__well_made cd__well_made ct__well_made), sl__well_made⟩) (c__well_made : PySem.W.codeIn K cd__well_made "_well_made" = true) (k__well_made : PySem.W.keepIn K (.ref f__well_made) = true)
    {od_check_form an_check_form : Option Addr} {sl_check_form : Array (Option Value)} {oc_check_form kV_check_form dc_check_form pm_check_form cd_check_form ct_check_form : Value}
    (a_check_form : PySem.W.nsIn K mainGlobals "check_form" = some (some (.ref f_check_form))) (l_check_form : K.lookup f_check_form = some ⟨oc_check_form, od_check_form, .func (PySem.W.fnOf "check_form" "check_form" (defArgs s_check_form) (defBody s_check_form) (defScope s_check_form) .none kV_check_form dc_check_form pm_check_form an_check_form cd_check_form ct_check_form), sl_check_form⟩) (c_check_form : PySem.W.codeIn K cd_check_form "check_form" = true) (k_check_form : PySem.W.keepIn K (.ref f_check_form) = true)
    {od_value_of an_value_of : Option Addr} {sl_value_of : Array (Option Value)} {oc_value_of kV_value_of dc_value_of pm_value_of cd_value_of ct_value_of : Value}
    (a_value_of : PySem.W.nsIn K mainGlobals "value_of" = some (some (.ref f_value_of))) (l_value_of : K.lookup f_value_of = some ⟨oc_value_of, od_value_of, .func (PySem.W.fnOf "value_of" "value_of" (defArgs s_value_of) (defBody s_value_of) (defScope s_value_of) .none kV_value_of dc_value_of pm_value_of an_value_of cd_value_of ct_value_of), sl_value_of⟩) (c_value_of : PySem.W.codeIn K cd_value_of "value_of" = true) (k_value_of : PySem.W.keepIn K (.ref f_value_of) = true)
    {od_names_in an_names_in : Option Addr} {sl_names_in : Array (Option Value)} {oc_names_in kV_names_in dc_names_in pm_names_in cd_names_in ct_names_in : Value}
    (a_names_in : PySem.W.nsIn K mainGlobals "names_in" = some (some (.ref f_names_in))) (l_names_in : K.lookup f_names_in = some ⟨oc_names_in, od_names_in, .func (PySem.W.fnOf "names_in" "names_in" (defArgs s_names_in) (defBody s_names_in) (defScope s_names_in) .none kV_names_in dc_names_in pm_names_in an_names_in cd_names_in ct_names_in), sl_names_in⟩) (c_names_in : PySem.W.codeIn K cd_names_in "names_in" = true) (k_names_in : PySem.W.keepIn K (.ref f_names_in) = true)
    {od_is_row an_is_row : Option Addr} {sl_is_row : Array (Option Value)} {oc_is_row kV_is_row dc_is_row pm_is_row cd_is_row ct_is_row : Value}
    (a_is_row : PySem.W.nsIn K mainGlobals "is_row" = some (some (.ref f_is_row))) (l_is_row : K.lookup f_is_row = some ⟨oc_is_row, od_is_row, .func (PySem.W.fnOf "is_row" "is_row" (defArgs s_is_row) (defBody s_is_row) (defScope s_is_row) .none kV_is_row dc_is_row pm_is_row an_is_row cd_is_row ct_is_row), sl_is_row⟩) (c_is_row : PySem.W.codeIn K cd_is_row "is_row" = true) (k_is_row : PySem.W.keepIn K (.ref f_is_row) = true)
    {od_check_rows an_check_rows : Option Addr} {sl_check_rows : Array (Option Value)} {oc_check_rows kV_check_rows dc_check_rows pm_check_rows cd_check_rows ct_check_rows : Value}
    (a_check_rows : PySem.W.nsIn K mainGlobals "check_rows" = some (some (.ref f_check_rows))) (l_check_rows : K.lookup f_check_rows = some ⟨oc_check_rows, od_check_rows, .func (PySem.W.fnOf "check_rows" "check_rows" (defArgs s_check_rows) (defBody s_check_rows) (defScope s_check_rows) .none kV_check_rows dc_check_rows pm_check_rows an_check_rows cd_check_rows ct_check_rows), sl_check_rows⟩) (c_check_rows : PySem.W.codeIn K cd_check_rows "check_rows" = true) (k_check_rows : PySem.W.keepIn K (.ref f_check_rows) = true)
    {od__key_value an__key_value : Option Addr} {sl__key_value : Array (Option Value)} {oc__key_value kV__key_value dc__key_value pm__key_value cd__key_value ct__key_value : Value}
    (a__key_value : PySem.W.nsIn K mainGlobals "_key_value" = some (some (.ref f__key_value))) (l__key_value : K.lookup f__key_value = some ⟨oc__key_value, od__key_value, .func (PySem.W.fnOf "_key_value" "_key_value" (defArgs s__key_value) (defBody s__key_value) (defScope s__key_value) .none kV__key_value dc__key_value pm__key_value an__key_value cd__key_value ct__key_value), sl__key_value⟩) (c__key_value : PySem.W.codeIn K cd__key_value "_key_value" = true) (k__key_value : PySem.W.keepIn K (.ref f__key_value) = true)
    {od__idents an__idents : Option Addr} {sl__idents : Array (Option Value)} {oc__idents kV__idents dc__idents pm__idents cd__idents ct__idents : Value}
    (a__idents : PySem.W.nsIn K mainGlobals "_idents" = some (some (.ref f__idents))) (l__idents : K.lookup f__idents = some ⟨oc__idents, od__idents, .func (PySem.W.fnOf "_idents" "_idents" (defArgs s__idents) (defBody s__idents) (defScope s__idents) .none kV__idents dc__idents pm__idents an__idents cd__idents ct__idents), sl__idents⟩) (c__idents : PySem.W.codeIn K cd__idents "_idents" = true) (k__idents : PySem.W.keepIn K (.ref f__idents) = true)
    {od__law_mixed an__law_mixed : Option Addr} {sl__law_mixed : Array (Option Value)} {oc__law_mixed kV__law_mixed dc__law_mixed pm__law_mixed cd__law_mixed ct__law_mixed : Value}
    (a__law_mixed : PySem.W.nsIn K mainGlobals "_law_mixed" = some (some (.ref f__law_mixed))) (l__law_mixed : K.lookup f__law_mixed = some ⟨oc__law_mixed, od__law_mixed, .func (PySem.W.fnOf "_law_mixed" "_law_mixed" (defArgs s__law_mixed) (defBody s__law_mixed) (defScope s__law_mixed) .none kV__law_mixed dc__law_mixed pm__law_mixed an__law_mixed cd__law_mixed ct__law_mixed), sl__law_mixed⟩) (c__law_mixed : PySem.W.codeIn K cd__law_mixed "_law_mixed" = true) (k__law_mixed : PySem.W.keepIn K (.ref f__law_mixed) = true)
    {od__law_bag an__law_bag : Option Addr} {sl__law_bag : Array (Option Value)} {oc__law_bag kV__law_bag dc__law_bag pm__law_bag cd__law_bag ct__law_bag : Value}
    (a__law_bag : PySem.W.nsIn K mainGlobals "_law_bag" = some (some (.ref f__law_bag))) (l__law_bag : K.lookup f__law_bag = some ⟨oc__law_bag, od__law_bag, .func (PySem.W.fnOf "_law_bag" "_law_bag" (defArgs s__law_bag) (defBody s__law_bag) (defScope s__law_bag) .none kV__law_bag dc__law_bag pm__law_bag an__law_bag cd__law_bag ct__law_bag), sl__law_bag⟩) (c__law_bag : PySem.W.codeIn K cd__law_bag "_law_bag" = true) (k__law_bag : PySem.W.keepIn K (.ref f__law_bag) = true)
    {od__law_pick an__law_pick : Option Addr} {sl__law_pick : Array (Option Value)} {oc__law_pick kV__law_pick dc__law_pick pm__law_pick cd__law_pick ct__law_pick : Value}
    (a__law_pick : PySem.W.nsIn K mainGlobals "_law_pick" = some (some (.ref f__law_pick))) (l__law_pick : K.lookup f__law_pick = some ⟨oc__law_pick, od__law_pick, .func (PySem.W.fnOf "_law_pick" "_law_pick" (defArgs s__law_pick) (defBody s__law_pick) (defScope s__law_pick) .none kV__law_pick dc__law_pick pm__law_pick an__law_pick cd__law_pick ct__law_pick), sl__law_pick⟩) (c__law_pick : PySem.W.codeIn K cd__law_pick "_law_pick" = true) (k__law_pick : PySem.W.keepIn K (.ref f__law_pick) = true)
    {od__law_choice an__law_choice : Option Addr} {sl__law_choice : Array (Option Value)} {oc__law_choice kV__law_choice dc__law_choice pm__law_choice cd__law_choice ct__law_choice : Value}
    (a__law_choice : PySem.W.nsIn K mainGlobals "_law_choice" = some (some (.ref f__law_choice))) (l__law_choice : K.lookup f__law_choice = some ⟨oc__law_choice, od__law_choice, .func (PySem.W.fnOf "_law_choice" "_law_choice" (defArgs s__law_choice) (defBody s__law_choice) (defScope s__law_choice) .none kV__law_choice dc__law_choice pm__law_choice an__law_choice cd__law_choice ct__law_choice), sl__law_choice⟩) (c__law_choice : PySem.W.codeIn K cd__law_choice "_law_choice" = true) (k__law_choice : PySem.W.keepIn K (.ref f__law_choice) = true)
    {od__law_mingled an__law_mingled : Option Addr} {sl__law_mingled : Array (Option Value)} {oc__law_mingled kV__law_mingled dc__law_mingled pm__law_mingled cd__law_mingled ct__law_mingled : Value}
    (a__law_mingled : PySem.W.nsIn K mainGlobals "_law_mingled" = some (some (.ref f__law_mingled))) (l__law_mingled : K.lookup f__law_mingled = some ⟨oc__law_mingled, od__law_mingled, .func (PySem.W.fnOf "_law_mingled" "_law_mingled" (defArgs s__law_mingled) (defBody s__law_mingled) (defScope s__law_mingled) .none kV__law_mingled dc__law_mingled pm__law_mingled an__law_mingled cd__law_mingled ct__law_mingled), sl__law_mingled⟩) (c__law_mingled : PySem.W.codeIn K cd__law_mingled "_law_mingled" = true) (k__law_mingled : PySem.W.keepIn K (.ref f__law_mingled) = true)
    {od__law_number an__law_number : Option Addr} {sl__law_number : Array (Option Value)} {oc__law_number kV__law_number dc__law_number pm__law_number cd__law_number ct__law_number : Value}
    (a__law_number : PySem.W.nsIn K mainGlobals "_law_number" = some (some (.ref f__law_number))) (l__law_number : K.lookup f__law_number = some ⟨oc__law_number, od__law_number, .func (PySem.W.fnOf "_law_number" "_law_number" (defArgs s__law_number) (defBody s__law_number) (defScope s__law_number) .none kV__law_number dc__law_number pm__law_number an__law_number cd__law_number ct__law_number), sl__law_number⟩) (c__law_number : PySem.W.codeIn K cd__law_number "_law_number" = true) (k__law_number : PySem.W.keepIn K (.ref f__law_number) = true)
    {od__law_form an__law_form : Option Addr} {sl__law_form : Array (Option Value)} {oc__law_form kV__law_form dc__law_form pm__law_form cd__law_form ct__law_form : Value}
    (a__law_form : PySem.W.nsIn K mainGlobals "_law_form" = some (some (.ref f__law_form))) (l__law_form : K.lookup f__law_form = some ⟨oc__law_form, od__law_form, .func (PySem.W.fnOf "_law_form" "_law_form" (defArgs s__law_form) (defBody s__law_form) (defScope s__law_form) .none kV__law_form dc__law_form pm__law_form an__law_form cd__law_form ct__law_form), sl__law_form⟩) (c__law_form : PySem.W.codeIn K cd__law_form "_law_form" = true) (k__law_form : PySem.W.keepIn K (.ref f__law_form) = true)
    {od__law_value an__law_value : Option Addr} {sl__law_value : Array (Option Value)} {oc__law_value kV__law_value dc__law_value pm__law_value cd__law_value ct__law_value : Value}
    (a__law_value : PySem.W.nsIn K mainGlobals "_law_value" = some (some (.ref f__law_value))) (l__law_value : K.lookup f__law_value = some ⟨oc__law_value, od__law_value, .func (PySem.W.fnOf "_law_value" "_law_value" (defArgs s__law_value) (defBody s__law_value) (defScope s__law_value) .none kV__law_value dc__law_value pm__law_value an__law_value cd__law_value ct__law_value), sl__law_value⟩) (c__law_value : PySem.W.codeIn K cd__law_value "_law_value" = true) (k__law_value : PySem.W.keepIn K (.ref f__law_value) = true)
    {od__law_idents an__law_idents : Option Addr} {sl__law_idents : Array (Option Value)} {oc__law_idents kV__law_idents dc__law_idents pm__law_idents cd__law_idents ct__law_idents : Value}
    (a__law_idents : PySem.W.nsIn K mainGlobals "_law_idents" = some (some (.ref f__law_idents))) (l__law_idents : K.lookup f__law_idents = some ⟨oc__law_idents, od__law_idents, .func (PySem.W.fnOf "_law_idents" "_law_idents" (defArgs s__law_idents) (defBody s__law_idents) (defScope s__law_idents) .none kV__law_idents dc__law_idents pm__law_idents an__law_idents cd__law_idents ct__law_idents), sl__law_idents⟩) (c__law_idents : PySem.W.codeIn K cd__law_idents "_law_idents" = true) (k__law_idents : PySem.W.keepIn K (.ref f__law_idents) = true)
    {od__law_row an__law_row : Option Addr} {sl__law_row : Array (Option Value)} {oc__law_row kV__law_row dc__law_row pm__law_row cd__law_row ct__law_row : Value}
    (a__law_row : PySem.W.nsIn K mainGlobals "_law_row" = some (some (.ref f__law_row))) (l__law_row : K.lookup f__law_row = some ⟨oc__law_row, od__law_row, .func (PySem.W.fnOf "_law_row" "_law_row" (defArgs s__law_row) (defBody s__law_row) (defScope s__law_row) .none kV__law_row dc__law_row pm__law_row an__law_row cd__law_row ct__law_row), sl__law_row⟩) (c__law_row : PySem.W.codeIn K cd__law_row "_law_row" = true) (k__law_row : PySem.W.keepIn K (.ref f__law_row) = true)
    {od__law_any_key an__law_any_key : Option Addr} {sl__law_any_key : Array (Option Value)} {oc__law_any_key kV__law_any_key dc__law_any_key pm__law_any_key cd__law_any_key ct__law_any_key : Value}
    (a__law_any_key : PySem.W.nsIn K mainGlobals "_law_any_key" = some (some (.ref f__law_any_key))) (l__law_any_key : K.lookup f__law_any_key = some ⟨oc__law_any_key, od__law_any_key, .func (PySem.W.fnOf "_law_any_key" "_law_any_key" (defArgs s__law_any_key) (defBody s__law_any_key) (defScope s__law_any_key) .none kV__law_any_key dc__law_any_key pm__law_any_key an__law_any_key cd__law_any_key ct__law_any_key), sl__law_any_key⟩) (c__law_any_key : PySem.W.codeIn K cd__law_any_key "_law_any_key" = true) (k__law_any_key : PySem.W.keepIn K (.ref f__law_any_key) = true)
    {od__law_changed an__law_changed : Option Addr} {sl__law_changed : Array (Option Value)} {oc__law_changed kV__law_changed dc__law_changed pm__law_changed cd__law_changed ct__law_changed : Value}
    (a__law_changed : PySem.W.nsIn K mainGlobals "_law_changed" = some (some (.ref f__law_changed))) (l__law_changed : K.lookup f__law_changed = some ⟨oc__law_changed, od__law_changed, .func (PySem.W.fnOf "_law_changed" "_law_changed" (defArgs s__law_changed) (defBody s__law_changed) (defScope s__law_changed) .none kV__law_changed dc__law_changed pm__law_changed an__law_changed cd__law_changed ct__law_changed), sl__law_changed⟩) (c__law_changed : PySem.W.codeIn K cd__law_changed "_law_changed" = true) (k__law_changed : PySem.W.keepIn K (.ref f__law_changed) = true)
    {od__law_rows_shown an__law_rows_shown : Option Addr} {sl__law_rows_shown : Array (Option Value)} {oc__law_rows_shown kV__law_rows_shown dc__law_rows_shown pm__law_rows_shown cd__law_rows_shown ct__law_rows_shown : Value}
    (a__law_rows_shown : PySem.W.nsIn K mainGlobals "_law_rows_shown" = some (some (.ref f__law_rows_shown))) (l__law_rows_shown : K.lookup f__law_rows_shown = some ⟨oc__law_rows_shown, od__law_rows_shown, .func (PySem.W.fnOf "_law_rows_shown" "_law_rows_shown" (defArgs s__law_rows_shown) (defBody s__law_rows_shown) (defScope s__law_rows_shown) .none kV__law_rows_shown dc__law_rows_shown pm__law_rows_shown an__law_rows_shown cd__law_rows_shown ct__law_rows_shown), sl__law_rows_shown⟩) (c__law_rows_shown : PySem.W.codeIn K cd__law_rows_shown "_law_rows_shown" = true) (k__law_rows_shown : PySem.W.keepIn K (.ref f__law_rows_shown) = true)
    {od__law_known_by an__law_known_by : Option Addr} {sl__law_known_by : Array (Option Value)} {oc__law_known_by kV__law_known_by dc__law_known_by pm__law_known_by cd__law_known_by ct__law_known_by : Value}
    (a__law_known_by : PySem.W.nsIn K mainGlobals "_law_known_by" = some (some (.ref f__law_known_by))) (l__law_known_by : K.lookup f__law_known_by = some ⟨oc__law_known_by, od__law_known_by, .func (PySem.W.fnOf "_law_known_by" "_law_known_by" (defArgs s__law_known_by) (defBody s__law_known_by) (defScope s__law_known_by) .none kV__law_known_by dc__law_known_by pm__law_known_by an__law_known_by cd__law_known_by ct__law_known_by), sl__law_known_by⟩) (c__law_known_by : PySem.W.codeIn K cd__law_known_by "_law_known_by" = true) (k__law_known_by : PySem.W.keepIn K (.ref f__law_known_by) = true)
    {od__law_shows an__law_shows : Option Addr} {sl__law_shows : Array (Option Value)} {oc__law_shows kV__law_shows dc__law_shows pm__law_shows cd__law_shows ct__law_shows : Value}
    (a__law_shows : PySem.W.nsIn K mainGlobals "_law_shows" = some (some (.ref f__law_shows))) (l__law_shows : K.lookup f__law_shows = some ⟨oc__law_shows, od__law_shows, .func (PySem.W.fnOf "_law_shows" "_law_shows" (defArgs s__law_shows) (defBody s__law_shows) (defScope s__law_shows) .none kV__law_shows dc__law_shows pm__law_shows an__law_shows cd__law_shows ct__law_shows), sl__law_shows⟩) (c__law_shows : PySem.W.codeIn K cd__law_shows "_law_shows" = true) (k__law_shows : PySem.W.keepIn K (.ref f__law_shows) = true)
    {od__law_agrees an__law_agrees : Option Addr} {sl__law_agrees : Array (Option Value)} {oc__law_agrees kV__law_agrees dc__law_agrees pm__law_agrees cd__law_agrees ct__law_agrees : Value}
    (a__law_agrees : PySem.W.nsIn K mainGlobals "_law_agrees" = some (some (.ref f__law_agrees))) (l__law_agrees : K.lookup f__law_agrees = some ⟨oc__law_agrees, od__law_agrees, .func (PySem.W.fnOf "_law_agrees" "_law_agrees" (defArgs s__law_agrees) (defBody s__law_agrees) (defScope s__law_agrees) .none kV__law_agrees dc__law_agrees pm__law_agrees an__law_agrees cd__law_agrees ct__law_agrees), sl__law_agrees⟩) (c__law_agrees : PySem.W.codeIn K cd__law_agrees "_law_agrees" = true) (k__law_agrees : PySem.W.keepIn K (.ref f__law_agrees) = true)
    {od__law_not_read an__law_not_read : Option Addr} {sl__law_not_read : Array (Option Value)} {oc__law_not_read kV__law_not_read dc__law_not_read pm__law_not_read cd__law_not_read ct__law_not_read : Value}
    (a__law_not_read : PySem.W.nsIn K mainGlobals "_law_not_read" = some (some (.ref f__law_not_read))) (l__law_not_read : K.lookup f__law_not_read = some ⟨oc__law_not_read, od__law_not_read, .func (PySem.W.fnOf "_law_not_read" "_law_not_read" (defArgs s__law_not_read) (defBody s__law_not_read) (defScope s__law_not_read) .none kV__law_not_read dc__law_not_read pm__law_not_read an__law_not_read cd__law_not_read ct__law_not_read), sl__law_not_read⟩) (c__law_not_read : PySem.W.codeIn K cd__law_not_read "_law_not_read" = true) (k__law_not_read : PySem.W.keepIn K (.ref f__law_not_read) = true)
    {od__law_not_set an__law_not_set : Option Addr} {sl__law_not_set : Array (Option Value)} {oc__law_not_set kV__law_not_set dc__law_not_set pm__law_not_set cd__law_not_set ct__law_not_set : Value}
    (a__law_not_set : PySem.W.nsIn K mainGlobals "_law_not_set" = some (some (.ref f__law_not_set))) (l__law_not_set : K.lookup f__law_not_set = some ⟨oc__law_not_set, od__law_not_set, .func (PySem.W.fnOf "_law_not_set" "_law_not_set" (defArgs s__law_not_set) (defBody s__law_not_set) (defScope s__law_not_set) .none kV__law_not_set dc__law_not_set pm__law_not_set an__law_not_set cd__law_not_set ct__law_not_set), sl__law_not_set⟩) (c__law_not_set : PySem.W.codeIn K cd__law_not_set "_law_not_set" = true) (k__law_not_set : PySem.W.keepIn K (.ref f__law_not_set) = true)
    {od__law_step an__law_step : Option Addr} {sl__law_step : Array (Option Value)} {oc__law_step kV__law_step dc__law_step pm__law_step cd__law_step ct__law_step : Value}
    (a__law_step : PySem.W.nsIn K mainGlobals "_law_step" = some (some (.ref f__law_step))) (l__law_step : K.lookup f__law_step = some ⟨oc__law_step, od__law_step, .func (PySem.W.fnOf "_law_step" "_law_step" (defArgs s__law_step) (defBody s__law_step) (defScope s__law_step) .none kV__law_step dc__law_step pm__law_step an__law_step cd__law_step ct__law_step), sl__law_step⟩) (c__law_step : PySem.W.codeIn K cd__law_step "_law_step" = true) (k__law_step : PySem.W.keepIn K (.ref f__law_step) = true)
    {od_law an_law : Option Addr} {sl_law : Array (Option Value)} {oc_law kV_law dc_law pm_law cd_law ct_law : Value}
    (a_law : PySem.W.nsIn K mainGlobals "law" = some (some (.ref f_law))) (l_law : K.lookup f_law = some ⟨oc_law, od_law, .func (PySem.W.fnOf "law" "law" (defArgs s_law) (defBody s_law) (defScope s_law) .none kV_law dc_law pm_law an_law cd_law ct_law), sl_law⟩) (c_law : PySem.W.codeIn K cd_law "law" = true) (k_law : PySem.W.keepIn K (.ref f_law) = true)
    (aC_Key : PySem.W.nsIn K mainGlobals "Key" = some (some (.ref C_Key))) (pg_Key : PySem.W.plainGet K C_Key Str.empty = true) (hd_Key : PySem.W.hasDictIn K C_Key = true) (po_Key : PySem.W.plainOver K C_Key = true) (sa_Key : PySem.W.findIn K (.ref C_Key) "__setattr__" = some (some (.builtin "object.__setattr__"))) (mk_Key : PySem.W.makesIn K C_Key = true) (kc_Key : PySem.W.keepIn K (.ref C_Key) = true) (nf_Key : PySem.W.notFirst K C_Key (.ref C_Key) = true) (ih_Key : PySem.W.findIn K (.ref C_Key) "__class__" = some (some (.builtin "object.__class__"))) (ig_Key : PySem.W.specialIn K (.builtin "object.__class__") "__get__" = some (some (.builtin "getset_descriptor.__get__"))) (it_Key : PySem.W.takesIn K (.builtin "object.__class__") = some true) (io_Key : PySem.W.mroIn K C_Key (.type "object") = some true) (ik_Key : PySem.W.kitOne K (.ref C_Key) (.ref C_Key) = some true)
    (nA_Key__parts : PySem.W.findIn K (.ref C_Key) "_parts" = some none)
    {od_Key___init__ an_Key___init__ : Option Addr} {sl_Key___init__ : Array (Option Value)} {oc_Key___init__ kV_Key___init__ dc_Key___init__ pm_Key___init__ cd_Key___init__ ct_Key___init__ : Value}
    (a_Key___init__ : PySem.W.findIn K (.ref C_Key) "__init__" = some (some (.ref f_Key___init__))) (i_Key___init__ : PySem.W.isFn K (.ref f_Key___init__) = true) (n_Key___init__ : PySem.W.fnIn K f_Key___init__ = true)
    (l_Key___init__ : K.lookup f_Key___init__ = some ⟨oc_Key___init__, od_Key___init__, .func (PySem.W.fnOf "__init__" "Key.__init__" (defArgs s_Key___init__) (defBody s_Key___init__) (defScope s_Key___init__) .none kV_Key___init__ dc_Key___init__ pm_Key___init__ an_Key___init__ cd_Key___init__ ct_Key___init__), sl_Key___init__⟩) (c_Key___init__ : PySem.W.codeIn K cd_Key___init__ "Key.__init__" = true) (k_Key___init__ : PySem.W.keepIn K (.ref f_Key___init__) = true)
    {od_Key_parts an_Key_parts : Option Addr} {sl_Key_parts : Array (Option Value)} {oc_Key_parts kV_Key_parts dc_Key_parts pm_Key_parts cd_Key_parts ct_Key_parts : Value}
    {re_Key_parts : List Value} (a_Key_parts : PySem.W.findIn K (.ref C_Key) "parts" = some (some (.ref p_Key_parts))) (ge_Key_parts : PySem.W.specialIn K (.ref p_Key_parts) "__get__" = some (some (.builtin "property.__get__"))) (ta_Key_parts : PySem.W.takesIn K (.ref p_Key_parts) = some true) (re1_Key_parts : PySem.W.recIn K p_Key_parts "property" = some (.ref f_Key_parts :: re_Key_parts))
    (l_Key_parts : K.lookup f_Key_parts = some ⟨oc_Key_parts, od_Key_parts, .func (PySem.W.fnOf "parts" "Key.parts" (defArgs s_Key_parts) (defBody s_Key_parts) (defScope s_Key_parts) .none kV_Key_parts dc_Key_parts pm_Key_parts an_Key_parts cd_Key_parts ct_Key_parts), sl_Key_parts⟩) (c_Key_parts : PySem.W.codeIn K cd_Key_parts "Key.parts" = true) (k_Key_parts : PySem.W.keepIn K (.ref f_Key_parts) = true)
    {od_Key___call__ an_Key___call__ : Option Addr} {sl_Key___call__ : Array (Option Value)} {oc_Key___call__ kV_Key___call__ dc_Key___call__ pm_Key___call__ cd_Key___call__ ct_Key___call__ : Value}
    (a_Key___call__ : PySem.W.findIn K (.ref C_Key) "__call__" = some (some (.ref f_Key___call__))) (i_Key___call__ : PySem.W.isFn K (.ref f_Key___call__) = true) (n_Key___call__ : PySem.W.fnIn K f_Key___call__ = true)
    (l_Key___call__ : K.lookup f_Key___call__ = some ⟨oc_Key___call__, od_Key___call__, .func (PySem.W.fnOf "__call__" "Key.__call__" (defArgs s_Key___call__) (defBody s_Key___call__) (defScope s_Key___call__) .none kV_Key___call__ dc_Key___call__ pm_Key___call__ an_Key___call__ cd_Key___call__ ct_Key___call__), sl_Key___call__⟩) (c_Key___call__ : PySem.W.codeIn K cd_Key___call__ "Key.__call__" = true) (k_Key___call__ : PySem.W.keepIn K (.ref f_Key___call__) = true)
    {od_Key___le__ an_Key___le__ : Option Addr} {sl_Key___le__ : Array (Option Value)} {oc_Key___le__ kV_Key___le__ dc_Key___le__ pm_Key___le__ cd_Key___le__ ct_Key___le__ : Value}
    (a_Key___le__ : PySem.W.findIn K (.ref C_Key) "__le__" = some (some (.ref f_Key___le__))) (i_Key___le__ : PySem.W.isFn K (.ref f_Key___le__) = true) (n_Key___le__ : PySem.W.fnIn K f_Key___le__ = true)
    (l_Key___le__ : K.lookup f_Key___le__ = some ⟨oc_Key___le__, od_Key___le__, .func (PySem.W.fnOf "__le__" "Key.__le__" (defArgs s_Key___le__) (defBody s_Key___le__) (defScope s_Key___le__) .none kV_Key___le__ dc_Key___le__ pm_Key___le__ an_Key___le__ cd_Key___le__ ct_Key___le__), sl_Key___le__⟩) (c_Key___le__ : PySem.W.codeIn K cd_Key___le__ "Key.__le__" = true) (k_Key___le__ : PySem.W.keepIn K (.ref f_Key___le__) = true)
    {od_Key_idents an_Key_idents : Option Addr} {sl_Key_idents : Array (Option Value)} {oc_Key_idents kV_Key_idents dc_Key_idents pm_Key_idents cd_Key_idents ct_Key_idents : Value}
    (a_Key_idents : PySem.W.findIn K (.ref C_Key) "idents" = some (some (.ref f_Key_idents))) (i_Key_idents : PySem.W.isFn K (.ref f_Key_idents) = true) (n_Key_idents : PySem.W.fnIn K f_Key_idents = true)
    (l_Key_idents : K.lookup f_Key_idents = some ⟨oc_Key_idents, od_Key_idents, .func (PySem.W.fnOf "idents" "Key.idents" (defArgs s_Key_idents) (defBody s_Key_idents) (defScope s_Key_idents) .none kV_Key_idents dc_Key_idents pm_Key_idents an_Key_idents cd_Key_idents ct_Key_idents), sl_Key_idents⟩) (c_Key_idents : PySem.W.codeIn K cd_Key_idents "Key.idents" = true) (k_Key_idents : PySem.W.keepIn K (.ref f_Key_idents) = true)
    (aC_Known : PySem.W.nsIn K mainGlobals "Known" = some (some (.ref C_Known))) (pg_Known : PySem.W.plainGet K C_Known Str.empty = true) (hd_Known : PySem.W.hasDictIn K C_Known = true) (po_Known : PySem.W.plainOver K C_Known = true) (sa_Known : PySem.W.findIn K (.ref C_Known) "__setattr__" = some (some (.builtin "object.__setattr__"))) (mk_Known : PySem.W.makesIn K C_Known = true) (kc_Known : PySem.W.keepIn K (.ref C_Known) = true) (nf_Known : PySem.W.notFirst K C_Known (.ref C_Known) = true) (ih_Known : PySem.W.findIn K (.ref C_Known) "__class__" = some (some (.builtin "object.__class__"))) (ig_Known : PySem.W.specialIn K (.builtin "object.__class__") "__get__" = some (some (.builtin "getset_descriptor.__get__"))) (it_Known : PySem.W.takesIn K (.builtin "object.__class__") = some true) (io_Known : PySem.W.mroIn K C_Known (.type "object") = some true) (ik_Known : PySem.W.kitOne K (.ref C_Known) (.ref C_Known) = some true)
    (ns_Known : PySem.W.noSeq K C_Known = true)
    (nl_Known : PySem.W.findIn K (.ref C_Known) "__len__" = some none) (nh_Known : PySem.W.findIn K (.ref C_Known) "__length_hint__" = some none)
    (nA_Known__idents : PySem.W.findIn K (.ref C_Known) "_idents" = some none)
    (nA_Known__key : PySem.W.findIn K (.ref C_Known) "_key" = some none)
    (nA_Known__numbers : PySem.W.findIn K (.ref C_Known) "_numbers" = some none)
    (nA_Known_row : PySem.W.findIn K (.ref C_Known) "row" = some none)
    {od_Known___init__ an_Known___init__ : Option Addr} {sl_Known___init__ : Array (Option Value)} {oc_Known___init__ kV_Known___init__ dc_Known___init__ pm_Known___init__ cd_Known___init__ ct_Known___init__ : Value}
    (a_Known___init__ : PySem.W.findIn K (.ref C_Known) "__init__" = some (some (.ref f_Known___init__))) (i_Known___init__ : PySem.W.isFn K (.ref f_Known___init__) = true) (n_Known___init__ : PySem.W.fnIn K f_Known___init__ = true)
    (l_Known___init__ : K.lookup f_Known___init__ = some ⟨oc_Known___init__, od_Known___init__, .func (PySem.W.fnOf "__init__" "Known.__init__" (defArgs s_Known___init__) (defBody s_Known___init__) (defScope s_Known___init__) .none kV_Known___init__ dc_Known___init__ pm_Known___init__ an_Known___init__ cd_Known___init__ ct_Known___init__), sl_Known___init__⟩) (c_Known___init__ : PySem.W.codeIn K cd_Known___init__ "Known.__init__" = true) (k_Known___init__ : PySem.W.keepIn K (.ref f_Known___init__) = true)
    {od_Known___getitem__ an_Known___getitem__ : Option Addr} {sl_Known___getitem__ : Array (Option Value)} {oc_Known___getitem__ kV_Known___getitem__ dc_Known___getitem__ pm_Known___getitem__ cd_Known___getitem__ ct_Known___getitem__ : Value}
    (a_Known___getitem__ : PySem.W.findIn K (.ref C_Known) "__getitem__" = some (some (.ref f_Known___getitem__))) (i_Known___getitem__ : PySem.W.isFn K (.ref f_Known___getitem__) = true) (n_Known___getitem__ : PySem.W.fnIn K f_Known___getitem__ = true)
    (l_Known___getitem__ : K.lookup f_Known___getitem__ = some ⟨oc_Known___getitem__, od_Known___getitem__, .func (PySem.W.fnOf "__getitem__" "Known.__getitem__" (defArgs s_Known___getitem__) (defBody s_Known___getitem__) (defScope s_Known___getitem__) .none kV_Known___getitem__ dc_Known___getitem__ pm_Known___getitem__ an_Known___getitem__ cd_Known___getitem__ ct_Known___getitem__), sl_Known___getitem__⟩) (c_Known___getitem__ : PySem.W.codeIn K cd_Known___getitem__ "Known.__getitem__" = true) (k_Known___getitem__ : PySem.W.keepIn K (.ref f_Known___getitem__) = true)
    {od_Known___setitem__ an_Known___setitem__ : Option Addr} {sl_Known___setitem__ : Array (Option Value)} {oc_Known___setitem__ kV_Known___setitem__ dc_Known___setitem__ pm_Known___setitem__ cd_Known___setitem__ ct_Known___setitem__ : Value}
    (a_Known___setitem__ : PySem.W.findIn K (.ref C_Known) "__setitem__" = some (some (.ref f_Known___setitem__))) (i_Known___setitem__ : PySem.W.isFn K (.ref f_Known___setitem__) = true) (n_Known___setitem__ : PySem.W.fnIn K f_Known___setitem__ = true)
    (l_Known___setitem__ : K.lookup f_Known___setitem__ = some ⟨oc_Known___setitem__, od_Known___setitem__, .func (PySem.W.fnOf "__setitem__" "Known.__setitem__" (defArgs s_Known___setitem__) (defBody s_Known___setitem__) (defScope s_Known___setitem__) .none kV_Known___setitem__ dc_Known___setitem__ pm_Known___setitem__ an_Known___setitem__ cd_Known___setitem__ ct_Known___setitem__), sl_Known___setitem__⟩) (c_Known___setitem__ : PySem.W.codeIn K cd_Known___setitem__ "Known.__setitem__" = true) (k_Known___setitem__ : PySem.W.keepIn K (.ref f_Known___setitem__) = true)
    {od_Known___iter__ an_Known___iter__ : Option Addr} {sl_Known___iter__ : Array (Option Value)} {oc_Known___iter__ kV_Known___iter__ dc_Known___iter__ pm_Known___iter__ cd_Known___iter__ ct_Known___iter__ : Value}
    (a_Known___iter__ : PySem.W.findIn K (.ref C_Known) "__iter__" = some (some (.ref f_Known___iter__))) (i_Known___iter__ : PySem.W.isFn K (.ref f_Known___iter__) = true) (n_Known___iter__ : PySem.W.fnIn K f_Known___iter__ = true)
    (l_Known___iter__ : K.lookup f_Known___iter__ = some ⟨oc_Known___iter__, od_Known___iter__, .func (PySem.W.fnOf "__iter__" "Known.__iter__" (defArgs s_Known___iter__) (defBody s_Known___iter__) (defScope s_Known___iter__) .none kV_Known___iter__ dc_Known___iter__ pm_Known___iter__ an_Known___iter__ cd_Known___iter__ ct_Known___iter__), sl_Known___iter__⟩) (c_Known___iter__ : PySem.W.codeIn K cd_Known___iter__ "Known.__iter__" = true) (k_Known___iter__ : PySem.W.keepIn K (.ref f_Known___iter__) = true)
    {od_Known_show an_Known_show : Option Addr} {sl_Known_show : Array (Option Value)} {oc_Known_show kV_Known_show dc_Known_show pm_Known_show cd_Known_show ct_Known_show : Value}
    (a_Known_show : PySem.W.findIn K (.ref C_Known) "show" = some (some (.ref f_Known_show))) (i_Known_show : PySem.W.isFn K (.ref f_Known_show) = true) (n_Known_show : PySem.W.fnIn K f_Known_show = true)
    (l_Known_show : K.lookup f_Known_show = some ⟨oc_Known_show, od_Known_show, .func (PySem.W.fnOf "show" "Known.show" (defArgs s_Known_show) (defBody s_Known_show) (defScope s_Known_show) .none kV_Known_show dc_Known_show pm_Known_show an_Known_show cd_Known_show ct_Known_show), sl_Known_show⟩) (c_Known_show : PySem.W.codeIn K cd_Known_show "Known.show" = true) (k_Known_show : PySem.W.keepIn K (.ref f_Known_show) = true)
    (aC_Things : PySem.W.nsIn K mainGlobals "Things" = some (some (.ref C_Things))) (pg_Things : PySem.W.plainGet K C_Things Str.empty = true) (hd_Things : PySem.W.hasDictIn K C_Things = true) (po_Things : PySem.W.plainOver K C_Things = true) (sa_Things : PySem.W.findIn K (.ref C_Things) "__setattr__" = some (some (.builtin "object.__setattr__"))) (mk_Things : PySem.W.makesIn K C_Things = true) (kc_Things : PySem.W.keepIn K (.ref C_Things) = true) (nf_Things : PySem.W.notFirst K C_Things (.ref C_Things) = true) (ih_Things : PySem.W.findIn K (.ref C_Things) "__class__" = some (some (.builtin "object.__class__"))) (ig_Things : PySem.W.specialIn K (.builtin "object.__class__") "__get__" = some (some (.builtin "getset_descriptor.__get__"))) (it_Things : PySem.W.takesIn K (.builtin "object.__class__") = some true) (io_Things : PySem.W.mroIn K C_Things (.type "object") = some true) (ik_Things : PySem.W.kitOne K (.ref C_Things) (.ref C_Things) = some true)
    (ns_Things : PySem.W.noSeq K C_Things = true)
    (nl_Things : PySem.W.findIn K (.ref C_Things) "__len__" = some none) (nh_Things : PySem.W.findIn K (.ref C_Things) "__length_hint__" = some none)
    (nA_Things__numbers : PySem.W.findIn K (.ref C_Things) "_numbers" = some none)
    (nA_Things_row : PySem.W.findIn K (.ref C_Things) "row" = some none)
    {od_Things___init__ an_Things___init__ : Option Addr} {sl_Things___init__ : Array (Option Value)} {oc_Things___init__ kV_Things___init__ dc_Things___init__ pm_Things___init__ cd_Things___init__ ct_Things___init__ : Value}
    (a_Things___init__ : PySem.W.findIn K (.ref C_Things) "__init__" = some (some (.ref f_Things___init__))) (i_Things___init__ : PySem.W.isFn K (.ref f_Things___init__) = true) (n_Things___init__ : PySem.W.fnIn K f_Things___init__ = true)
    (l_Things___init__ : K.lookup f_Things___init__ = some ⟨oc_Things___init__, od_Things___init__, .func (PySem.W.fnOf "__init__" "Things.__init__" (defArgs s_Things___init__) (defBody s_Things___init__) (defScope s_Things___init__) .none kV_Things___init__ dc_Things___init__ pm_Things___init__ an_Things___init__ cd_Things___init__ ct_Things___init__), sl_Things___init__⟩) (c_Things___init__ : PySem.W.codeIn K cd_Things___init__ "Things.__init__" = true) (k_Things___init__ : PySem.W.keepIn K (.ref f_Things___init__) = true)
    {od_Things___getitem__ an_Things___getitem__ : Option Addr} {sl_Things___getitem__ : Array (Option Value)} {oc_Things___getitem__ kV_Things___getitem__ dc_Things___getitem__ pm_Things___getitem__ cd_Things___getitem__ ct_Things___getitem__ : Value}
    (a_Things___getitem__ : PySem.W.findIn K (.ref C_Things) "__getitem__" = some (some (.ref f_Things___getitem__))) (i_Things___getitem__ : PySem.W.isFn K (.ref f_Things___getitem__) = true) (n_Things___getitem__ : PySem.W.fnIn K f_Things___getitem__ = true)
    (l_Things___getitem__ : K.lookup f_Things___getitem__ = some ⟨oc_Things___getitem__, od_Things___getitem__, .func (PySem.W.fnOf "__getitem__" "Things.__getitem__" (defArgs s_Things___getitem__) (defBody s_Things___getitem__) (defScope s_Things___getitem__) .none kV_Things___getitem__ dc_Things___getitem__ pm_Things___getitem__ an_Things___getitem__ cd_Things___getitem__ ct_Things___getitem__), sl_Things___getitem__⟩) (c_Things___getitem__ : PySem.W.codeIn K cd_Things___getitem__ "Things.__getitem__" = true) (k_Things___getitem__ : PySem.W.keepIn K (.ref f_Things___getitem__) = true)
    {od_Things___setitem__ an_Things___setitem__ : Option Addr} {sl_Things___setitem__ : Array (Option Value)} {oc_Things___setitem__ kV_Things___setitem__ dc_Things___setitem__ pm_Things___setitem__ cd_Things___setitem__ ct_Things___setitem__ : Value}
    (a_Things___setitem__ : PySem.W.findIn K (.ref C_Things) "__setitem__" = some (some (.ref f_Things___setitem__))) (i_Things___setitem__ : PySem.W.isFn K (.ref f_Things___setitem__) = true) (n_Things___setitem__ : PySem.W.fnIn K f_Things___setitem__ = true)
    (l_Things___setitem__ : K.lookup f_Things___setitem__ = some ⟨oc_Things___setitem__, od_Things___setitem__, .func (PySem.W.fnOf "__setitem__" "Things.__setitem__" (defArgs s_Things___setitem__) (defBody s_Things___setitem__) (defScope s_Things___setitem__) .none kV_Things___setitem__ dc_Things___setitem__ pm_Things___setitem__ an_Things___setitem__ cd_Things___setitem__ ct_Things___setitem__), sl_Things___setitem__⟩) (c_Things___setitem__ : PySem.W.codeIn K cd_Things___setitem__ "Things.__setitem__" = true) (k_Things___setitem__ : PySem.W.keepIn K (.ref f_Things___setitem__) = true)
    {od_Things___iter__ an_Things___iter__ : Option Addr} {sl_Things___iter__ : Array (Option Value)} {oc_Things___iter__ kV_Things___iter__ dc_Things___iter__ pm_Things___iter__ cd_Things___iter__ ct_Things___iter__ : Value}
    (a_Things___iter__ : PySem.W.findIn K (.ref C_Things) "__iter__" = some (some (.ref f_Things___iter__))) (i_Things___iter__ : PySem.W.isFn K (.ref f_Things___iter__) = true) (n_Things___iter__ : PySem.W.fnIn K f_Things___iter__ = true)
    (l_Things___iter__ : K.lookup f_Things___iter__ = some ⟨oc_Things___iter__, od_Things___iter__, .func (PySem.W.fnOf "__iter__" "Things.__iter__" (defArgs s_Things___iter__) (defBody s_Things___iter__) (defScope s_Things___iter__) .none kV_Things___iter__ dc_Things___iter__ pm_Things___iter__ an_Things___iter__ cd_Things___iter__ ct_Things___iter__), sl_Things___iter__⟩) (c_Things___iter__ : PySem.W.codeIn K cd_Things___iter__ "Things.__iter__" = true) (k_Things___iter__ : PySem.W.keepIn K (.ref f_Things___iter__) = true)
    {od_Things_show an_Things_show : Option Addr} {sl_Things_show : Array (Option Value)} {oc_Things_show kV_Things_show dc_Things_show pm_Things_show cd_Things_show ct_Things_show : Value}
    (a_Things_show : PySem.W.findIn K (.ref C_Things) "show" = some (some (.ref f_Things_show))) (i_Things_show : PySem.W.isFn K (.ref f_Things_show) = true) (n_Things_show : PySem.W.fnIn K f_Things_show = true)
    (l_Things_show : K.lookup f_Things_show = some ⟨oc_Things_show, od_Things_show, .func (PySem.W.fnOf "show" "Things.show" (defArgs s_Things_show) (defBody s_Things_show) (defScope s_Things_show) .none kV_Things_show dc_Things_show pm_Things_show an_Things_show cd_Things_show ct_Things_show), sl_Things_show⟩) (c_Things_show : PySem.W.codeIn K cd_Things_show "Things.show" = true) (k_Things_show : PySem.W.keepIn K (.ref f_Things_show) = true)
    (aC_ScreenError : PySem.W.nsIn K mainGlobals "ScreenError" = some (some (.ref C_ScreenError))) (hd_ScreenError : PySem.W.hasDictIn K C_ScreenError = true) (ty_ScreenError : PySem.W.typeIn K (.ref C_ScreenError) = some (.type "type")) (be_ScreenError : PySem.W.subIn K (.ref C_ScreenError) (.type "BaseException") = some true) (vb_ScreenError : PySem.W.subIn K (.ref C_ScreenError) (.type "ValueError") = some true)
    (aC_NoName : PySem.W.nsIn K mainGlobals "NoName" = some (some (.ref C_NoName))) (hd_NoName : PySem.W.hasDictIn K C_NoName = true) (ty_NoName : PySem.W.typeIn K (.ref C_NoName) = some (.type "type")) (be_NoName : PySem.W.subIn K (.ref C_NoName) (.type "BaseException") = some true) (vb_NoName : PySem.W.subIn K (.ref C_NoName) (.type "ValueError") = some true)
    {nm_NoName q_NoName : Str} {N_NoName : Addr} {bs_NoName bm_NoName : List Value} {sn_NoName : List Str} {sub_NoName : List Value} {ab_NoName : Bool} {col_NoName : Option Bool} {dd_NoName : Option Addr} {k0_NoName k1_NoName k2_NoName k3_NoName k5_NoName : Option Value} (lx_NoName : K.lookup C_NoName = some (excClassObj nm_NoName q_NoName C_NoName N_NoName bs_NoName bm_NoName true sn_NoName sub_NoName ab_NoName col_NoName dd_NoName k0_NoName k1_NoName k2_NoName k3_NoName k5_NoName "ValueError.__new__")) (rv_NoName : PySem.HandSPX.refsVE bm_NoName = true)
    (sa_NoName : PySem.W.findIn K (.ref C_NoName) "__setattr__" = some (some (.builtin "object.__setattr__"))) (kc_NoName : PySem.W.keepIn K (.ref C_NoName) = true) (ga_NoName : PySem.W.findIn K (.ref C_NoName) "__getattribute__" = some (some (.builtin "BaseException.__getattribute__"))) (gg_NoName : PySem.W.findIn K (.ref C_NoName) "__getattr__" = some none) (ca_NoName : PySem.W.findIn K (.ref C_NoName) "__class__" = some (some (.builtin "object.__class__"))) (cg_NoName : PySem.W.specialIn K (.builtin "object.__class__") "__get__" = some (some (.builtin "getset_descriptor.__get__"))) (ck_NoName : PySem.W.takesIn K (.builtin "object.__class__") = some true) (mo_NoName : PySem.W.mroIn K C_NoName (.type "object") = some true)
    {od_NoName___init__ an_NoName___init__ : Option Addr} {sl_NoName___init__ : Array (Option Value)} {oc_NoName___init__ kV_NoName___init__ dc_NoName___init__ pm_NoName___init__ cd_NoName___init__ ct_NoName___init__ : Value} (iC_NoName : PySem.W.findIn K (.ref C_NoName) "__init__" = some (some (.ref f_NoName___init__))) (tI_NoName : PySem.W.typeIn K (.ref f_NoName___init__) = some (.type "function"))
    (l_NoName___init__ : K.lookup f_NoName___init__ = some ⟨oc_NoName___init__, od_NoName___init__, .func (PySem.W.fnOf "__init__" "NoName.__init__" (defArgs s_NoName___init__) (defBody s_NoName___init__) (defScope s_NoName___init__) .none kV_NoName___init__ dc_NoName___init__ pm_NoName___init__ an_NoName___init__ cd_NoName___init__ ct_NoName___init__), sl_NoName___init__⟩) (c_NoName___init__ : PySem.W.codeIn K cd_NoName___init__ "NoName.__init__" = true) (k_NoName___init__ : PySem.W.keepIn K (.ref f_NoName___init__) = true)
    (nf_NoName_name : PySem.W.findIn K (.ref C_NoName) "name" = some none)
    (aC_BadRow : PySem.W.nsIn K mainGlobals "BadRow" = some (some (.ref C_BadRow))) (hd_BadRow : PySem.W.hasDictIn K C_BadRow = true) (ty_BadRow : PySem.W.typeIn K (.ref C_BadRow) = some (.type "type")) (be_BadRow : PySem.W.subIn K (.ref C_BadRow) (.type "BaseException") = some true) (vb_BadRow : PySem.W.subIn K (.ref C_BadRow) (.type "ValueError") = some true)
    {nm_BadRow q_BadRow : Str} {N_BadRow : Addr} {bs_BadRow bm_BadRow : List Value} {sn_BadRow : List Str} {sub_BadRow : List Value} {ab_BadRow : Bool} {col_BadRow : Option Bool} {dd_BadRow : Option Addr} {k0_BadRow k1_BadRow k2_BadRow k3_BadRow k5_BadRow : Option Value} (lx_BadRow : K.lookup C_BadRow = some (excClassObj nm_BadRow q_BadRow C_BadRow N_BadRow bs_BadRow bm_BadRow true sn_BadRow sub_BadRow ab_BadRow col_BadRow dd_BadRow k0_BadRow k1_BadRow k2_BadRow k3_BadRow k5_BadRow "ValueError.__new__")) (rv_BadRow : PySem.HandSPX.refsVE bm_BadRow = true)
    (sa_BadRow : PySem.W.findIn K (.ref C_BadRow) "__setattr__" = some (some (.builtin "object.__setattr__"))) (kc_BadRow : PySem.W.keepIn K (.ref C_BadRow) = true) (ga_BadRow : PySem.W.findIn K (.ref C_BadRow) "__getattribute__" = some (some (.builtin "BaseException.__getattribute__"))) (gg_BadRow : PySem.W.findIn K (.ref C_BadRow) "__getattr__" = some none) (ca_BadRow : PySem.W.findIn K (.ref C_BadRow) "__class__" = some (some (.builtin "object.__class__"))) (cg_BadRow : PySem.W.specialIn K (.builtin "object.__class__") "__get__" = some (some (.builtin "getset_descriptor.__get__"))) (ck_BadRow : PySem.W.takesIn K (.builtin "object.__class__") = some true) (mo_BadRow : PySem.W.mroIn K C_BadRow (.type "object") = some true)
    {od_BadRow___init__ an_BadRow___init__ : Option Addr} {sl_BadRow___init__ : Array (Option Value)} {oc_BadRow___init__ kV_BadRow___init__ dc_BadRow___init__ pm_BadRow___init__ cd_BadRow___init__ ct_BadRow___init__ : Value} (iC_BadRow : PySem.W.findIn K (.ref C_BadRow) "__init__" = some (some (.ref f_BadRow___init__))) (tI_BadRow : PySem.W.typeIn K (.ref f_BadRow___init__) = some (.type "function"))
    (l_BadRow___init__ : K.lookup f_BadRow___init__ = some ⟨oc_BadRow___init__, od_BadRow___init__, .func (PySem.W.fnOf "__init__" "BadRow.__init__" (defArgs s_BadRow___init__) (defBody s_BadRow___init__) (defScope s_BadRow___init__) .none kV_BadRow___init__ dc_BadRow___init__ pm_BadRow___init__ an_BadRow___init__ cd_BadRow___init__ ct_BadRow___init__), sl_BadRow___init__⟩) (c_BadRow___init__ : PySem.W.codeIn K cd_BadRow___init__ "BadRow.__init__" = true) (k_BadRow___init__ : PySem.W.keepIn K (.ref f_BadRow___init__) = true)
    (nf_BadRow_row : PySem.W.findIn K (.ref C_BadRow) "row" = some none)
    (aC_NoItem : PySem.W.nsIn K mainGlobals "NoItem" = some (some (.ref C_NoItem))) (hd_NoItem : PySem.W.hasDictIn K C_NoItem = true) (ty_NoItem : PySem.W.typeIn K (.ref C_NoItem) = some (.type "type")) (be_NoItem : PySem.W.subIn K (.ref C_NoItem) (.type "BaseException") = some true) (vb_NoItem : PySem.W.subIn K (.ref C_NoItem) (.type "ValueError") = some true)
    {nm_NoItem q_NoItem : Str} {N_NoItem : Addr} {bs_NoItem bm_NoItem : List Value} {sn_NoItem : List Str} {sub_NoItem : List Value} {ab_NoItem : Bool} {col_NoItem : Option Bool} {dd_NoItem : Option Addr} {k0_NoItem k1_NoItem k2_NoItem k3_NoItem k5_NoItem : Option Value} (lx_NoItem : K.lookup C_NoItem = some (excClassObj nm_NoItem q_NoItem C_NoItem N_NoItem bs_NoItem bm_NoItem true sn_NoItem sub_NoItem ab_NoItem col_NoItem dd_NoItem k0_NoItem k1_NoItem k2_NoItem k3_NoItem k5_NoItem "ValueError.__new__")) (rv_NoItem : PySem.HandSPX.refsVE bm_NoItem = true)
    (sa_NoItem : PySem.W.findIn K (.ref C_NoItem) "__setattr__" = some (some (.builtin "object.__setattr__"))) (kc_NoItem : PySem.W.keepIn K (.ref C_NoItem) = true) (ga_NoItem : PySem.W.findIn K (.ref C_NoItem) "__getattribute__" = some (some (.builtin "BaseException.__getattribute__"))) (gg_NoItem : PySem.W.findIn K (.ref C_NoItem) "__getattr__" = some none) (ca_NoItem : PySem.W.findIn K (.ref C_NoItem) "__class__" = some (some (.builtin "object.__class__"))) (cg_NoItem : PySem.W.specialIn K (.builtin "object.__class__") "__get__" = some (some (.builtin "getset_descriptor.__get__"))) (ck_NoItem : PySem.W.takesIn K (.builtin "object.__class__") = some true) (mo_NoItem : PySem.W.mroIn K C_NoItem (.type "object") = some true)
    {od_NoItem___init__ an_NoItem___init__ : Option Addr} {sl_NoItem___init__ : Array (Option Value)} {oc_NoItem___init__ kV_NoItem___init__ dc_NoItem___init__ pm_NoItem___init__ cd_NoItem___init__ ct_NoItem___init__ : Value} (iC_NoItem : PySem.W.findIn K (.ref C_NoItem) "__init__" = some (some (.ref f_NoItem___init__))) (tI_NoItem : PySem.W.typeIn K (.ref f_NoItem___init__) = some (.type "function"))
    (l_NoItem___init__ : K.lookup f_NoItem___init__ = some ⟨oc_NoItem___init__, od_NoItem___init__, .func (PySem.W.fnOf "__init__" "NoItem.__init__" (defArgs s_NoItem___init__) (defBody s_NoItem___init__) (defScope s_NoItem___init__) .none kV_NoItem___init__ dc_NoItem___init__ pm_NoItem___init__ an_NoItem___init__ cd_NoItem___init__ ct_NoItem___init__), sl_NoItem___init__⟩) (c_NoItem___init__ : PySem.W.codeIn K cd_NoItem___init__ "NoItem.__init__" = true) (k_NoItem___init__ : PySem.W.keepIn K (.ref f_NoItem___init__) = true)
    (nf_NoItem_item : PySem.W.findIn K (.ref C_NoItem) "item" = some none)
    (ne_NoName_ScreenError : C_NoName ≠ C_ScreenError) (s_NoName_ScreenError : PySem.W.subIn K (.ref C_NoName) (.ref C_ScreenError) = some true)
    (ne_NoName_BadRow : C_NoName ≠ C_BadRow) (s_NoName_BadRow : PySem.W.subIn K (.ref C_NoName) (.ref C_BadRow) = some false)
    (ne_NoName_NoItem : C_NoName ≠ C_NoItem) (s_NoName_NoItem : PySem.W.subIn K (.ref C_NoName) (.ref C_NoItem) = some false)
    (ne_BadRow_ScreenError : C_BadRow ≠ C_ScreenError) (s_BadRow_ScreenError : PySem.W.subIn K (.ref C_BadRow) (.ref C_ScreenError) = some true)
    (ne_BadRow_NoName : C_BadRow ≠ C_NoName) (s_BadRow_NoName : PySem.W.subIn K (.ref C_BadRow) (.ref C_NoName) = some false)
    (ne_BadRow_NoItem : C_BadRow ≠ C_NoItem) (s_BadRow_NoItem : PySem.W.subIn K (.ref C_BadRow) (.ref C_NoItem) = some false)
    (ne_NoItem_ScreenError : C_NoItem ≠ C_ScreenError) (s_NoItem_ScreenError : PySem.W.subIn K (.ref C_NoItem) (.ref C_ScreenError) = some true)
    (ne_NoItem_NoName : C_NoItem ≠ C_NoName) (s_NoItem_NoName : PySem.W.subIn K (.ref C_NoItem) (.ref C_NoName) = some false)
    (ne_NoItem_BadRow : C_NoItem ≠ C_BadRow) (s_NoItem_BadRow : PySem.W.subIn K (.ref C_NoItem) (.ref C_BadRow) = some false)
    {t_MOST_LETTERS : Tok} (z_MOST_LETTERS : PySem.W.nsIn K mainGlobals "MOST_LETTERS" = some (some (.int 8 t_MOST_LETTERS)))
    {t_MOST_LEVELS : Tok} (z_MOST_LEVELS : PySem.W.nsIn K mainGlobals "MOST_LEVELS" = some (some (.int 5 t_MOST_LEVELS)))
    {t_MOST_ITEMS : Tok} (z_MOST_ITEMS : PySem.W.nsIn K mainGlobals "MOST_ITEMS" = some (some (.int 5 t_MOST_ITEMS)))
    (z_ValueError : PySem.W.nsIn K mainGlobals "ValueError" = some none)
    (z_abs : PySem.W.nsIn K mainGlobals "abs" = some none)
    (z_all : PySem.W.nsIn K mainGlobals "all" = some none)
    (z_bool : PySem.W.nsIn K mainGlobals "bool" = some none)
    (z_enumerate : PySem.W.nsIn K mainGlobals "enumerate" = some none)
    (z_int : PySem.W.nsIn K mainGlobals "int" = some none)
    (z_isinstance : PySem.W.nsIn K mainGlobals "isinstance" = some none)
    (z_iter : PySem.W.nsIn K mainGlobals "iter" = some none)
    (z_len : PySem.W.nsIn K mainGlobals "len" = some none)
    (z_list : PySem.W.nsIn K mainGlobals "list" = some none)
    (z_range : PySem.W.nsIn K mainGlobals "range" = some none)
    (z_set : PySem.W.nsIn K mainGlobals "set" = some none)
    (z_str : PySem.W.nsIn K mainGlobals "str" = some none)
    (z_tuple : PySem.W.nsIn K mainGlobals "tuple" = some none)
    (z_zip : PySem.W.nsIn K mainGlobals "zip" = some none)
    {pM : Addr} {esM : Array DictEntry} {nM : Nat} {tM1 tM2 tM3 : Tok} (uM : PySem.W.nsIn K mainGlobals "MANY_PARTS" = some (some (.ref pM))) (lM : K.lookup pM = some ⟨.type "dict", none, .dict esM nM, #[]⟩) (kM : PySem.W.KeysLit w.params esM.toList) (oM : (pM == sysModules) = false)
    (i1 : PySem.W.nsIn K pM "is" = some none) (i2 : PySem.W.nsIn K pM "get" = some none) (i3 : PySem.W.nsIn K pM "sum" = some (some (.int 2 tM1))) (i4 : PySem.W.nsIn K pM "same" = some (some (.int 2 tM2))) (i5 : PySem.W.nsIn K pM "pick" = some (some (.int 3 tM3))) :
    ∃ fd : FuncData, (∀ (s : Shared) (v : Value), BindsTo s fd ⟨[v], []⟩ [("_law_script", v)]) ∧ ∀ base : Heap, K.In base → base.Ns mainGlobals mg → FnOk l.prog w K mg base CX0 16 fa fd ["_law_script"] (sp_law K) := by
  have e := hfa.symm.trans (PySem.W.mg_of X G a_law)
  cases e
  let T : Txt K mg := { f_is_whole := f_is_whole, d_is_whole := _, F_is_whole := fun_mk (st := s_is_whole) l_is_whole c_is_whole k_is_whole, b_is_whole := (fun_mk (st := s_is_whole) l_is_whole c_is_whole k_is_whole).binds fun _ _ _ _ _ _ us hl => match us, hl with | [_], _ => rfl, g_is_whole := PySem.W.mg_of X G a_is_whole, f_is_value := f_is_value, d_is_value := _, F_is_value := fun_mk (st := s_is_value) l_is_value c_is_value k_is_value, b_is_value := (fun_mk (st := s_is_value) l_is_value c_is_value k_is_value).binds fun _ _ _ _ _ _ us hl => match us, hl with | [_], _ => rfl, g_is_value := PySem.W.mg_of X G a_is_value, f_is_name := f_is_name, d_is_name := _, F_is_name := fun_mk (st := s_is_name) l_is_name c_is_name k_is_name, b_is_name := (fun_mk (st := s_is_name) l_is_name c_is_name k_is_name).binds fun _ _ _ _ _ _ us hl => match us, hl with | [_], _ => rfl, g_is_name := PySem.W.mg_of X G a_is_name, f_inner_forms := f_inner_forms, d_inner_forms := _, F_inner_forms := fun_mk (st := s_inner_forms) l_inner_forms c_inner_forms k_inner_forms, b_inner_forms := (fun_mk (st := s_inner_forms) l_inner_forms c_inner_forms k_inner_forms).binds fun _ _ _ _ _ _ us hl => match us, hl with | [_], _ => rfl, g_inner_forms := PySem.W.mg_of X G a_inner_forms, f__well_made := f__well_made, d__well_made := _, F__well_made := fun_mk (st := s__well_made) l__well_made c__well_made k__well_made, b__well_made := (fun_mk (st := s__well_made) l__well_made c__well_made k__well_made).binds fun _ _ _ _ _ _ us hl => match us, hl with | [_], _ => rfl, g__well_made := PySem.W.mg_of X G a__well_made, f_check_form := f_check_form, d_check_form := _, F_check_form := fun_mk (st := s_check_form) l_check_form c_check_form k_check_form, b_check_form := (fun_mk (st := s_check_form) l_check_form c_check_form k_check_form).binds fun _ _ _ _ _ _ us hl => match us, hl with | [_], _ => rfl, g_check_form := PySem.W.mg_of X G a_check_form, f_value_of := f_value_of, d_value_of := _, F_value_of := fun_mk (st := s_value_of) l_value_of c_value_of k_value_of, b_value_of := (fun_mk (st := s_value_of) l_value_of c_value_of k_value_of).binds fun _ _ _ _ _ _ us hl => match us, hl with | [_, _], _ => rfl, g_value_of := PySem.W.mg_of X G a_value_of, f_names_in := f_names_in, d_names_in := _, F_names_in := fun_mk (st := s_names_in) l_names_in c_names_in k_names_in, b_names_in := (fun_mk (st := s_names_in) l_names_in c_names_in k_names_in).binds fun _ _ _ _ _ _ us hl => match us, hl with | [_], _ => rfl, g_names_in := PySem.W.mg_of X G a_names_in, f_is_row := f_is_row, d_is_row := _, F_is_row := fun_mk (st := s_is_row) l_is_row c_is_row k_is_row, b_is_row := (fun_mk (st := s_is_row) l_is_row c_is_row k_is_row).binds fun _ _ _ _ _ _ us hl => match us, hl with | [_], _ => rfl, g_is_row := PySem.W.mg_of X G a_is_row, f_check_rows := f_check_rows, d_check_rows := _, F_check_rows := fun_mk (st := s_check_rows) l_check_rows c_check_rows k_check_rows, b_check_rows := (fun_mk (st := s_check_rows) l_check_rows c_check_rows k_check_rows).binds fun _ _ _ _ _ _ us hl => match us, hl with | [_], _ => rfl, g_check_rows := PySem.W.mg_of X G a_check_rows, f__key_value := f__key_value, d__key_value := _, F__key_value := fun_mk (st := s__key_value) l__key_value c__key_value k__key_value, b__key_value := (fun_mk (st := s__key_value) l__key_value c__key_value k__key_value).binds fun _ _ _ _ _ _ us hl => match us, hl with | [_, _, _], _ => rfl, g__key_value := PySem.W.mg_of X G a__key_value, f__idents := f__idents, d__idents := _, F__idents := fun_mk (st := s__idents) l__idents c__idents k__idents, b__idents := (fun_mk (st := s__idents) l__idents c__idents k__idents).binds fun _ _ _ _ _ _ us hl => match us, hl with | [_, _], _ => rfl, g__idents := PySem.W.mg_of X G a__idents, f__law_mixed := f__law_mixed, d__law_mixed := _, F__law_mixed := fun_mk (st := s__law_mixed) l__law_mixed c__law_mixed k__law_mixed, b__law_mixed := (fun_mk (st := s__law_mixed) l__law_mixed c__law_mixed k__law_mixed).binds fun _ _ _ _ _ _ us hl => match us, hl with | [_, _], _ => rfl, g__law_mixed := PySem.W.mg_of X G a__law_mixed, f__law_bag := f__law_bag, d__law_bag := _, F__law_bag := fun_mk (st := s__law_bag) l__law_bag c__law_bag k__law_bag, b__law_bag := (fun_mk (st := s__law_bag) l__law_bag c__law_bag k__law_bag).binds fun _ _ _ _ _ _ us hl => match us, hl with | [_], _ => rfl, g__law_bag := PySem.W.mg_of X G a__law_bag, f__law_pick := f__law_pick, d__law_pick := _, F__law_pick := fun_mk (st := s__law_pick) l__law_pick c__law_pick k__law_pick, b__law_pick := (fun_mk (st := s__law_pick) l__law_pick c__law_pick k__law_pick).binds fun _ _ _ _ _ _ us hl => match us, hl with | [_, _], _ => rfl, g__law_pick := PySem.W.mg_of X G a__law_pick, f__law_choice := f__law_choice, d__law_choice := _, F__law_choice := fun_mk (st := s__law_choice) l__law_choice c__law_choice k__law_choice, b__law_choice := (fun_mk (st := s__law_choice) l__law_choice c__law_choice k__law_choice).binds fun _ _ _ _ _ _ us hl => match us, hl with | [_, _], _ => rfl, g__law_choice := PySem.W.mg_of X G a__law_choice, f__law_mingled := f__law_mingled, d__law_mingled := _, F__law_mingled := fun_mk (st := s__law_mingled) l__law_mingled c__law_mingled k__law_mingled, b__law_mingled := (fun_mk (st := s__law_mingled) l__law_mingled c__law_mingled k__law_mingled).binds fun _ _ _ _ _ _ us hl => match us, hl with | [_, _], _ => rfl, g__law_mingled := PySem.W.mg_of X G a__law_mingled, f__law_number := f__law_number, d__law_number := _, F__law_number := fun_mk (st := s__law_number) l__law_number c__law_number k__law_number, b__law_number := (fun_mk (st := s__law_number) l__law_number c__law_number k__law_number).binds fun _ _ _ _ _ _ us hl => match us, hl with | [_], _ => rfl, g__law_number := PySem.W.mg_of X G a__law_number, f__law_form := f__law_form, d__law_form := _, F__law_form := fun_mk (st := s__law_form) l__law_form c__law_form k__law_form, b__law_form := (fun_mk (st := s__law_form) l__law_form c__law_form k__law_form).binds fun _ _ _ _ _ _ us hl => match us, hl with | [_, _, _], _ => rfl, g__law_form := PySem.W.mg_of X G a__law_form, f__law_value := f__law_value, d__law_value := _, F__law_value := fun_mk (st := s__law_value) l__law_value c__law_value k__law_value, b__law_value := (fun_mk (st := s__law_value) l__law_value c__law_value k__law_value).binds fun _ _ _ _ _ _ us hl => match us, hl with | [_, _], _ => rfl, g__law_value := PySem.W.mg_of X G a__law_value, f__law_idents := f__law_idents, d__law_idents := _, F__law_idents := fun_mk (st := s__law_idents) l__law_idents c__law_idents k__law_idents, b__law_idents := (fun_mk (st := s__law_idents) l__law_idents c__law_idents k__law_idents).binds fun _ _ _ _ _ _ us hl => match us, hl with | [_, _], _ => rfl, g__law_idents := PySem.W.mg_of X G a__law_idents, f__law_row := f__law_row, d__law_row := _, F__law_row := fun_mk (st := s__law_row) l__law_row c__law_row k__law_row, b__law_row := (fun_mk (st := s__law_row) l__law_row c__law_row k__law_row).binds fun _ _ _ _ _ _ us hl => match us, hl with | [_, _], _ => rfl, g__law_row := PySem.W.mg_of X G a__law_row, f__law_any_key := f__law_any_key, d__law_any_key := _, F__law_any_key := fun_mk (st := s__law_any_key) l__law_any_key c__law_any_key k__law_any_key, b__law_any_key := (fun_mk (st := s__law_any_key) l__law_any_key c__law_any_key k__law_any_key).binds fun _ _ _ _ _ _ us hl => match us, hl with | [_], _ => rfl, g__law_any_key := PySem.W.mg_of X G a__law_any_key, f__law_changed := f__law_changed, d__law_changed := _, F__law_changed := fun_mk (st := s__law_changed) l__law_changed c__law_changed k__law_changed, b__law_changed := (fun_mk (st := s__law_changed) l__law_changed c__law_changed k__law_changed).binds fun _ _ _ _ _ _ us hl => match us, hl with | [_, _], _ => rfl, g__law_changed := PySem.W.mg_of X G a__law_changed, f__law_rows_shown := f__law_rows_shown, d__law_rows_shown := _, F__law_rows_shown := fun_mk (st := s__law_rows_shown) l__law_rows_shown c__law_rows_shown k__law_rows_shown, b__law_rows_shown := (fun_mk (st := s__law_rows_shown) l__law_rows_shown c__law_rows_shown k__law_rows_shown).binds fun _ _ _ _ _ _ us hl => match us, hl with | [_], _ => rfl, g__law_rows_shown := PySem.W.mg_of X G a__law_rows_shown, f__law_known_by := f__law_known_by, d__law_known_by := _, F__law_known_by := fun_mk (st := s__law_known_by) l__law_known_by c__law_known_by k__law_known_by, b__law_known_by := (fun_mk (st := s__law_known_by) l__law_known_by c__law_known_by k__law_known_by).binds fun _ _ _ _ _ _ us hl => match us, hl with | [_, _], _ => rfl, g__law_known_by := PySem.W.mg_of X G a__law_known_by, f__law_shows := f__law_shows, d__law_shows := _, F__law_shows := fun_mk (st := s__law_shows) l__law_shows c__law_shows k__law_shows, b__law_shows := (fun_mk (st := s__law_shows) l__law_shows c__law_shows k__law_shows).binds fun _ _ _ _ _ _ us hl => match us, hl with | [_, _], _ => rfl, g__law_shows := PySem.W.mg_of X G a__law_shows, f__law_agrees := f__law_agrees, d__law_agrees := _, F__law_agrees := fun_mk (st := s__law_agrees) l__law_agrees c__law_agrees k__law_agrees, b__law_agrees := (fun_mk (st := s__law_agrees) l__law_agrees c__law_agrees k__law_agrees).binds fun _ _ _ _ _ _ us hl => match us, hl with | [_, _], _ => rfl, g__law_agrees := PySem.W.mg_of X G a__law_agrees, f__law_not_read := f__law_not_read, d__law_not_read := _, F__law_not_read := fun_mk (st := s__law_not_read) l__law_not_read c__law_not_read k__law_not_read, b__law_not_read := (fun_mk (st := s__law_not_read) l__law_not_read c__law_not_read k__law_not_read).binds fun _ _ _ _ _ _ us hl => match us, hl with | [_, _], _ => rfl, g__law_not_read := PySem.W.mg_of X G a__law_not_read, f__law_not_set := f__law_not_set, d__law_not_set := _, F__law_not_set := fun_mk (st := s__law_not_set) l__law_not_set c__law_not_set k__law_not_set, b__law_not_set := (fun_mk (st := s__law_not_set) l__law_not_set c__law_not_set k__law_not_set).binds fun _ _ _ _ _ _ us hl => match us, hl with | [_, _], _ => rfl, g__law_not_set := PySem.W.mg_of X G a__law_not_set, f__law_step := f__law_step, d__law_step := _, F__law_step := fun_mk (st := s__law_step) l__law_step c__law_step k__law_step, b__law_step := (fun_mk (st := s__law_step) l__law_step c__law_step k__law_step).binds fun _ _ _ _ _ _ us hl => match us, hl with | [_, _, _, _], _ => rfl, g__law_step := PySem.W.mg_of X G a__law_step, f_law := fa, d_law := _, F_law := fun_mk (st := s_law) l_law c_law k_law, b_law := (fun_mk (st := s_law) l_law c_law k_law).binds fun _ _ _ _ _ _ us hl => match us, hl with | [_], _ => rfl, g_law := PySem.W.mg_of X G a_law, C_Key := C_Key, g_Key := PySem.W.mg_of X G aC_Key, cl_Key := ⟨pg_Key, hd_Key, po_Key, sa_Key⟩, mk_Key := mk_Key, kc_Key := kc_Key, nf_Key := nf_Key, in_Key := ⟨⟨pg_Key, hd_Key, po_Key, sa_Key⟩, ih_Key, ig_Key, it_Key, io_Key, ik_Key⟩, nA_Key__parts := nA_Key__parts, f_Key___init__ := f_Key___init__, d_Key___init__ := _, F_Key___init__ := fun_mk (st := s_Key___init__) l_Key___init__ c_Key___init__ k_Key___init__, b_Key___init__ := (fun_mk (st := s_Key___init__) l_Key___init__ c_Key___init__ k_Key___init__).binds fun _ _ _ _ _ _ us hl => match us, hl with | [_, _], _ => rfl, a_Key___init__ := a_Key___init__, i_Key___init__ := i_Key___init__, n_Key___init__ := n_Key___init__, f_Key_parts := f_Key_parts, d_Key_parts := _, F_Key_parts := fun_mk (st := s_Key_parts) l_Key_parts c_Key_parts k_Key_parts, b_Key_parts := (fun_mk (st := s_Key_parts) l_Key_parts c_Key_parts k_Key_parts).binds fun _ _ _ _ _ _ us hl => match us, hl with | [_], _ => rfl, p_Key_parts := p_Key_parts, P_Key_parts := ⟨a_Key_parts, ge_Key_parts, ta_Key_parts, ⟨_, re1_Key_parts⟩⟩, f_Key___call__ := f_Key___call__, d_Key___call__ := _, F_Key___call__ := fun_mk (st := s_Key___call__) l_Key___call__ c_Key___call__ k_Key___call__, b_Key___call__ := (fun_mk (st := s_Key___call__) l_Key___call__ c_Key___call__ k_Key___call__).binds fun _ _ _ _ _ _ us hl => match us, hl with | [_, _, _], _ => rfl, a_Key___call__ := a_Key___call__, i_Key___call__ := i_Key___call__, n_Key___call__ := n_Key___call__, f_Key___le__ := f_Key___le__, d_Key___le__ := _, F_Key___le__ := fun_mk (st := s_Key___le__) l_Key___le__ c_Key___le__ k_Key___le__, b_Key___le__ := (fun_mk (st := s_Key___le__) l_Key___le__ c_Key___le__ k_Key___le__).binds fun _ _ _ _ _ _ us hl => match us, hl with | [_, _], _ => rfl, a_Key___le__ := a_Key___le__, i_Key___le__ := i_Key___le__, n_Key___le__ := n_Key___le__, f_Key_idents := f_Key_idents, d_Key_idents := _, F_Key_idents := fun_mk (st := s_Key_idents) l_Key_idents c_Key_idents k_Key_idents, b_Key_idents := (fun_mk (st := s_Key_idents) l_Key_idents c_Key_idents k_Key_idents).binds fun _ _ _ _ _ _ us hl => match us, hl with | [_, _], _ => rfl, a_Key_idents := a_Key_idents, i_Key_idents := i_Key_idents, n_Key_idents := n_Key_idents, C_Known := C_Known, g_Known := PySem.W.mg_of X G aC_Known, cl_Known := ⟨pg_Known, hd_Known, po_Known, sa_Known⟩, mk_Known := mk_Known, kc_Known := kc_Known, nf_Known := nf_Known, in_Known := ⟨⟨pg_Known, hd_Known, po_Known, sa_Known⟩, ih_Known, ig_Known, it_Known, io_Known, ik_Known⟩, ns_Known := ns_Known, nA_Known__idents := nA_Known__idents, nA_Known__key := nA_Known__key, nA_Known__numbers := nA_Known__numbers, nA_Known_row := nA_Known_row, f_Known___init__ := f_Known___init__, d_Known___init__ := _, F_Known___init__ := fun_mk (st := s_Known___init__) l_Known___init__ c_Known___init__ k_Known___init__, b_Known___init__ := (fun_mk (st := s_Known___init__) l_Known___init__ c_Known___init__ k_Known___init__).binds fun _ _ _ _ _ _ us hl => match us, hl with | [_, _, _], _ => rfl, a_Known___init__ := a_Known___init__, i_Known___init__ := i_Known___init__, n_Known___init__ := n_Known___init__, f_Known___getitem__ := f_Known___getitem__, d_Known___getitem__ := _, F_Known___getitem__ := fun_mk (st := s_Known___getitem__) l_Known___getitem__ c_Known___getitem__ k_Known___getitem__, b_Known___getitem__ := (fun_mk (st := s_Known___getitem__) l_Known___getitem__ c_Known___getitem__ k_Known___getitem__).binds fun _ _ _ _ _ _ us hl => match us, hl with | [_, _], _ => rfl, a_Known___getitem__ := a_Known___getitem__, i_Known___getitem__ := i_Known___getitem__, n_Known___getitem__ := n_Known___getitem__, f_Known___setitem__ := f_Known___setitem__, d_Known___setitem__ := _, F_Known___setitem__ := fun_mk (st := s_Known___setitem__) l_Known___setitem__ c_Known___setitem__ k_Known___setitem__, b_Known___setitem__ := (fun_mk (st := s_Known___setitem__) l_Known___setitem__ c_Known___setitem__ k_Known___setitem__).binds fun _ _ _ _ _ _ us hl => match us, hl with | [_, _, _], _ => rfl, a_Known___setitem__ := a_Known___setitem__, i_Known___setitem__ := i_Known___setitem__, n_Known___setitem__ := n_Known___setitem__, f_Known___iter__ := f_Known___iter__, d_Known___iter__ := _, F_Known___iter__ := fun_mk (st := s_Known___iter__) l_Known___iter__ c_Known___iter__ k_Known___iter__, b_Known___iter__ := (fun_mk (st := s_Known___iter__) l_Known___iter__ c_Known___iter__ k_Known___iter__).binds fun _ _ _ _ _ _ us hl => match us, hl with | [_], _ => rfl, a_Known___iter__ := a_Known___iter__, i_Known___iter__ := i_Known___iter__, n_Known___iter__ := n_Known___iter__, f_Known_show := f_Known_show, d_Known_show := _, F_Known_show := fun_mk (st := s_Known_show) l_Known_show c_Known_show k_Known_show, b_Known_show := (fun_mk (st := s_Known_show) l_Known_show c_Known_show k_Known_show).binds fun _ _ _ _ _ _ us hl => match us, hl with | [_, _], _ => rfl, a_Known_show := a_Known_show, i_Known_show := i_Known_show, n_Known_show := n_Known_show, li_Known := ⟨a_Known___iter__, i_Known___iter__, nl_Known, nh_Known⟩, C_Things := C_Things, g_Things := PySem.W.mg_of X G aC_Things, cl_Things := ⟨pg_Things, hd_Things, po_Things, sa_Things⟩, mk_Things := mk_Things, kc_Things := kc_Things, nf_Things := nf_Things, in_Things := ⟨⟨pg_Things, hd_Things, po_Things, sa_Things⟩, ih_Things, ig_Things, it_Things, io_Things, ik_Things⟩, ns_Things := ns_Things, nA_Things__numbers := nA_Things__numbers, nA_Things_row := nA_Things_row, f_Things___init__ := f_Things___init__, d_Things___init__ := _, F_Things___init__ := fun_mk (st := s_Things___init__) l_Things___init__ c_Things___init__ k_Things___init__, b_Things___init__ := (fun_mk (st := s_Things___init__) l_Things___init__ c_Things___init__ k_Things___init__).binds fun _ _ _ _ _ _ us hl => match us, hl with | [_, _], _ => rfl, a_Things___init__ := a_Things___init__, i_Things___init__ := i_Things___init__, n_Things___init__ := n_Things___init__, f_Things___getitem__ := f_Things___getitem__, d_Things___getitem__ := _, F_Things___getitem__ := fun_mk (st := s_Things___getitem__) l_Things___getitem__ c_Things___getitem__ k_Things___getitem__, b_Things___getitem__ := (fun_mk (st := s_Things___getitem__) l_Things___getitem__ c_Things___getitem__ k_Things___getitem__).binds fun _ _ _ _ _ _ us hl => match us, hl with | [_, _], _ => rfl, a_Things___getitem__ := a_Things___getitem__, i_Things___getitem__ := i_Things___getitem__, n_Things___getitem__ := n_Things___getitem__, f_Things___setitem__ := f_Things___setitem__, d_Things___setitem__ := _, F_Things___setitem__ := fun_mk (st := s_Things___setitem__) l_Things___setitem__ c_Things___setitem__ k_Things___setitem__, b_Things___setitem__ := (fun_mk (st := s_Things___setitem__) l_Things___setitem__ c_Things___setitem__ k_Things___setitem__).binds fun _ _ _ _ _ _ us hl => match us, hl with | [_, _, _], _ => rfl, a_Things___setitem__ := a_Things___setitem__, i_Things___setitem__ := i_Things___setitem__, n_Things___setitem__ := n_Things___setitem__, f_Things___iter__ := f_Things___iter__, d_Things___iter__ := _, F_Things___iter__ := fun_mk (st := s_Things___iter__) l_Things___iter__ c_Things___iter__ k_Things___iter__, b_Things___iter__ := (fun_mk (st := s_Things___iter__) l_Things___iter__ c_Things___iter__ k_Things___iter__).binds fun _ _ _ _ _ _ us hl => match us, hl with | [_], _ => rfl, a_Things___iter__ := a_Things___iter__, i_Things___iter__ := i_Things___iter__, n_Things___iter__ := n_Things___iter__, f_Things_show := f_Things_show, d_Things_show := _, F_Things_show := fun_mk (st := s_Things_show) l_Things_show c_Things_show k_Things_show, b_Things_show := (fun_mk (st := s_Things_show) l_Things_show c_Things_show k_Things_show).binds fun _ _ _ _ _ _ us hl => match us, hl with | [_, _], _ => rfl, a_Things_show := a_Things_show, i_Things_show := i_Things_show, n_Things_show := n_Things_show, li_Things := ⟨a_Things___iter__, i_Things___iter__, nl_Things, nh_Things⟩, C_ScreenError := C_ScreenError, g_ScreenError := PySem.W.mg_of X G aC_ScreenError, hd_ScreenError := hd_ScreenError, ty_ScreenError := ty_ScreenError, be_ScreenError := be_ScreenError, vb_ScreenError := vb_ScreenError, C_NoName := C_NoName, g_NoName := PySem.W.mg_of X G aC_NoName, hd_NoName := hd_NoName, ty_NoName := ty_NoName, be_NoName := be_NoName, vb_NoName := vb_NoName, ox_NoName := ⟨⟨_, _, _, _, _, _, _, _, _, _, _, _, _, _, _, lx_NoName, rv_NoName⟩, sa_NoName, be_NoName, ty_NoName, kc_NoName⟩, xf_NoName := ⟨ga_NoName, gg_NoName, be_NoName, hd_NoName⟩, is_NoName := ⟨ga_NoName, gg_NoName, be_NoName, hd_NoName, ca_NoName, cg_NoName, ck_NoName, mo_NoName⟩, f_NoName___init__ := f_NoName___init__, d_NoName___init__ := _, F_NoName___init__ := fun_mk (st := s_NoName___init__) l_NoName___init__ c_NoName___init__ k_NoName___init__, b_NoName___init__ := (fun_mk (st := s_NoName___init__) l_NoName___init__ c_NoName___init__ k_NoName___init__).binds fun _ _ _ _ _ _ us hl => match us, hl with | [_, _], _ => rfl, iC_NoName := iC_NoName, tI_NoName := tI_NoName, nf_NoName_name := nf_NoName_name, C_BadRow := C_BadRow, g_BadRow := PySem.W.mg_of X G aC_BadRow, hd_BadRow := hd_BadRow, ty_BadRow := ty_BadRow, be_BadRow := be_BadRow, vb_BadRow := vb_BadRow, ox_BadRow := ⟨⟨_, _, _, _, _, _, _, _, _, _, _, _, _, _, _, lx_BadRow, rv_BadRow⟩, sa_BadRow, be_BadRow, ty_BadRow, kc_BadRow⟩, xf_BadRow := ⟨ga_BadRow, gg_BadRow, be_BadRow, hd_BadRow⟩, is_BadRow := ⟨ga_BadRow, gg_BadRow, be_BadRow, hd_BadRow, ca_BadRow, cg_BadRow, ck_BadRow, mo_BadRow⟩, f_BadRow___init__ := f_BadRow___init__, d_BadRow___init__ := _, F_BadRow___init__ := fun_mk (st := s_BadRow___init__) l_BadRow___init__ c_BadRow___init__ k_BadRow___init__, b_BadRow___init__ := (fun_mk (st := s_BadRow___init__) l_BadRow___init__ c_BadRow___init__ k_BadRow___init__).binds fun _ _ _ _ _ _ us hl => match us, hl with | [_, _], _ => rfl, iC_BadRow := iC_BadRow, tI_BadRow := tI_BadRow, nf_BadRow_row := nf_BadRow_row, C_NoItem := C_NoItem, g_NoItem := PySem.W.mg_of X G aC_NoItem, hd_NoItem := hd_NoItem, ty_NoItem := ty_NoItem, be_NoItem := be_NoItem, vb_NoItem := vb_NoItem, ox_NoItem := ⟨⟨_, _, _, _, _, _, _, _, _, _, _, _, _, _, _, lx_NoItem, rv_NoItem⟩, sa_NoItem, be_NoItem, ty_NoItem, kc_NoItem⟩, xf_NoItem := ⟨ga_NoItem, gg_NoItem, be_NoItem, hd_NoItem⟩, is_NoItem := ⟨ga_NoItem, gg_NoItem, be_NoItem, hd_NoItem, ca_NoItem, cg_NoItem, ck_NoItem, mo_NoItem⟩, f_NoItem___init__ := f_NoItem___init__, d_NoItem___init__ := _, F_NoItem___init__ := fun_mk (st := s_NoItem___init__) l_NoItem___init__ c_NoItem___init__ k_NoItem___init__, b_NoItem___init__ := (fun_mk (st := s_NoItem___init__) l_NoItem___init__ c_NoItem___init__ k_NoItem___init__).binds fun _ _ _ _ _ _ us hl => match us, hl with | [_, _], _ => rfl, iC_NoItem := iC_NoItem, tI_NoItem := tI_NoItem, nf_NoItem_item := nf_NoItem_item, ne_NoName_ScreenError := ne_NoName_ScreenError, s_NoName_ScreenError := s_NoName_ScreenError, ne_NoName_BadRow := ne_NoName_BadRow, s_NoName_BadRow := s_NoName_BadRow, ne_NoName_NoItem := ne_NoName_NoItem, s_NoName_NoItem := s_NoName_NoItem, ne_BadRow_ScreenError := ne_BadRow_ScreenError, s_BadRow_ScreenError := s_BadRow_ScreenError, ne_BadRow_NoName := ne_BadRow_NoName, s_BadRow_NoName := s_BadRow_NoName, ne_BadRow_NoItem := ne_BadRow_NoItem, s_BadRow_NoItem := s_BadRow_NoItem, ne_NoItem_ScreenError := ne_NoItem_ScreenError, s_NoItem_ScreenError := s_NoItem_ScreenError, ne_NoItem_NoName := ne_NoItem_NoName, s_NoItem_NoName := s_NoItem_NoName, ne_NoItem_BadRow := ne_NoItem_BadRow, s_NoItem_BadRow := s_NoItem_BadRow, t_MOST_LETTERS := _, c_MOST_LETTERS := PySem.W.mg_of X G z_MOST_LETTERS, t_MOST_LEVELS := _, c_MOST_LEVELS := PySem.W.mg_of X G z_MOST_LEVELS, t_MOST_ITEMS := _, c_MOST_ITEMS := PySem.W.mg_of X G z_MOST_ITEMS, m_ValueError := PySem.W.mg_none_of X G z_ValueError, m_abs := PySem.W.mg_none_of X G z_abs, m_all := PySem.W.mg_none_of X G z_all, m_bool := PySem.W.mg_none_of X G z_bool, m_enumerate := PySem.W.mg_none_of X G z_enumerate, m_int := PySem.W.mg_none_of X G z_int, m_isinstance := PySem.W.mg_none_of X G z_isinstance, m_iter := PySem.W.mg_none_of X G z_iter, m_len := PySem.W.mg_none_of X G z_len, m_list := PySem.W.mg_none_of X G z_list, m_range := PySem.W.mg_none_of X G z_range, m_set := PySem.W.mg_none_of X G z_set, m_str := PySem.W.mg_none_of X G z_str, m_tuple := PySem.W.mg_none_of X G z_tuple, m_zip := PySem.W.mg_none_of X G z_zip }
  let U : TMany K mg w := { p := pM, es := esM, n := nM, kd := ⟨lM, kM, oM⟩, g := PySem.W.mg_of X G uM, is := i1, get := i2, sum := ⟨_, i3⟩, same := ⟨_, i4⟩, pick := ⟨_, i5⟩ }
  exact ⟨_, fun s v => .of_eq rfl, fun base _ _ => ok_law (base := base) T U⟩
end D
open PySem PySem.W PyProof.Rows
set_option maxHeartbeats 0 in
theorem PySem.Challenge.cw_drawnanew_k26_known_numbers_holds : PySem.Challenge.rw_drawnanew_k26_known_numbers.Holds := by
  w_on; o_law; k_head; (case hw => w_witness2)
  k_fill
  refine L2.walk_of (l := PySem.Challenge.rw_drawnanew_k26_known_numbers) (n := 63) (k := 16) (x := "_law_script") (CX := fun _ => L2.CX0) (sp := fun w => D.sp_law _) rfl (by decide) rfl ⟨rfl, by decide, by decide⟩ (fun w h Y => PySem.W.kIn_of Y) ?F (fun _ _ a ns hl _ hS => ⟨a, ns, rfl, hS, hl, fun _ => rfl⟩) (fun _ _ _ _ _ h => h)
  case F =>
    intro w mg fa h KX G hmg
    refine' D.all_mk KX G hmg ?a_is_whole ?l_is_whole ?c_is_whole ?k_is_whole ?a_is_value ?l_is_value ?c_is_value ?k_is_value ?a_is_name ?l_is_name ?c_is_name ?k_is_name ?a_inner_forms ?l_inner_forms ?c_inner_forms ?k_inner_forms ?a__well_made ?l__well_made ?c__well_made ?k__well_made ?a_check_form ?l_check_form ?c_check_form ?k_check_form ?a_value_of ?l_value_of ?c_value_of ?k_value_of ?a_names_in ?l_names_in ?c_names_in ?k_names_in ?a_is_row ?l_is_row ?c_is_row ?k_is_row ?a_check_rows ?l_check_rows ?c_check_rows ?k_check_rows ?a__key_value ?l__key_value ?c__key_value ?k__key_value ?a__idents ?l__idents ?c__idents ?k__idents ?a__law_mixed ?l__law_mixed ?c__law_mixed ?k__law_mixed ?a__law_bag ?l__law_bag ?c__law_bag ?k__law_bag ?a__law_pick ?l__law_pick ?c__law_pick ?k__law_pick ?a__law_choice ?l__law_choice ?c__law_choice ?k__law_choice ?a__law_mingled ?l__law_mingled ?c__law_mingled ?k__law_mingled ?a__law_number ?l__law_number ?c__law_number ?k__law_number ?a__law_form ?l__law_form ?c__law_form ?k__law_form ?a__law_value ?l__law_value ?c__law_value ?k__law_value ?a__law_idents ?l__law_idents ?c__law_idents ?k__law_idents ?a__law_row ?l__law_row ?c__law_row ?k__law_row ?a__law_any_key ?l__law_any_key ?c__law_any_key ?k__law_any_key ?a__law_changed ?l__law_changed ?c__law_changed ?k__law_changed ?a__law_rows_shown ?l__law_rows_shown ?c__law_rows_shown ?k__law_rows_shown ?a__law_known_by ?l__law_known_by ?c__law_known_by ?k__law_known_by ?a__law_shows ?l__law_shows ?c__law_shows ?k__law_shows ?a__law_agrees ?l__law_agrees ?c__law_agrees ?k__law_agrees ?a__law_not_read ?l__law_not_read ?c__law_not_read ?k__law_not_read ?a__law_not_set ?l__law_not_set ?c__law_not_set ?k__law_not_set ?a__law_step ?l__law_step ?c__law_step ?k__law_step ?a_law ?l_law ?c_law ?k_law ?aC_Key ?pg_Key ?hd_Key ?po_Key ?sa_Key ?mk_Key ?kc_Key ?nf_Key ?ih_Key ?ig_Key ?it_Key ?io_Key ?ik_Key ?nA_Key__parts ?a_Key___init__ ?i_Key___init__ ?n_Key___init__ ?l_Key___init__ ?c_Key___init__ ?k_Key___init__ ?a_Key_parts ?ge_Key_parts ?ta_Key_parts ?re1_Key_parts ?l_Key_parts ?c_Key_parts ?k_Key_parts ?a_Key___call__ ?i_Key___call__ ?n_Key___call__ ?l_Key___call__ ?c_Key___call__ ?k_Key___call__ ?a_Key___le__ ?i_Key___le__ ?n_Key___le__ ?l_Key___le__ ?c_Key___le__ ?k_Key___le__ ?a_Key_idents ?i_Key_idents ?n_Key_idents ?l_Key_idents ?c_Key_idents ?k_Key_idents ?aC_Known ?pg_Known ?hd_Known ?po_Known ?sa_Known ?mk_Known ?kc_Known ?nf_Known ?ih_Known ?ig_Known ?it_Known ?io_Known ?ik_Known ?ns_Known ?nl_Known ?nh_Known ?nA_Known__idents ?nA_Known__key ?nA_Known__numbers ?nA_Known_row ?a_Known___init__ ?i_Known___init__ ?n_Known___init__ ?l_Known___init__ ?c_Known___init__ ?k_Known___init__ ?a_Known___getitem__ ?i_Known___getitem__ ?n_Known___getitem__ ?l_Known___getitem__ ?c_Known___getitem__ ?k_Known___getitem__ ?a_Known___setitem__ ?i_Known___setitem__ ?n_Known___setitem__ ?l_Known___setitem__ ?c_Known___setitem__ ?k_Known___setitem__ ?a_Known___iter__ ?i_Known___iter__ ?n_Known___iter__ ?l_Known___iter__ ?c_Known___iter__ ?k_Known___iter__ ?a_Known_show ?i_Known_show ?n_Known_show ?l_Known_show ?c_Known_show ?k_Known_show ?aC_Things ?pg_Things ?hd_Things ?po_Things ?sa_Things ?mk_Things ?kc_Things ?nf_Things ?ih_Things ?ig_Things ?it_Things ?io_Things ?ik_Things ?ns_Things ?nl_Things ?nh_Things ?nA_Things__numbers ?nA_Things_row ?a_Things___init__ ?i_Things___init__ ?n_Things___init__ ?l_Things___init__ ?c_Things___init__ ?k_Things___init__ ?a_Things___getitem__ ?i_Things___getitem__ ?n_Things___getitem__ ?l_Things___getitem__ ?c_Things___getitem__ ?k_Things___getitem__ ?a_Things___setitem__ ?i_Things___setitem__ ?n_Things___setitem__ ?l_Things___setitem__ ?c_Things___setitem__ ?k_Things___setitem__ ?a_Things___iter__ ?i_Things___iter__ ?n_Things___iter__ ?l_Things___iter__ ?c_Things___iter__ ?k_Things___iter__ ?a_Things_show ?i_Things_show ?n_Things_show ?l_Things_show ?c_Things_show ?k_Things_show ?aC_ScreenError ?hd_ScreenError ?ty_ScreenError ?be_ScreenError ?vb_ScreenError ?aC_NoName ?hd_NoName ?ty_NoName ?be_NoName ?vb_NoName ?lx_NoName ?rv_NoName ?sa_NoName ?kc_NoName ?ga_NoName ?gg_NoName ?ca_NoName ?cg_NoName ?ck_NoName ?mo_NoName ?iC_NoName ?tI_NoName ?l_NoName___init__ ?c_NoName___init__ ?k_NoName___init__ ?nf_NoName_name ?aC_BadRow ?hd_BadRow ?ty_BadRow ?be_BadRow ?vb_BadRow ?lx_BadRow ?rv_BadRow ?sa_BadRow ?kc_BadRow ?ga_BadRow ?gg_BadRow ?ca_BadRow ?cg_BadRow ?ck_BadRow ?mo_BadRow ?iC_BadRow ?tI_BadRow ?l_BadRow___init__ ?c_BadRow___init__ ?k_BadRow___init__ ?nf_BadRow_row ?aC_NoItem ?hd_NoItem ?ty_NoItem ?be_NoItem ?vb_NoItem ?lx_NoItem ?rv_NoItem ?sa_NoItem ?kc_NoItem ?ga_NoItem ?gg_NoItem ?ca_NoItem ?cg_NoItem ?ck_NoItem ?mo_NoItem ?iC_NoItem ?tI_NoItem ?l_NoItem___init__ ?c_NoItem___init__ ?k_NoItem___init__ ?nf_NoItem_item ?ne_NoName_ScreenError ?s_NoName_ScreenError ?ne_NoName_BadRow ?s_NoName_BadRow ?ne_NoName_NoItem ?s_NoName_NoItem ?ne_BadRow_ScreenError ?s_BadRow_ScreenError ?ne_BadRow_NoName ?s_BadRow_NoName ?ne_BadRow_NoItem ?s_BadRow_NoItem ?ne_NoItem_ScreenError ?s_NoItem_ScreenError ?ne_NoItem_NoName ?s_NoItem_NoName ?ne_NoItem_BadRow ?s_NoItem_BadRow ?z_MOST_LETTERS ?z_MOST_LEVELS ?z_MOST_ITEMS ?z_ValueError ?z_abs ?z_all ?z_bool ?z_enumerate ?z_int ?z_isinstance ?z_iter ?z_len ?z_list ?z_range ?z_set ?z_str ?z_tuple ?z_zip ?uM ?lM ?kM ?oM ?i1 ?i2 ?i3 ?i4 ?i5
    (case a_is_whole => k_is); (case l_is_whole => k_is); (case c_is_whole => k_is); (case k_is_whole => k_is); (case a_is_value => k_is); (case l_is_value => k_is); (case c_is_value => k_is); (case k_is_value => k_is); (case a_is_name => k_is); (case l_is_name => k_is); (case c_is_name => k_is); (case k_is_name => k_is); (case a_inner_forms => k_is); (case l_inner_forms => k_is); (case c_inner_forms => k_is); (case k_inner_forms => k_is); (case a__well_made => k_is); (case l__well_made => k_is); (case c__well_made => k_is); (case k__well_made => k_is); (case a_check_form => k_is); (case l_check_form => k_is); (case c_check_form => k_is); (case k_check_form => k_is); (case a_value_of => k_is); (case l_value_of => k_is); (case c_value_of => k_is); (case k_value_of => k_is); (case a_names_in => k_is); (case l_names_in => k_is); (case c_names_in => k_is); (case k_names_in => k_is); (case a_is_row => k_is); (case l_is_row => k_is); (case c_is_row => k_is); (case k_is_row => k_is); (case a_check_rows => k_is); (case l_check_rows => k_is); (case c_check_rows => k_is); (case k_check_rows => k_is); (case a__key_value => k_is); (case l__key_value => k_is); (case c__key_value => k_is); (case k__key_value => k_is); (case a__idents => k_is); (case l__idents => k_is); (case c__idents => k_is); (case k__idents => k_is); (case a__law_mixed => k_is); (case l__law_mixed => k_is); (case c__law_mixed => k_is); (case k__law_mixed => k_is); (case a__law_bag => k_is); (case l__law_bag => k_is); (case c__law_bag => k_is); (case k__law_bag => k_is); (case a__law_pick => k_is); (case l__law_pick => k_is); (case c__law_pick => k_is); (case k__law_pick => k_is); (case a__law_choice => k_is); (case l__law_choice => k_is); (case c__law_choice => k_is); (case k__law_choice => k_is); (case a__law_mingled => k_is); (case l__law_mingled => k_is); (case c__law_mingled => k_is); (case k__law_mingled => k_is); (case a__law_number => k_is); (case l__law_number => k_is); (case c__law_number => k_is); (case k__law_number => k_is); (case a__law_form => k_is); (case l__law_form => k_is); (case c__law_form => k_is); (case k__law_form => k_is); (case a__law_value => k_is); (case l__law_value => k_is); (case c__law_value => k_is); (case k__law_value => k_is); (case a__law_idents => k_is); (case l__law_idents => k_is); (case c__law_idents => k_is); (case k__law_idents => k_is); (case a__law_row => k_is); (case l__law_row => k_is); (case c__law_row => k_is); (case k__law_row => k_is); (case a__law_any_key => k_is); (case l__law_any_key => k_is); (case c__law_any_key => k_is); (case k__law_any_key => k_is); (case a__law_changed => k_is); (case l__law_changed => k_is); (case c__law_changed => k_is); (case k__law_changed => k_is); (case a__law_rows_shown => k_is); (case l__law_rows_shown => k_is); (case c__law_rows_shown => k_is); (case k__law_rows_shown => k_is); (case a__law_known_by => k_is); (case l__law_known_by => k_is); (case c__law_known_by => k_is); (case k__law_known_by => k_is); (case a__law_shows => k_is); (case l__law_shows => k_is); (case c__law_shows => k_is); (case k__law_shows => k_is); (case a__law_agrees => k_is); (case l__law_agrees => k_is); (case c__law_agrees => k_is); (case k__law_agrees => k_is); (case a__law_not_read => k_is); (case l__law_not_read => k_is); (case c__law_not_read => k_is); (case k__law_not_read => k_is); (case a__law_not_set => k_is); (case l__law_not_set => k_is); (case c__law_not_set => k_is); (case k__law_not_set => k_is); (case a__law_step => k_is); (case l__law_step => k_is); (case c__law_step => k_is); (case k__law_step => k_is); (case a_law => k_is); (case l_law => k_is); (case c_law => k_is); (case k_law => k_is); (case aC_Key => k_is); (case pg_Key => k_is); (case hd_Key => k_is); (case po_Key => k_is); (case sa_Key => k_is); (case mk_Key => k_is); (case kc_Key => k_is); (case nf_Key => k_is); (case ih_Key => k_is); (case ig_Key => k_is); (case it_Key => k_is); (case io_Key => k_is); (case ik_Key => first | exact rfl | decide +kernel | k_is); (case nA_Key__parts => k_is); (case a_Key___init__ => k_is); (case i_Key___init__ => k_is); (case n_Key___init__ => k_is); (case l_Key___init__ => k_is); (case c_Key___init__ => k_is); (case k_Key___init__ => k_is); (case a_Key_parts => k_is); (case ge_Key_parts => k_is); (case ta_Key_parts => k_is); (case re1_Key_parts => k_is); (case l_Key_parts => k_is); (case c_Key_parts => k_is); (case k_Key_parts => k_is); (case a_Key___call__ => k_is); (case i_Key___call__ => k_is); (case n_Key___call__ => k_is); (case l_Key___call__ => k_is); (case c_Key___call__ => k_is); (case k_Key___call__ => k_is); (case a_Key___le__ => k_is); (case i_Key___le__ => k_is); (case n_Key___le__ => k_is); (case l_Key___le__ => k_is); (case c_Key___le__ => k_is); (case k_Key___le__ => k_is); (case a_Key_idents => k_is); (case i_Key_idents => k_is); (case n_Key_idents => k_is); (case l_Key_idents => k_is); (case c_Key_idents => k_is); (case k_Key_idents => k_is); (case aC_Known => k_is); (case pg_Known => k_is); (case hd_Known => k_is); (case po_Known => k_is); (case sa_Known => k_is); (case mk_Known => k_is); (case kc_Known => k_is); (case nf_Known => k_is); (case ih_Known => k_is); (case ig_Known => k_is); (case it_Known => k_is); (case io_Known => k_is); (case ik_Known => first | exact rfl | decide +kernel | k_is); (case ns_Known => k_is); (case nl_Known => k_is); (case nh_Known => k_is); (case nA_Known__idents => k_is); (case nA_Known__key => k_is); (case nA_Known__numbers => k_is); (case nA_Known_row => k_is); (case a_Known___init__ => k_is); (case i_Known___init__ => k_is); (case n_Known___init__ => k_is); (case l_Known___init__ => k_is); (case c_Known___init__ => k_is); (case k_Known___init__ => k_is); (case a_Known___getitem__ => k_is); (case i_Known___getitem__ => k_is); (case n_Known___getitem__ => k_is); (case l_Known___getitem__ => k_is); (case c_Known___getitem__ => k_is); (case k_Known___getitem__ => k_is); (case a_Known___setitem__ => k_is); (case i_Known___setitem__ => k_is); (case n_Known___setitem__ => k_is); (case l_Known___setitem__ => k_is); (case c_Known___setitem__ => k_is); (case k_Known___setitem__ => k_is); (case a_Known___iter__ => k_is); (case i_Known___iter__ => k_is); (case n_Known___iter__ => k_is); (case l_Known___iter__ => k_is); (case c_Known___iter__ => k_is); (case k_Known___iter__ => k_is); (case a_Known_show => k_is); (case i_Known_show => k_is); (case n_Known_show => k_is); (case l_Known_show => k_is); (case c_Known_show => k_is); (case k_Known_show => k_is); (case aC_Things => k_is); (case pg_Things => k_is); (case hd_Things => k_is); (case po_Things => k_is); (case sa_Things => k_is); (case mk_Things => k_is); (case kc_Things => k_is); (case nf_Things => k_is); (case ih_Things => k_is); (case ig_Things => k_is); (case it_Things => k_is); (case io_Things => k_is); (case ik_Things => first | exact rfl | decide +kernel | k_is); (case ns_Things => k_is); (case nl_Things => k_is); (case nh_Things => k_is); (case nA_Things__numbers => k_is); (case nA_Things_row => k_is); (case a_Things___init__ => k_is); (case i_Things___init__ => k_is); (case n_Things___init__ => k_is); (case l_Things___init__ => k_is); (case c_Things___init__ => k_is); (case k_Things___init__ => k_is); (case a_Things___getitem__ => k_is); (case i_Things___getitem__ => k_is); (case n_Things___getitem__ => k_is); (case l_Things___getitem__ => k_is); (case c_Things___getitem__ => k_is); (case k_Things___getitem__ => k_is); (case a_Things___setitem__ => k_is); (case i_Things___setitem__ => k_is); (case n_Things___setitem__ => k_is); (case l_Things___setitem__ => k_is); (case c_Things___setitem__ => k_is); (case k_Things___setitem__ => k_is); (case a_Things___iter__ => k_is); (case i_Things___iter__ => k_is); (case n_Things___iter__ => k_is); (case l_Things___iter__ => k_is); (case c_Things___iter__ => k_is); (case k_Things___iter__ => k_is); (case a_Things_show => k_is); (case i_Things_show => k_is); (case n_Things_show => k_is); (case l_Things_show => k_is); (case c_Things_show => k_is); (case k_Things_show => k_is); (case aC_ScreenError => k_is); (case hd_ScreenError => k_is); (case ty_ScreenError => k_is); (case be_ScreenError => k_is); (case vb_ScreenError => k_is); (case aC_NoName => k_is); (case hd_NoName => k_is); (case ty_NoName => k_is); (case be_NoName => k_is); (case vb_NoName => k_is); (case lx_NoName => k_is); (case rv_NoName => decide +kernel); (case sa_NoName => k_is); (case kc_NoName => k_is); (case ga_NoName => k_is); (case gg_NoName => k_is); (case ca_NoName => k_is); (case cg_NoName => k_is); (case ck_NoName => k_is); (case mo_NoName => k_is); (case iC_NoName => k_is); (case tI_NoName => k_is); (case l_NoName___init__ => k_is); (case c_NoName___init__ => k_is); (case k_NoName___init__ => k_is); (case nf_NoName_name => k_is); (case aC_BadRow => k_is); (case hd_BadRow => k_is); (case ty_BadRow => k_is); (case be_BadRow => k_is); (case vb_BadRow => k_is); (case lx_BadRow => k_is); (case rv_BadRow => decide +kernel); (case sa_BadRow => k_is); (case kc_BadRow => k_is); (case ga_BadRow => k_is); (case gg_BadRow => k_is); (case ca_BadRow => k_is); (case cg_BadRow => k_is); (case ck_BadRow => k_is); (case mo_BadRow => k_is); (case iC_BadRow => k_is); (case tI_BadRow => k_is); (case l_BadRow___init__ => k_is); (case c_BadRow___init__ => k_is); (case k_BadRow___init__ => k_is); (case nf_BadRow_row => k_is); (case aC_NoItem => k_is); (case hd_NoItem => k_is); (case ty_NoItem => k_is); (case be_NoItem => k_is); (case vb_NoItem => k_is); (case lx_NoItem => k_is); (case rv_NoItem => decide +kernel); (case sa_NoItem => k_is); (case kc_NoItem => k_is); (case ga_NoItem => k_is); (case gg_NoItem => k_is); (case ca_NoItem => k_is); (case cg_NoItem => k_is); (case ck_NoItem => k_is); (case mo_NoItem => k_is); (case iC_NoItem => k_is); (case tI_NoItem => k_is); (case l_NoItem___init__ => k_is); (case c_NoItem___init__ => k_is); (case k_NoItem___init__ => k_is); (case nf_NoItem_item => k_is); (case ne_NoName_ScreenError => decide +kernel); (case s_NoName_ScreenError => k_is); (case ne_NoName_BadRow => decide +kernel); (case s_NoName_BadRow => k_is); (case ne_NoName_NoItem => decide +kernel); (case s_NoName_NoItem => k_is); (case ne_BadRow_ScreenError => decide +kernel); (case s_BadRow_ScreenError => k_is); (case ne_BadRow_NoName => decide +kernel); (case s_BadRow_NoName => k_is); (case ne_BadRow_NoItem => decide +kernel); (case s_BadRow_NoItem => k_is); (case ne_NoItem_ScreenError => decide +kernel); (case s_NoItem_ScreenError => k_is); (case ne_NoItem_NoName => decide +kernel); (case s_NoItem_NoName => k_is); (case ne_NoItem_BadRow => decide +kernel); (case s_NoItem_BadRow => k_is); (case z_MOST_LETTERS => k_is); (case z_MOST_LEVELS => k_is); (case z_MOST_ITEMS => k_is); (case z_ValueError => k_is); (case z_abs => k_is); (case z_all => k_is); (case z_bool => k_is); (case z_enumerate => k_is); (case z_int => k_is); (case z_isinstance => k_is); (case z_iter => k_is); (case z_len => k_is); (case z_list => k_is); (case z_range => k_is); (case z_set => k_is); (case z_str => k_is); (case z_tuple => k_is); (case z_zip => k_is); (case uM => k_is); (case lM => k_is); (case kM => k_keys); (case oM => decide); (case i1 => k_is); (case i2 => k_is); (case i3 => k_is); (case i4 => k_is); (case i5 => k_is)

