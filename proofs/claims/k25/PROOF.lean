import PyProof.Rows.All
import Wide.All
import OpenK.AllK
import Wide.FinOn
import PyProof.Rows.IntBool
import HandS.ForMost
import HandS.IsInst
import HandS.TupAny
import HandS.Conv
import HandS.More
import HandS.Style
import HandS.Property
import HandS.Star
import HandS.DictComp
import HandS.RaiseMore
import HandS.SetFor
import HandS.SlotsOwn
import HandS.Codes
import KE.GoesEnum
import HandS.Deep
import HandS.Strs
import HandS.ReCall
import HandS.Zip
import HandS.Flow
import HandS.ForExc
import HandS.ExcInit
import HandS.ExcField
import HandS.ExcIs
import KE.KExcIs
import HandS.OwnIter
import HandS.IterNext
import HandS.HotCalls
import HandS.ExcInitHot
import HandS.WordsExc
import PyProof.ReprRoads
import PyProof.ReprBulk
import PyProof.P3Eq
import PySem.Challenge.RW_drawnanew_k25_row_refusals
set_option Elab.async false
set_option linter.all false
set_option maxRecDepth 100000
set_option maxHeartbeats 4000000
namespace D
open PySem PySem.Spec PyProof.Rows L2

/-! ### rules that the layer lacks -/
def bI (b : Bool) : Int := if b = true then 1 else 0
theorem op_mul_ib {X : Cx} : OpR X (binaryOp .Mult) (fun x y H Q => ∃ i k, x = .int i ∧ y = .bl k ∧ Q (.int (i * bI k)) H) := by
  intro pins s σ H x y v u Q I rx ry h
  obtain ⟨i, k, rfl, rfl, q⟩ := h
  obtain ⟨t, rfl⟩ := rx
  cases ry
  exact PySem.IntBool.mul_int_bool ⟨.int (i * bI k), H, I.tok _, ⟨_, rfl⟩, q⟩

/-! ### heaps: M the addresses that may be written -/
abbrev Ms := Addr → Prop
def Sx (M : Ms) (H H' : Hp) : Prop := ∀ a o, ¬ M a → H a = some o → H' a = some o
def one (b : Addr) : Ms := fun a => a = b
def also (M : Ms) (b : Addr) : Ms := fun a => M a ∨ a = b
/-- what may be written stands -/
def Mk (M : Ms) (H : Hp) : Prop := ∀ a, M a → H a ≠ none
theorem Sx.refl {M : Ms} {H : Hp} : Sx M H H := fun _ _ _ h => h
theorem Sx.trans {M : Ms} {H H1 H2 : Hp} (a : Sx M H H1) (b : Sx M H1 H2) : Sx M H H2 := fun c o n h => b c o n (a c o n h)
theorem Sx.le {M N : Ms} {H H' : Hp} (s : Sx M H H') (h : ∀ a, M a → N a) : Sx N H H' := fun a o n e => s a o (fun m => n (h a m)) e
theorem Sx.same {M : Ms} {H H' : Hp} (s : Same H H') : Sx M H H' := fun a o _ e => s a o e
theorem Sx.new {M : Ms} {H : Hp} {p : Addr} {o : HO} (h : H p = none) : Sx M H (upd H p o) := fun a u _ e => by
  rw [upd_ne (ne_of_none e h)]
  exact e
theorem Sx.put {M : Ms} {H : Hp} {p : Addr} {o : HO} (h : M p) : Sx M H (upd H p o) := fun a u n e => by
  rw [upd_ne (fun z => n (by rw [z]; exact h))]
  exact e
theorem same_new {H : Hp} {p : Addr} {o : HO} (h : H p = none) : Same H (upd H p o) := fun a u e => by
  rw [upd_ne (ne_of_none e h)]
  exact e
theorem Mk.step {M : Ms} {H H' : Hp} (m : Mk M H) (h : ∀ a, H a ≠ none → H' a ≠ none) : Mk M H' := fun a z => h a (m a z)
theorem there_new {H : Hp} {p a : Addr} {o : HO} (h : H a ≠ none) : upd H p o a ≠ none := by
  by_cases e : a = p
  · subst e
    rw [upd_same]
    exact fun z => nomatch z
  · rw [upd_ne e]
    exact h
/-- nothing goes -/
def Gr (H H' : Hp) : Prop := ∀ a, H a ≠ none → H' a ≠ none
theorem Gr.refl {H : Hp} : Gr H H := fun _ h => h
theorem Gr.trans {H H1 H2 : Hp} (a : Gr H H1) (b : Gr H1 H2) : Gr H H2 := fun c h => b c (a c h)
theorem Gr.upd {H : Hp} {p : Addr} {o : HO} : Gr H (upd H p o) := fun _ h => there_new h
theorem Gr.same {H H' : Hp} (s : Same H H') : Gr H H' := fun a h => by
  cases e : H a with
  | none => exact absurd e h
  | some o =>
    rw [s a o e]
    exact fun z => nomatch z
theorem Mk.gr {M : Ms} {H H' : Hp} (m : Mk M H) (g : Gr H H') : Mk M H' := fun a z => g a (m a z)
theorem Mk.out {M : Ms} {H : Hp} {p : Addr} (m : Mk M H) (h : H p = none) : ¬ M p := fun z => m p z h
theorem Mk.also {M : Ms} {H : Hp} {p : Addr} (m : Mk M H) (h : H p ≠ none) : Mk (also M p) H := fun a z => by
  rcases z with z | rfl
  · exact m a z
  · exact h
theorem ne_none {H : Hp} {p : Addr} {o : HO} (h : H p = some o) : H p ≠ none := by
  rw [h]
  exact fun z => nomatch z
theorem upd_there {H : Hp} {p : Addr} {o : HO} : upd H p o p ≠ none := by
  rw [upd_same]
  exact fun z => nomatch z

/-! ### lists and tuples that are read -/
theorem sx_rd {M : Ms} {H H' : Hp} {a : Addr} {u : HO} (s : Sx M H H') (n : ¬ M a) (h : Rd H a u) : Rd H' a u := by
  rcases h with h | ⟨o, h⟩
  · exact .inl (s a _ n h)
  · exact .inr ⟨o, s a _ n h⟩
theorem sx_l {K : PySem.W.Frag} {M : Ms} {H H' : Hp} {a : Addr} {xs : List V} (s : Sx M H H') (n : ¬ M a) (h : SqL K H a xs) : SqL K H' a xs := by
  rcases h with h | h
  · exact .inl (sx_rd s n h)
  · exact .inr h
theorem sx_t {K : PySem.W.Frag} {M : Ms} {H H' : Hp} {a : Addr} {xs : List V} (s : Sx M H H') (n : ¬ M a) (h : SqT K H a xs) : SqT K H' a xs := by
  rcases h with h | h
  · exact .inl (sx_rd s n h)
  · exact .inr h

/-! ### data -/
/-- a tuple that stands -/
inductive RdT (H : Hp) (a : Addr) (xs : List V) : Prop
  | inl (h : H a = some (.tup xs))
theorem RdT.rd {H : Hp} {a : Addr} {xs : List V} (h : RdT H a xs) : Rd H a (.tup xs) := h.casesOn fun h => .inl h
theorem RdT.at {H : Hp} {a : Addr} {xs : List V} (h : RdT H a xs) : H a = some (.tup xs) := h.casesOn fun h => h
theorem sx_rt {M : Ms} {H H' : Hp} {a : Addr} {u : List V} (s : Sx M H H') (n : ¬ M a) (h : RdT H a u) : RdT H' a u := .inl (s a _ n h.at)
mutual
inductive Rp (M : Ms) (H : Hp) : V → PyData → Prop
  | non : Rp M H .non .none
  | bl (b : Bool) : Rp M H (.bl b) (.bool b)
  | int (i : Int) : Rp M H (.int i) (.int i)
  | str (x : Str) : Rp M H (.str x) (.str x)
  | lst {a : Addr} {xs : List V} {ds : List PyData} : ¬ M a → Rd H a (.lst xs) → RpAll M H xs ds → Rp M H (.ref a) (.list ds)
  | tup {a : Addr} {xs : List V} {ds : List PyData} : ¬ M a → RdT H a xs → RpAll M H xs ds → Rp M H (.ref a) (.tuple ds)
inductive RpAll (M : Ms) (H : Hp) : List V → List PyData → Prop
  | nil : RpAll M H [] []
  | cons {v : V} {vs : List V} {d : PyData} {ds : List PyData} : Rp M H v d → RpAll M H vs ds → RpAll M H (v :: vs) (d :: ds)
end
section
variable {K : PySem.W.Frag} {M N : Ms} {H H' : Hp}
mutual
theorem Rp.imp (f : ∀ a u, ¬ M a → Rd H a u → ¬ N a) (fl : ∀ a u, ¬ M a → Rd H a u → Rd H' a u) (ft : ∀ a xs, ¬ M a → RdT H a xs → RdT H' a xs) : ∀ (d : PyData) (v : V), Rp M H v d → Rp N H' v d
  | .none, _, h => by cases h; exact .non
  | .bool b, _, h => by cases h; exact .bl b
  | .int i, _, h => by cases h; exact .int i
  | .str x, _, h => by cases h; exact .str x
  | .list ds, _, h => by
    cases h with
    | lst n s r => exact .lst (f _ _ n s) (fl _ _ n s) (RpAll.imp f fl ft ds _ r)
  | .tuple ds, _, h => by
    cases h with
    | tup n s r => exact .tup (f _ _ n s.rd) (ft _ _ n s) (RpAll.imp f fl ft ds _ r)
  | .dict _, _, h => by cases h
theorem RpAll.imp (f : ∀ a u, ¬ M a → Rd H a u → ¬ N a) (fl : ∀ a u, ¬ M a → Rd H a u → Rd H' a u) (ft : ∀ a xs, ¬ M a → RdT H a xs → RdT H' a xs) : ∀ (ds : List PyData) (vs : List V), RpAll M H vs ds → RpAll N H' vs ds
  | [], _, h => by cases h; exact .nil
  | d :: ds, _, h => by
    cases h with
    | cons h1 h2 => exact .cons (Rp.imp f fl ft d _ h1) (RpAll.imp f fl ft ds _ h2)
end
theorem Rp.sx {v : V} {d : PyData} (s : Sx M H H') (h : Rp M H v d) : Rp M H' v d := Rp.imp (fun _ _ n _ => n) (fun _ _ n q => sx_rd s n q) (fun _ _ n q => sx_rt s n q) d v h
theorem RpAll.sx {vs : List V} {ds : List PyData} (s : Sx M H H') (h : RpAll M H vs ds) : RpAll M H' vs ds := RpAll.imp (fun _ _ n _ => n) (fun _ _ n q => sx_rd s n q) (fun _ _ n q => sx_rt s n q) ds vs h
/-- fewer that may be written -/
theorem Rp.less {v : V} {d : PyData} (f : ∀ a, N a → M a) (h : Rp M H v d) : Rp N H v d := Rp.imp (fun a _ n _ m => n (f a m)) (fun _ _ _ q => q) (fun _ _ _ q => q) d v h
theorem RpAll.less {vs : List V} {ds : List PyData} (f : ∀ a, N a → M a) (h : RpAll M H vs ds) : RpAll N H vs ds := RpAll.imp (fun a _ n _ m => n (f a m)) (fun _ _ _ q => q) (fun _ _ _ q => q) ds vs h

/-- an address that no datum reads: nothing stands there -/
theorem sql_kept {a p : Addr} {xs : List V} {o : HO} (h : SqL K H a xs) (n : H p = none) : SqL K (upd H p o) a xs := sx_l (M := fun _ => False) (Sx.new n) (fun z => z) h
theorem sqt_kept {a p : Addr} {xs : List V} {o : HO} (h : SqT K H a xs) (n : H p = none) : SqT K (upd H p o) a xs := sx_t (M := fun _ => False) (Sx.new n) (fun z => z) h

mutual
theorem Rp.dp : ∀ (d : PyData) (v : V), Rp M H v d → Dp K H v d
  | .none, _, h => by cases h; exact .non
  | .bool b, _, h => by cases h; exact .bl b
  | .int i, _, h => by cases h; exact .int i
  | .str x, _, h => by cases h; exact .str x
  | .list ds, _, h => by
    cases h with
    | lst n s r => exact .lst (.inl s) (RpAll.dp ds _ r)
  | .tuple ds, _, h => by
    cases h with
    | tup n s r => exact .tup (.inl s.rd) (RpAll.dp ds _ r)
  | .dict _, _, h => by cases h
theorem RpAll.dp : ∀ (ds : List PyData) (vs : List V), RpAll M H vs ds → DpAll K H vs ds
  | [], _, h => by cases h; exact .nil
  | d :: ds, _, h => by
    cases h with
    | cons h1 h2 => exact .cons (Rp.dp d _ h1) (RpAll.dp ds _ h2)
end
theorem RpAll.length : ∀ {ds : List PyData} {vs : List V}, RpAll M H vs ds → vs.length = ds.length
  | [], _, h => by cases h; rfl
  | d :: ds, _, h => by
    cases h with
    | cons _ h2 =>
      rw [List.length_cons, List.length_cons, RpAll.length h2]
theorem RpAll.get : ∀ {ds : List PyData} {vs : List V} {i : Nat} {v : V}, RpAll M H vs ds → vs[i]? = some v → ∃ d, ds[i]? = some d ∧ Rp M H v d
  | [], _, i, v, h, e => by cases h; simp at e
  | d :: ds, _, 0, v, h, e => by
    cases h with
    | cons h1 _ =>
      have e1 := Option.some.inj e
      subst e1
      exact ⟨d, rfl, h1⟩
  | d :: ds, _, i + 1, v, h, e => by
    cases h with
    | cons _ h2 => exact RpAll.get (i := i) h2 e
theorem RpAll.getD : ∀ {ds : List PyData} {vs : List V} {i : Nat} {d : PyData}, RpAll M H vs ds → ds[i]? = some d → ∃ v, vs[i]? = some v ∧ Rp M H v d
  | [], _, i, v, h, e => by simp at e
  | d :: ds, _, 0, v, h, e => by
    cases h with
    | cons h1 _ =>
      have e1 := Option.some.inj e
      subst e1
      exact ⟨_, rfl, h1⟩
  | d :: ds, _, i + 1, v, h, e => by
    cases h with
    | cons _ h2 => exact RpAll.getD (i := i) h2 e
theorem RpAll.append : ∀ {ds es : List PyData} {vs us : List V}, RpAll M H vs ds → RpAll M H us es → RpAll M H (vs ++ us) (ds ++ es)
  | [], _, _, _, h, g => by cases h; exact g
  | d :: ds, _, _, _, h, g => by
    cases h with
    | cons h1 h2 => exact .cons h1 (RpAll.append h2 g)
theorem RpAll.take : ∀ (n : Nat) {ds : List PyData} {vs : List V}, RpAll M H vs ds → RpAll M H (vs.take n) (ds.take n)
  | 0, _, _, _ => .nil
  | n + 1, [], _, h => by cases h; exact .nil
  | n + 1, d :: ds, _, h => by
    cases h with
    | cons h1 h2 => exact .cons h1 (RpAll.take n h2)
theorem RpAll.drop : ∀ (n : Nat) {ds : List PyData} {vs : List V}, RpAll M H vs ds → RpAll M H (vs.drop n) (ds.drop n)
  | 0, _, _, h => h
  | n + 1, [], _, h => by cases h; exact .nil
  | n + 1, d :: ds, _, h => by
    cases h with
    | cons h1 h2 => exact RpAll.drop n h2
theorem RpAll.one {v : V} {d : PyData} (h : Rp M H v d) : RpAll M H [v] [d] := .cons h .nil
theorem RpAll.eraseIdx : ∀ (n : Nat) {ds : List PyData} {vs : List V}, RpAll M H vs ds → RpAll M H (vs.eraseIdx n) (ds.eraseIdx n)
  | _, [], _, h => by cases h; exact .nil
  | 0, d :: ds, _, h => by
    cases h with
    | cons h1 h2 => exact h2
  | n + 1, d :: ds, _, h => by
    cases h with
    | cons h1 h2 => exact .cons h1 (RpAll.eraseIdx n h2)
theorem RpAll.ints : ∀ (ns : List Int), RpAll M H (ns.map V.int) (ns.map PyData.int)
  | [] => .nil
  | n :: r => .cons (.int n) (RpAll.ints r)
theorem RpAll.ofInts : ∀ {ns : List Int} {vs : List V}, RpAll M H vs (ns.map PyData.int) → vs = ns.map V.int
  | [], _, h => by cases h; rfl
  | n :: r, _, h => by
    cases h with
    | cons h1 h2 =>
      cases h1
      rw [RpAll.ofInts h2]
      rfl
end

/-- a fresh address may be written from now on -/
theorem rd_ne {H : Hp} {a p : Addr} {u : HO} (h : Rd H a u) (n : H p = none) : a ≠ p := fun e => by
  subst e
  rcases h with h | ⟨o, h⟩ <;> rw [n] at h <;> cases h
theorem Rp.fresh {M : Ms} {H : Hp} {p : Addr} (hp : H p = none) : ∀ {d : PyData} {v : V}, Rp M H v d → Rp (also M p) H v d := fun {d v} h => Rp.imp (fun a u n r z => z.elim n fun e => rd_ne r hp e) (fun _ _ _ q => q) (fun _ _ _ q => q) d v h
theorem RpAll.fresh {M : Ms} {H : Hp} {p : Addr} (hp : H p = none) {ds : List PyData} {vs : List V} (h : RpAll M H vs ds) : RpAll (also M p) H vs ds := RpAll.imp (fun a u n r z => z.elim n fun e => rd_ne r hp e) (fun _ _ _ q => q) (fun _ _ _ q => q) ds vs h
theorem also_le {M : Ms} {p : Addr} : ∀ a, M a → also M p a := fun _ h => .inl h

/-! ### the bag of a script's numbers -/
structure Bag (K : PySem.W.Frag) (M : Ms) (H : Hp) (b : Addr) : Prop where
  w : M b
  h : ∃ (n : Addr) (ns : List Int) (p r t s : Int), H b = some (.lst [.ref n, .int p, .int r, .int t, .int s]) ∧ ¬ M n ∧ Rd H n (.lst (ns.map V.int)) ∧ 0 ≤ p ∧ 0 ≤ r
/-- only the object at b has changed -/
def At (b : Addr) (H H' : Hp) : Prop := ∀ a, a ≠ b → H' a = H a
theorem At.upd {b : Addr} {H : Hp} {o : HO} : At b H (upd H b o) := fun _ n => upd_ne n
theorem At.sx {b : Addr} {H H' : Hp} (h : At b H H') : Sx (one b) H H' := fun a o n e => (h a n).trans e
theorem Bag.there {K : PySem.W.Frag} {M : Ms} {H : Hp} {b : Addr} (h : Bag K M H b) : H b ≠ none := by
  obtain ⟨_, n, ns, p, r, t, s, e, _⟩ := h
  exact ne_none e
/-- other things are written, new ones made -/
theorem Bag.keep {K : PySem.W.Frag} {M N : Ms} {H H' : Hp} {b : Addr} (h : Bag K M H b) (s : Sx N H H') (nb : ¬ N b) (le : ∀ a, N a → M a) : Bag K M H' b := by
  obtain ⟨w, n, ns, p, r, t, sd, e, hn, rd, q⟩ := h
  exact ⟨w, n, ns, p, r, t, sd, s _ _ nb e, hn, sx_rd s (fun z => hn (le _ z)) rd, q⟩
theorem Bag.more {K : PySem.W.Frag} {M : Ms} {H : Hp} {b p : Addr} (h : Bag K M H b) (hp : H p = none) : Bag K (also M p) H b := by
  obtain ⟨w, n, ns, q, r, t, sd, e, hn, rd, z⟩ := h
  exact ⟨.inl w, n, ns, q, r, t, sd, e, fun m => m.elim hn fun e => rd_ne rd hp e, rd, z⟩
theorem Bag.less {K : PySem.W.Frag} {M N : Ms} {H : Hp} {b : Addr} (h : Bag K M H b) (w : N b) (f : ∀ a, N a → M a) : Bag K N H b := by
  obtain ⟨_, n, ns, q, r, t, sd, e, hn, rd, z⟩ := h
  exact ⟨w, n, ns, q, r, t, sd, e, fun m => hn (f _ m), rd, z⟩
theorem one_le {M : Ms} {b : Addr} (w : M b) : ∀ a, one b a → M a := fun a e => by
  have e' : a = b := e
  rw [e']
  exact w
/-- a draw: behind it the bag stands, all else too -/
def Dr (K : PySem.W.Frag) (M : Ms) (b : Addr) (H : Hp) (R : PyData → Prop) (Q : VK) : Prop := ∀ v H' d, Sx (one b) H H' → Gr H H' → Bag K M H' b → Rp M H' v d → R d → Q v H'
/-- a def that writes nothing -/
def Pu (M : Ms) (H : Hp) (R : PyData → Prop) (Q : VK) : Prop := ∀ v H' d, Same H H' → Rp M H' v d → R d → Q v H'

/-! ### loops that the layer has no short rule for -/
theorem for_enum {K : PySem.W.Frag} {a : Addr} {xs : List V} {g : TG} {tb : TS} {D : Ends} {σ : L2.St} {H : Hp} (Pv : Nat → L2.St → Hp → Prop) (h0 : Pv 0 σ H) (hl : ∀ i σ H, i ≤ xs.length → Pv i σ H → SqL K H a xs)
    (hs : ∀ i x T σ H, xs[i]? = some x → H T = none → Pv i σ H → g (.ref T) σ (upd H T (.tup [.int (i : Nat), x])) fun σ2 H2 => tb { D with nx := Pv (i + 1), ct := Pv (i + 1), bk := D.nx } σ2 H2) (hd : ∀ σ H, Pv xs.length σ H → D.nx σ H) :
    ∃ W : Nat → Nat → L2.St → Hp → Prop, (∃ m, W 0 m σ H) ∧ ∀ i m σ H, W i m σ H →
      ((Ite K a).stop i H ∧ D.nx σ H) ∨ ((Ite K a).go i H ∧ ∃ N : L2.St → Hp → Prop, (∀ σ' H', N σ' H' → ∃ m', m' < m ∧ W (i + 1) m' σ' H') ∧ ∀ x H', (Ite K a).yld i H x H' → g x σ H' fun σ2 H2 => tb { D with nx := N, ct := N, bk := D.nx } σ2 H2) := by
  refine ⟨fun i m σ H => m = xs.length - i ∧ i ≤ xs.length ∧ Pv i σ H, ⟨xs.length, by simp, Nat.zero_le _, h0⟩, ?_⟩
  rintro i m σ H ⟨rfl, hi, p⟩
  have q := hl i σ H hi p
  by_cases hlt : i < xs.length
  · refine .inr ⟨⟨xs, xs[i], q, by simp [hlt]⟩, Pv (i + 1), fun σ' H' p' => ⟨xs.length - (i + 1), by omega, rfl, hlt, p'⟩, fun x H' y => ?_⟩
    obtain ⟨T, z, rfl, hT, rfl, hz⟩ := y
    exact hs i z T σ _ (hz xs q) hT p
  · have e : i = xs.length := by omega
    subst e
    exact .inl ⟨⟨xs, q, Nat.le_refl _⟩, hd σ H p⟩

theorem seqIx {j n : Nat} (h : j < n) : seqIndex? (j : Int) n = some j := by
  unfold seqIndex?
  have h1 : ¬ ((j : Int) < 0) := by omega
  have h2 : (0 : Int) ≤ (j : Int) := by omega
  have h3 : (j : Int) < (n : Int) := by omega
  simp only [if_neg h1, decide_eq_true h2, decide_eq_true h3, Bool.and_self, if_true, Int.toNat_natCast]
theorem small1000000 {n : Nat} (h : n ≤ 1000000) : n < sizeLine := Nat.lt_of_le_of_lt h (by decide)
theorem At.gr {b : Addr} {H H' : Hp} (h : At b H H') (hb : H' b ≠ none) : Gr H H' := fun a n => by
  by_cases e : a = b
  · rw [e]
    exact hb
  · rw [h a e]
    exact n

/-- what did not stand needs no leave -/
theorem Sx.cut {M : Ms} {H H' : Hp} {p : Addr} (s : Sx (also M p) H H') (n : H p = none) : Sx M H H' := fun a o m e => s a o (fun z => z.elim m fun z => by
  rw [z, n] at e
  cases e) e

theorem str_len (x y : Str) : (x ++ y).length = x.length + y.length := by
  show (x.cps ++ y.cps).size = _
  rw [Array.size_append]
  rfl

theorem log2_10 {v : Int} (h0 : 0 ≤ v) (h1 : v < 10) : v.natAbs.log2 < 1920 := Nat.lt_of_le_of_lt (Nat.log2_le_self _) (by omega)
theorem dig_len {v : Int} (h0 : 0 ≤ v) (h1 : v < 10) : (Str.ofString (toString v)).length = 1 := by
  have h : v = 0 ∨ v = 1 ∨ v = 2 ∨ v = 3 ∨ v = 4 ∨ v = 5 ∨ v = 6 ∨ v = 7 ∨ v = 8 ∨ v = 9 := by omega
  rcases h with rfl | rfl | rfl | rfl | rfl | rfl | rfl | rfl | rfl | rfl <;> decide +kernel
def isLab : V → Bool
  | .str z => decide (z.length ≤ 30)
  | _ => false
theorem lab_all (xs : List V) (h : xs.all isLab = true) : ∀ v ∈ xs, ∃ z : Str, v = V.str z ∧ z.length ≤ 30 := fun v hv => by
  have h1 := List.all_eq_true.mp h v hv
  cases v with
  | str z => exact ⟨z, rfl, of_decide_eq_true h1⟩
  | _ => cases h1

theorem sz2 {x y : V} : [x, y].length ≤ sizeLine := by show 2 ≤ sizeLine; decide
/-! ### sizes of nodes -/
def mx (ns : List Int) : Int := ns.foldl (fun a b => if a < b then b else a) 0
theorem foldmx : ∀ (ns : List Int) (a : Int), a ≤ ns.foldl (fun a b => if a < b then b else a) a ∧ (∀ n ∈ ns, n ≤ ns.foldl (fun a b => if a < b then b else a) a) ∧ (ns.foldl (fun a b => if a < b then b else a) a = a ∨ ns.foldl (fun a b => if a < b then b else a) a ∈ ns)
  | [], a => ⟨Int.le_refl _, (fun _ h => nomatch h), .inl rfl⟩
  | n :: r, a => by
    have ih := foldmx r (if a < n then n else a)
    simp only [List.foldl_cons]
    obtain ⟨h1, h2, h3⟩ := ih
    refine ⟨?_, fun m hm => ?_, ?_⟩
    · split at h1 <;> split <;> omega
    · rcases List.mem_cons.mp hm with rfl | hm
      · split at h1 <;> split <;> omega
      · exact h2 m hm
    · rcases h3 with h3 | h3
      · by_cases c : a < n
        · right
          rw [if_pos c] at h3 ⊢
          rw [h3]
          exact List.mem_cons_self
        · left
          rw [if_neg c] at h3 ⊢
          exact h3
      · exact .inr (List.mem_cons_of_mem _ h3)
theorem mx_of {ns : List Int} {m : Int} (h0 : ∀ n ∈ ns, 0 ≤ n) (hm : m ∈ ns) (hle : ∀ y, y ∈ ns → y ≤ m) : m = mx ns := by
  obtain ⟨h1, h2, h3⟩ := foldmx ns 0
  have a := h2 m hm
  have b := h0 m hm
  unfold mx
  rcases h3 with h3 | h3
  · omega
  · have c := hle _ h3
    omega
theorem mx_take {ns : List Int} {i : Nat} {z : Int} (h : ns[i]? = some z) : mx (ns.take (i + 1)) = if mx (ns.take i) < z then z else mx (ns.take i) := by
  unfold mx
  rw [List.take_add_one, h, List.foldl_append]
  rfl
def sRow : Str := "row"
def sCol : Str := "col"
def szf (z : Str) (ps : List (Int × Int)) : Int × Int :=
  if ps = [] then (if z = sRow ∨ z = sCol then (0, 0) else ((z.length : Int), 1))
  else if z = sRow then ((ps.map (·.1)).sum, mx (ps.map (·.2))) else (mx (ps.map (·.1)), (ps.map (·.2)).sum)
/-- pairs -/
def pD (p : Int × Int) : PyData := .tuple [.int p.1, .int p.2]
theorem Rp.pair {M : Ms} {H : Hp} {v : V} {p : Int × Int} (h : Rp M H v (pD p)) : ∃ t, v = .ref t ∧ Rd H t (.tup [.int p.1, .int p.2]) := by
  cases h with
  | @tup a xs _ n s r =>
    cases r with
    | cons h1 h2 =>
      cases h2 with
      | cons h3 h4 =>
        cases h1
        cases h3
        cases h4
        exact ⟨a, rfl, s.rd⟩
theorem RpAll.pair {M : Ms} {H : Hp} {vs : List V} {ps : List (Int × Int)} {i : Nat} {v : V} (h : RpAll M H vs (ps.map pD)) (hv : vs[i]? = some v) : ∃ p t, ps[i]? = some p ∧ v = .ref t ∧ Rd H t (.tup [.int p.1, .int p.2]) := by
  obtain ⟨d, hd, hr⟩ := h.get hv
  rw [List.getElem?_map] at hd
  obtain ⟨p, hp, rfl⟩ := Option.map_eq_some_iff.mp hd
  obtain ⟨t, e, r⟩ := hr.pair
  exact ⟨p, t, hp, e, r⟩
theorem same_rd {H H' : Hp} {a : Addr} {u : HO} (s : Same H H') (h : Rd H a u) : Rd H' a u := sx_rd (M := fun _ => False) (Sx.same s) (fun z => z) h

/-! ### the layer's rules with the written part named, for comprehensions -/
section
variable {X : Cx} {K : PySem.W.Frag}
theorem ix_listK (h : X.K = K) : IxR X (rIxL K) := by subst h; exact ix_list
theorem ix_tupK (h : X.K = K) : IxR X (rIxT K) := by subst h; exact ix_tup
theorem sl_listK (h : X.K = K) : SlR X (rSlL K) := by subst h; exact sl_list
theorem sl_tupK (h : X.K = K) : SlR X (rSlA K) := by subst h; exact sl_tupA
theorem op_in_seqK (h : X.K = K) : OpR X (compareOp .In) (rIn K false) := by subst h; exact op_in_seq
theorem op_notIn_seqK (h : X.K = K) : OpR X (compareOp .NotIn) (rIn K true) := by subst h; exact op_notIn_seq
theorem op_catAK (h : X.K = K) : OpR X (binaryOp .Add) (rCatA K) := by subst h; exact op_catA
theorem op_eqDK (h : X.K = K) (hu : X.A.units + 64 < cLine) : OpR X (compareOp .Eq) (rEqD K) := by subst h; exact op_eqD hu
theorem op_neDK (h : X.K = K) (hu : X.A.units + 64 < cLine) : OpR X (compareOp .NotEq) (rNeD K) := by subst h; exact op_neD hu
def rLenS (K : PySem.W.Frag) : List V → Hp → VK → Prop := fun xs H Q => ∃ p ys, xs = [.ref p] ∧ (SqL K H p ys ∨ SqT K H p ys) ∧ Q (.int ys.length) H
theorem call_lenK (h : X.K = K) : CallR X (.builtin "len") (rLenS K) := by subst h; exact call_len_seq
def rListS (K : PySem.W.Frag) : List V → Hp → VK → Prop := fun xs H Q => ∃ p ys, xs = [.ref p] ∧ (SqL K H p ys ∨ SqT K H p ys) ∧ ∀ l, H l = none → Q (.ref l) (upd H l (.lst ys))
theorem call_listK (h : X.K = K) : CallR X (.type "list") (rListS K) := by subst h; exact call_list_of
def rTupS (K : PySem.W.Frag) : List V → Hp → VK → Prop := fun xs H Q => ∃ p ys, xs = [.ref p] ∧ ((SqL K H p ys ∧ ∀ l, H l = none → Q (.ref l) (upd H l (.tup ys))) ∨ (SqT K H p ys ∧ Q (.ref p) H))
theorem call_tupleK (h : X.K = K) : CallR X (.type "tuple") (rTupS K) := by subst h; exact call_tuple_of
theorem cr_sumK (h : X.K = K) (hc : X.calm = true) : CallR X (.builtin "sum") (rSum K) := by subst h; exact cr_sum hc
theorem cr_maxK (h : X.K = K) (hc : X.calm = true) : CallR X (.builtin "max") (rMax K) := by subst h; exact cr_max hc
theorem cr_minK (h : X.K = K) (hc : X.calm = true) : CallR X (.builtin "min") (rMin K) := by subst h; exact cr_min hc
theorem cr_anyK (h : X.K = K) (hc : X.calm = true) : CallR X (.builtin "any") (rAny K) := by subst h; exact cr_any hc
theorem cr_allK (h : X.K = K) (hc : X.calm = true) : CallR X (.builtin "all") (rAll K) := by subst h; exact cr_all hc
theorem call_isi1K (h : X.K = K) : CallR X (.builtin "isinstance") (rIsi K) := by subst h; exact call_isi
theorem call_isiTK (h : X.K = K) : CallR X (.builtin "isinstance") (rIsiT K) := by subst h; exact call_isiT
def tTruth (K : PySem.W.Frag) (ta : TE) : TT := fun σ H Q => ta σ H fun x H' => ∃ k, TruV K x H' k ∧ Q k H'
theorem pt_truthK {a : Expr} {ta : TE} (h : X.K = K) (ha : PE X a ta) (he : ∀ whole, isTrue a X.env whole = (do let v ← whole; standAt a.pos; holding [v] (truthy v))) : PT X a (tTruth K ta) := by subst h; exact pt_truth ha he
theorem pe_fldK {e : Expr} {f : Str} {pos : Pos} {ta : TE} (h : X.K = K) (he : PE X e ta) (hb : attributeBase e f X.env (eval e X.env) = eval e X.env) : PE X (.Attribute e f pos) (tFld K ta f) := by subst h; exact pe_fld he hb
theorem pi_listK {tg l : Expr} {tl : TE} (h : X.K = K) (hl : PE X l tl) : PI X tg l (iList K tl) := by subst h; exact pi_list hl
theorem pi_tupK {tg l : Expr} {tl : TE} (h : X.K = K) (hl : PE X l tl) : PI X tg l (iTup K tl) := by subst h; exact pi_tup hl
theorem pg_tupK {es : List Expr} {k : Nat} {t : TGs} {n : Nat} {pos : Pos} (hK : X.K = K) (hc : X.calm = true) (h : PGs X es t)
    (hn : (assignEach es X.env).length = n := by rfl) (hst : (assignEach es X.env).findIdx? (·.1) = none := by rfl) : PG X (.Tuple es k pos) (gTup K n t) := by subst hK; exact pg_tup hc h hn hst
theorem pi_enumK {e : Expr} {ta : TA} {p pos tpos : Pos} {elts : List Expr} {kk : Nat} (hK : X.K = K) (hg : Gl X "enumerate") (hm : X.mg "enumerate" = none) (ha : PA X [e] ta) (hs : starEach [e] X.env = [(false, eval e X.env)] := by rfl) :
    PI X (.Tuple elts kk tpos) (.Call (.Name "enumerate" p) [e] [] pos) (iEnum K ta) := by subst hK; exact pi_enum hg hm ha hs
theorem pi_zipK {e e2 : Expr} {ta : TA} {p pos tpos : Pos} {elts : List Expr} {kk : Nat} (hK : X.K = K) (hg : Gl X "zip") (hm : X.mg "zip" = none) (ha : PA X [e, e2] ta)
    (hs : starEach [e, e2] X.env = (false, eval e X.env) :: starEach [e2] X.env := by rfl) (hpl : (backTo pos (starEach [e2] X.env)).any (·.1) = false := by rfl) :
    PI X (.Tuple elts kk tpos) (.Call (.Name "zip" p) [e, e2] [] pos) (iZip K ta) := by subst hK; exact pi_zip hg hm ha hs hpl
end

/-- a comprehension over a list whose elements make nothing -/
theorem lc_vals {K : PySem.W.Frag} {a : Addr} {xs ys : List V} {g : TG} {tt : TT} {te : TE} {vs : List Nat} {σ : L2.St} {H : Hp} {D : Addr} {Qd : Hp → Prop} (hD : H D = none) (hS : SqL K H a xs) (hn : ys.length = xs.length) (hz : xs.length ≤ 1000000)
    (hs : ∀ (i : Nat) (x y : V) (H' : Hp) (C : VK) (N : Hp → Prop), xs[i]? = some x → ys[i]? = some y → Same H H' → C y H' → g x (wipe σ vs) H' fun σ2 H2 => wipe σ2 vs = wipe σ vs ∧ tt σ2 H2 fun b H3 => if b = true then te σ2 H3 C else N H3)
    (hd : ∀ H', Same H H' → H' D = some (.lst ys) → Qd H') :
    ∃ W : Nat → Nat → Hp → Prop, (∃ m, W 0 m (upd H D (.lst []))) ∧ ∀ i m H, W i m H →
      ((Itl K a).stop i H ∧ Qd H) ∨ ((Itl K a).go i H ∧ ∃ Nx : Hp → Prop, (∀ H', Nx H' → ∃ m', m' < m ∧ W (i + 1) m' H') ∧ ∀ x H', (Itl K a).yld i H x H' → g x (wipe σ vs) H' fun σ2 H2 => wipe σ2 vs = wipe σ vs ∧ tt σ2 H2 fun b H3 =>
        if b = true then te σ2 H3 fun y H4 => ∃ acc, H4 D = some (.lst acc) ∧ acc.length < sizeLine ∧ Nx (upd H4 D (.lst (acc ++ [y]))) else Nx H3) := by
  refine lc_list (K := K) (a := a) (xs := xs) (fun i H' => Same H H' ∧ H' D = some (.lst (ys.take i))) ⟨same_new hD, by rw [upd_same]; rfl⟩ (fun i H' _ p => p.1.seq hS) (fun i x H' hx p => ?_) (fun H' p => ?_)
  · have hi : i < ys.length := by
      rw [hn]
      exact (List.getElem?_eq_some_iff.mp hx).1
    refine hs i x ys[i] H' _ _ hx (List.getElem?_eq_getElem hi) p.1 ⟨_, p.2, ?_, fun c o e => ?_, ?_⟩
    · rw [List.length_take]
      exact small1000000 (by omega)
    · rw [upd_ne (ne_of_none e hD)]
      exact p.1 c o e
    · rw [upd_same, List.take_add_one, List.getElem?_eq_getElem hi]
      rfl
  · refine hd H' p.1 ?_
    have e := p.2
    rw [← hn, List.take_length] at e
    exact e
theorem same_sqt {K : PySem.W.Frag} {H H' : Hp} {a : Addr} {xs : List V} (s : Same H H') (h : SqT K H a xs) : SqT K H' a xs := sx_t (M := fun _ => False) (Sx.same s) (fun z => z) h
/-- a comprehension over a tuple whose elements make nothing -/
theorem lc_valsT {K : PySem.W.Frag} {a : Addr} {xs ys : List V} {g : TG} {tt : TT} {te : TE} {vs : List Nat} {σ : L2.St} {H : Hp} {D : Addr} {Qd : Hp → Prop} (hD : H D = none) (hS : SqT K H a xs) (hn : ys.length = xs.length) (hz : xs.length ≤ 1000000)
    (hs : ∀ (i : Nat) (x y : V) (H' : Hp) (C : VK) (N : Hp → Prop), xs[i]? = some x → ys[i]? = some y → Same H H' → C y H' → g x (wipe σ vs) H' fun σ2 H2 => wipe σ2 vs = wipe σ vs ∧ tt σ2 H2 fun b H3 => if b = true then te σ2 H3 C else N H3)
    (hd : ∀ H', Same H H' → H' D = some (.lst ys) → Qd H') :
    ∃ W : Nat → Nat → Hp → Prop, (∃ m, W 0 m (upd H D (.lst []))) ∧ ∀ i m H, W i m H →
      ((Itt K a).stop i H ∧ Qd H) ∨ ((Itt K a).go i H ∧ ∃ Nx : Hp → Prop, (∀ H', Nx H' → ∃ m', m' < m ∧ W (i + 1) m' H') ∧ ∀ x H', (Itt K a).yld i H x H' → g x (wipe σ vs) H' fun σ2 H2 => wipe σ2 vs = wipe σ vs ∧ tt σ2 H2 fun b H3 =>
        if b = true then te σ2 H3 fun y H4 => ∃ acc, H4 D = some (.lst acc) ∧ acc.length < sizeLine ∧ Nx (upd H4 D (.lst (acc ++ [y]))) else Nx H3) := by
  refine lc_tup (K := K) (a := a) (xs := xs) (fun i H' => Same H H' ∧ H' D = some (.lst (ys.take i))) ⟨same_new hD, by rw [upd_same]; rfl⟩ (fun i H' _ p => same_sqt p.1 hS) (fun i x H' hx p => ?_) (fun H' p => ?_)
  · have hi : i < ys.length := by
      rw [hn]
      exact (List.getElem?_eq_some_iff.mp hx).1
    refine hs i x ys[i] H' _ _ hx (List.getElem?_eq_getElem hi) p.1 ⟨_, p.2, ?_, fun c o e => ?_, ?_⟩
    · rw [List.length_take]
      exact small1000000 (by omega)
    · rw [upd_ne (ne_of_none e hD)]
      exact p.1 c o e
    · rw [upd_same, List.take_add_one, List.getElem?_eq_getElem hi]
      rfl
  · refine hd H' p.1 ?_
    have e := p.2
    rw [← hn, List.take_length] at e
    exact e

/-- two ways meet behind an if without else -/
theorem join2 {b : Bool} {A : Prop} {N : L2.St → Hp → Prop} {σ : L2.St} {H : Hp} (Pv : L2.St → Hp → Prop) (h1 : b = true → (∀ σ H, Pv σ H → N σ H) → A) (h2 : b = false → Pv σ H) (hN : ∀ σ H, Pv σ H → N σ H) : if b = true then A else N σ H := by
  cases b with
  | true =>
    rw [if_pos rfl]
    exact h1 rfl hN
  | false =>
    rw [if_neg Bool.false_ne_true]
    exact hN _ _ (h2 rfl)


theorem RpAll.rep {M : Ms} {H : Hp} {xs : List V} {ds : List PyData} (h : RpAll M H xs ds) : ∀ n : Nat, RpAll M H (List.replicate n xs).flatten (List.replicate n ds).flatten
  | 0 => .nil
  | n + 1 => by
    rw [List.replicate_succ, List.replicate_succ, List.flatten_cons, List.flatten_cons]
    exact h.append (RpAll.rep h n)
theorem Bag.same {K : PySem.W.Frag} {M : Ms} {H H' : Hp} {b : Addr} (h : Bag K M H b) (s : Same H H') : Bag K M H' b := h.keep (N := fun _ => False) (Sx.same s) (fun z => z) (fun _ z => z.elim)
/-- a list of data that may still be written -/
def Ld (M : Ms) (H : Hp) (a : Addr) (ds : List PyData) : Prop := ¬ M a ∧ ∃ xs, H a = some (.lst xs) ∧ RpAll M H xs ds
theorem Ld.rp {M : Ms} {H : Hp} {a : Addr} {ds : List PyData} (h : Ld M H a ds) : Rp M H (.ref a) (.list ds) := by
  obtain ⟨n, xs, e, r⟩ := h
  exact .lst n (.inl e) r
theorem Ld.sx {M : Ms} {H H' : Hp} {a : Addr} {ds : List PyData} (h : Ld M H a ds) (s : Sx M H H') : Ld M H' a ds := by
  obtain ⟨n, xs, e, r⟩ := h
  exact ⟨n, xs, s _ _ n e, r.sx s⟩
theorem Ld.new {M : Ms} {H : Hp} {a : Addr} {xs : List V} {ds : List PyData} (m : Mk M H) (h : H a = none) (r : RpAll M H xs ds) : Ld M (upd H a (.lst xs)) a ds := ⟨m.out h, xs, upd_same, r.sx (Sx.new h)⟩
/-- a comprehension over a list: each element a datum, made on the way -/
theorem lc_data {K : PySem.W.Frag} {a : Addr} {xs : List V} {ys : List PyData} {g : TG} {tt : TT} {te : TE} {vs : List Nat} {σ : L2.St} {H : Hp} {D : Addr} {Qd : Hp → Prop} (M : Ms) (hM : Mk M H) (hD : H D = none) (hS : SqL K H a xs) (hn : ys.length = xs.length) (hz : xs.length ≤ 1000000)
    (hs : ∀ (i : Nat) (x : V) (y : PyData) (H' : Hp) (C : VK) (N : Hp → Prop), xs[i]? = some x → ys[i]? = some y → Same H H' → Mk (also M D) H' → (∀ v H2, Same H' H2 → Rp (also M D) H2 v y → C v H2) → g x (wipe σ vs) H' fun σ2 H2 => wipe σ2 vs = wipe σ vs ∧ tt σ2 H2 fun b H3 => if b = true then te σ2 H3 C else N H3)
    (hd : ∀ H', Same H H' → Ld M H' D ys → Qd H') :
    ∃ W : Nat → Nat → Hp → Prop, (∃ m, W 0 m (upd H D (.lst []))) ∧ ∀ i m H, W i m H →
      ((Itl K a).stop i H ∧ Qd H) ∨ ((Itl K a).go i H ∧ ∃ Nx : Hp → Prop, (∀ H', Nx H' → ∃ m', m' < m ∧ W (i + 1) m' H') ∧ ∀ x H', (Itl K a).yld i H x H' → g x (wipe σ vs) H' fun σ2 H2 => wipe σ2 vs = wipe σ vs ∧ tt σ2 H2 fun b H3 =>
        if b = true then te σ2 H3 fun y H4 => ∃ acc, H4 D = some (.lst acc) ∧ acc.length < sizeLine ∧ Nx (upd H4 D (.lst (acc ++ [y]))) else Nx H3) := by
  refine lc_list (K := K) (a := a) (xs := xs) (fun i H' => Same H H' ∧ ∃ acc, H' D = some (.lst acc) ∧ RpAll (also M D) H' acc (ys.take i)) ⟨same_new hD, [], upd_same, by rw [List.take_zero]; exact .nil⟩ (fun i H' _ p => p.1.seq hS) (fun i x H' hx p => ?_) (fun H' p => ?_)
  · obtain ⟨s, acc, e, r⟩ := p
    have hi : i < ys.length := by
      rw [hn]
      exact (List.getElem?_eq_some_iff.mp hx).1
    have hl := r.length
    rw [List.length_take] at hl
    refine hs i x ys[i] H' _ _ hx (List.getElem?_eq_getElem hi) s ((hM.gr (Gr.same s)).also (ne_none e)) fun v H2 s2 rv => ?_
    refine ⟨acc, s2 _ _ e, small1000000 (by omega), fun c o q => ?_, acc ++ [v], upd_same, ?_⟩
    · rw [upd_ne (ne_of_none q hD)]
      exact s2 _ _ (s c o q)
    · rw [List.take_add_one, List.getElem?_eq_getElem hi]
      exact ((r.sx (Sx.same s2)).append (.one rv)).sx (Sx.put (.inr rfl))
  · obtain ⟨s, acc, e, r⟩ := p
    rw [← hn, List.take_length] at r
    exact hd H' s ⟨hM.out hD, acc, e, r.less also_le⟩

theorem cut_hi (xs : List V) (n : Nat) : cutV xs none (some (n : Int)) = xs.take n := by
  unfold cutV
  rw [show HT.sIx xs.length 0 none = 0 from HT.sIx_none .., show HT.sIx xs.length xs.length (some (n : Int)) = min n xs.length from HT.sIx_nat _ _ n, List.drop_zero, Nat.sub_zero]
  rw [List.take_eq_take_iff]
  omega

theorem szK {n : Nat} (h : Nat.ble n 1000 = true) : n ≤ sizeLine := Nat.le_of_lt (small1000 (Nat.le_of_ble_eq_true h))

/-- what holds behind a statement, said once for all its ways -/
theorem seq_join {t u : TS} {D : Ends} {σ : L2.St} {H : Hp} (Pv : L2.St → Hp → Prop) (h : (∀ σ H, Pv σ H → u D σ H) → t { D with nx := u D } σ H) (hN : ∀ σ H, Pv σ H → u D σ H) : tSeq t u D σ H := h hN

theorem lc_str {z : Str} {g : TG} {tt : TT} {te : TE} {vs : List Nat} {σ : L2.St} {H1 : Hp} {D : Addr} {Qd : Hp → Prop} (Pv : Nat → Hp → Prop) (h0 : Pv 0 (upd H1 D (.lst [])))
    (hs : ∀ i c H, z.cps[i]? = some c → Pv i H → g (.str ⟨#[c]⟩) (wipe σ vs) H fun σ2 H2 => wipe σ2 vs = wipe σ vs ∧ tt σ2 H2 fun b H3 =>
      if b = true then te σ2 H3 fun y H4 => ∃ acc, H4 D = some (.lst acc) ∧ acc.length < sizeLine ∧ Pv (i + 1) (upd H4 D (.lst (acc ++ [y]))) else Pv (i + 1) H3) (hd : ∀ H, Pv z.cps.size H → Qd H) :
    ∃ W : Nat → Nat → Hp → Prop, (∃ m, W 0 m (upd H1 D (.lst []))) ∧ ∀ i m H, W i m H →
      ((Its z).stop i H ∧ Qd H) ∨ ((Its z).go i H ∧ ∃ Nx : Hp → Prop, (∀ H', Nx H' → ∃ m', m' < m ∧ W (i + 1) m' H') ∧ ∀ x H', (Its z).yld i H x H' → g x (wipe σ vs) H' fun σ2 H2 => wipe σ2 vs = wipe σ vs ∧ tt σ2 H2 fun b H3 =>
        if b = true then te σ2 H3 fun y H4 => ∃ acc, H4 D = some (.lst acc) ∧ acc.length < sizeLine ∧ Nx (upd H4 D (.lst (acc ++ [y]))) else Nx H3) := by
  refine ⟨fun i m H => m = z.cps.size - i ∧ i ≤ z.cps.size ∧ Pv i H, ⟨_, rfl, Nat.zero_le _, h0⟩, ?_⟩
  rintro i m H ⟨rfl, hi, p⟩
  by_cases hlt : i < z.cps.size
  · refine .inr ⟨hlt, Pv (i + 1), fun H' p' => ⟨z.cps.size - (i + 1), by omega, rfl, hlt, p'⟩, fun x H' y => ?_⟩
    obtain ⟨e, c, hc, rfl⟩ := y
    subst e
    exact hs i c _ hc p
  · have e : i = z.cps.size := by omega
    subst e
    exact .inl ⟨Nat.le_refl _, hd H p⟩
/-- a comprehension over a text whose elements make nothing -/
theorem lc_valsS {z : Str} {ys : List V} {g : TG} {tt : TT} {te : TE} {vs : List Nat} {σ : L2.St} {H : Hp} {D : Addr} {Qd : Hp → Prop} (hD : H D = none) (hn : ys.length = z.cps.size) (hz : z.cps.size ≤ 1000000)
    (hs : ∀ (i : Nat) (c : Nat) (y : V) (H' : Hp) (C : VK) (N : Hp → Prop), z.cps[i]? = some c → ys[i]? = some y → Same H H' → C y H' → g (.str ⟨#[c]⟩) (wipe σ vs) H' fun σ2 H2 => wipe σ2 vs = wipe σ vs ∧ tt σ2 H2 fun b H3 => if b = true then te σ2 H3 C else N H3)
    (hd : ∀ H', Same H H' → H' D = some (.lst ys) → Qd H') :
    ∃ W : Nat → Nat → Hp → Prop, (∃ m, W 0 m (upd H D (.lst []))) ∧ ∀ i m H, W i m H →
      ((Its z).stop i H ∧ Qd H) ∨ ((Its z).go i H ∧ ∃ Nx : Hp → Prop, (∀ H', Nx H' → ∃ m', m' < m ∧ W (i + 1) m' H') ∧ ∀ x H', (Its z).yld i H x H' → g x (wipe σ vs) H' fun σ2 H2 => wipe σ2 vs = wipe σ vs ∧ tt σ2 H2 fun b H3 =>
        if b = true then te σ2 H3 fun y H4 => ∃ acc, H4 D = some (.lst acc) ∧ acc.length < sizeLine ∧ Nx (upd H4 D (.lst (acc ++ [y]))) else Nx H3) := by
  refine lc_str (z := z) (fun i H' => Same H H' ∧ H' D = some (.lst (ys.take i))) ⟨same_new hD, by rw [upd_same]; rfl⟩ (fun i c H' hc p => ?_) (fun H' p => ?_)
  · have hi : i < ys.length := by
      rw [hn]
      exact (Array.getElem?_eq_some_iff.mp hc).1
    refine hs i c ys[i] H' _ _ hc (List.getElem?_eq_getElem hi) p.1 ⟨_, p.2, ?_, fun c o e => ?_, ?_⟩
    · rw [List.length_take]
      exact small1000000 (by omega)
    · rw [upd_ne (ne_of_none e hD)]
      exact p.1 c o e
    · rw [upd_same, List.take_add_one, List.getElem?_eq_getElem hi]
      rfl
  · refine hd H' p.1 ?_
    have e := p.2
    rw [← hn, List.take_length] at e
    exact e

theorem cut1 (y : V) (r : List V) : cutV (y :: r) (some 1) none = r := by
  unfold cutV
  rw [show HT.sIx (y :: r).length 0 (some 1) = min 1 (y :: r).length from HT.sIx_nat (y :: r).length 0 1, HT.sIx_none]
  rw [show min 1 (y :: r).length = 1 by
      rw [List.length_cons]
      omega]
  show List.take ((y :: r).length - 1) r = r
  rw [List.length_cons, Nat.add_sub_cancel]
  exact List.take_length

theorem rd_ty {K : PySem.W.Frag} {H : Hp} {a : Addr} {xs : List V} (h : Rd H a (.tup xs)) : TyX K H (.ref a) (.type "tuple") := by
  rcases h with h | ⟨o, h⟩
  · exact .base (.tup h)
  · exact .fTuple h
/-- a comprehension over a tuple: each element a datum, made on the way -/
theorem lc_dataT {K : PySem.W.Frag} {a : Addr} {xs : List V} {ys : List PyData} {g : TG} {tt : TT} {te : TE} {vs : List Nat} {σ : L2.St} {H : Hp} {D : Addr} {Qd : Hp → Prop} (M : Ms) (hM : Mk M H) (hD : H D = none) (hS : SqT K H a xs) (hn : ys.length = xs.length) (hz : xs.length ≤ 1000000)
    (hs : ∀ (i : Nat) (x : V) (y : PyData) (H' : Hp) (C : VK) (N : Hp → Prop), xs[i]? = some x → ys[i]? = some y → Same H H' → Mk (also M D) H' → (∀ v H2, Same H' H2 → Rp (also M D) H2 v y → C v H2) → g x (wipe σ vs) H' fun σ2 H2 => wipe σ2 vs = wipe σ vs ∧ tt σ2 H2 fun b H3 => if b = true then te σ2 H3 C else N H3)
    (hd : ∀ H', Same H H' → Ld M H' D ys → Qd H') :
    ∃ W : Nat → Nat → Hp → Prop, (∃ m, W 0 m (upd H D (.lst []))) ∧ ∀ i m H, W i m H →
      ((Itt K a).stop i H ∧ Qd H) ∨ ((Itt K a).go i H ∧ ∃ Nx : Hp → Prop, (∀ H', Nx H' → ∃ m', m' < m ∧ W (i + 1) m' H') ∧ ∀ x H', (Itt K a).yld i H x H' → g x (wipe σ vs) H' fun σ2 H2 => wipe σ2 vs = wipe σ vs ∧ tt σ2 H2 fun b H3 =>
        if b = true then te σ2 H3 fun y H4 => ∃ acc, H4 D = some (.lst acc) ∧ acc.length < sizeLine ∧ Nx (upd H4 D (.lst (acc ++ [y]))) else Nx H3) := by
  refine lc_tup (K := K) (a := a) (xs := xs) (fun i H' => Same H H' ∧ ∃ acc, H' D = some (.lst acc) ∧ RpAll (also M D) H' acc (ys.take i)) ⟨same_new hD, [], upd_same, by rw [List.take_zero]; exact .nil⟩ (fun i H' _ p => same_sqt p.1 hS) (fun i x H' hx p => ?_) (fun H' p => ?_)
  · obtain ⟨s, acc, e, r⟩ := p
    have hi : i < ys.length := by
      rw [hn]
      exact (List.getElem?_eq_some_iff.mp hx).1
    have hl := r.length
    rw [List.length_take] at hl
    refine hs i x ys[i] H' _ _ hx (List.getElem?_eq_getElem hi) s ((hM.gr (Gr.same s)).also (ne_none e)) fun v H2 s2 rv => ?_
    refine ⟨acc, s2 _ _ e, small1000000 (by omega), fun c o q => ?_, acc ++ [v], upd_same, ?_⟩
    · rw [upd_ne (ne_of_none q hD)]
      exact s2 _ _ (s c o q)
    · rw [List.take_add_one, List.getElem?_eq_getElem hi]
      exact ((r.sx (Sx.same s2)).append (.one rv)).sx (Sx.put (.inr rfl))
  · obtain ⟨s, acc, e, r⟩ := p
    rw [← hn, List.take_length] at r
    exact hd H' s ⟨hM.out hD, acc, e, r.less also_le⟩


/-- a list that is made beside stays away -/
theorem same_put {H H' : Hp} {p : Addr} {o : HO} (s : Same H H') (h : H p = none) : Same H (upd H' p o) := fun a u e => by
  rw [upd_ne (ne_of_none e h)]
  exact s a u e
end D

namespace D
open PySem PySem.Spec PyProof.Rows L2
/-! ### forms -/
inductive Fm where
  | is (n : Int) | get (x : Str) | sum (f g : Fm) | same (f g : Fm) | pick (f g h : Fm)
def sIs : Str := "is"
def sGet : Str := "get"
def sSum : Str := "sum"
def sSame : Str := "same"
def sPick : Str := "pick"
namespace Fm
def word : Fm → Str
  | .is _ => sIs | .get _ => sGet | .sum _ _ => sSum | .same _ _ => sSame | .pick _ _ _ => sPick
def enc : Fm → PyData
  | .is n => .tuple [.str sIs, .int n]
  | .get x => .tuple [.str sGet, .str x]
  | .sum f g => .tuple [.str sSum, f.enc, g.enc]
  | .same f g => .tuple [.str sSame, f.enc, g.enc]
  | .pick f g h => .tuple [.str sPick, f.enc, g.enc, h.enc]
def subs : Fm → List Fm
  | .is _ => [] | .get _ => [] | .sum f g => [f, g] | .same f g => [f, g] | .pick f g h => [f, g, h]
def dep : Fm → Nat
  | .is _ => 1 | .get _ => 1
  | .sum f g => max f.dep g.dep + 1 | .same f g => max f.dep g.dep + 1
  | .pick f g h => max f.dep (max g.dep h.dep) + 1
def size : Fm → Nat
  | .is _ => 1 | .get _ => 1
  | .sum f g => f.size + g.size + 1 | .same f g => f.size + g.size + 1
  | .pick f g h => f.size + g.size + h.size + 1
def val (ρ : Str → Int) : Fm → Int
  | .is n => n | .get x => ρ x
  | .sum f g => (f.val ρ + g.val ρ) % 10
  | .same f g => if f.val ρ = g.val ρ then 1 else 0
  | .pick f g h => if f.val ρ = 0 then h.val ρ else g.val ρ
def ok (nm : Str → Prop) : Fm → Prop
  | .is n => 0 ≤ n ∧ n ≤ 9 | .get x => nm x
  | .sum f g => f.ok nm ∧ g.ok nm | .same f g => f.ok nm ∧ g.ok nm
  | .pick f g h => f.ok nm ∧ g.ok nm ∧ h.ok nm
theorem dep_pos : ∀ f : Fm, 1 ≤ f.dep
  | .is _ => Nat.le_refl _ | .get _ => Nat.le_refl _
  | .sum f g => by show 1 ≤ max f.dep g.dep + 1; omega
  | .same f g => by show 1 ≤ max f.dep g.dep + 1; omega
  | .pick f g h => by show 1 ≤ max f.dep (max g.dep h.dep) + 1; omega
theorem val_range {ρ : Str → Int} {nm : Str → Prop} (h : ∀ x, nm x → 0 ≤ ρ x ∧ ρ x ≤ 9) : ∀ f : Fm, f.ok nm → 0 ≤ f.val ρ ∧ f.val ρ ≤ 9
  | .is n, o => o
  | .get x, o => h x o
  | .sum f g, o => by
    show 0 ≤ (f.val ρ + g.val ρ) % 10 ∧ (f.val ρ + g.val ρ) % 10 ≤ 9
    omega
  | .same f g, o => by
    show 0 ≤ (if f.val ρ = g.val ρ then (1 : Int) else 0) ∧ (if f.val ρ = g.val ρ then (1 : Int) else 0) ≤ 9
    split <;> decide
  | .pick f g k, o => by
    show 0 ≤ (if f.val ρ = 0 then k.val ρ else g.val ρ) ∧ (if f.val ρ = 0 then k.val ρ else g.val ρ) ≤ 9
    split
    · exact val_range h k o.2.2
    · exact val_range h g o.2.1
end Fm
section
variable {M : Ms} {H : Hp} {v : V}
theorem Rp.tupN {ds : List PyData} (h : Rp M H v (.tuple ds)) : ∃ a xs, v = .ref a ∧ ¬ M a ∧ Rd H a (.tup xs) ∧ RpAll M H xs ds := by
  cases h with
  | @tup a xs _ n s r => exact ⟨a, xs, rfl, n, s.rd, r⟩
theorem Rp.tupX {ds : List PyData} (h : Rp M H v (.tuple ds)) : ∃ a xs, v = .ref a ∧ ¬ M a ∧ H a = some (.tup xs) ∧ RpAll M H xs ds := by
  cases h with
  | @tup a xs _ n s r => exact ⟨a, xs, rfl, n, s.at, r⟩
theorem Rp.lstN {ds : List PyData} (h : Rp M H v (.list ds)) : ∃ a xs, v = .ref a ∧ ¬ M a ∧ Rd H a (.lst xs) ∧ RpAll M H xs ds := by
  cases h with
  | @lst a xs _ n s r => exact ⟨a, xs, rfl, n, s, r⟩
theorem Rp.int_inv {i : Int} (h : Rp M H v (.int i)) : v = .int i := by cases h; rfl
theorem Rp.str_inv {x : Str} (h : Rp M H v (.str x)) : v = .str x := by cases h; rfl
theorem RpAll.inv1 {xs : List V} {d1 : PyData} (h : RpAll M H xs [d1]) : ∃ v1, xs = [v1] ∧ Rp M H v1 d1 := by
  cases h with | cons h1 h2 => cases h2; exact ⟨_, rfl, h1⟩
theorem RpAll.inv2 {xs : List V} {d1 d2 : PyData} (h : RpAll M H xs [d1, d2]) : ∃ v1 v2, xs = [v1, v2] ∧ Rp M H v1 d1 ∧ Rp M H v2 d2 := by
  cases h with | cons h1 h2 => obtain ⟨v2, rfl, r2⟩ := h2.inv1; exact ⟨_, _, rfl, h1, r2⟩
theorem RpAll.inv3 {xs : List V} {d1 d2 d3 : PyData} (h : RpAll M H xs [d1, d2, d3]) : ∃ v1 v2 v3, xs = [v1, v2, v3] ∧ Rp M H v1 d1 ∧ Rp M H v2 d2 ∧ Rp M H v3 d3 := by
  cases h with | cons h1 h2 => obtain ⟨v2, v3, rfl, r2, r3⟩ := h2.inv2; exact ⟨_, _, _, rfl, h1, r2, r3⟩
theorem RpAll.inv4 {xs : List V} {d1 d2 d3 d4 : PyData} (h : RpAll M H xs [d1, d2, d3, d4]) : ∃ v1 v2 v3 v4, xs = [v1, v2, v3, v4] ∧ Rp M H v1 d1 ∧ Rp M H v2 d2 ∧ Rp M H v3 d3 ∧ Rp M H v4 d4 := by
  cases h with | cons h1 h2 => obtain ⟨v2, v3, v4, rfl, r2, r3, r4⟩ := h2.inv3; exact ⟨_, _, _, _, rfl, h1, r2, r3, r4⟩
/-- what stands of a form -/
inductive FmAt (M : Ms) (H : Hp) : Fm → List V → Prop
  | is (n : Int) : FmAt M H (.is n) [.str sIs, .int n]
  | get (x : Str) : FmAt M H (.get x) [.str sGet, .str x]
  | sum {f g : Fm} {u w : V} (a : Rp M H u f.enc) (b : Rp M H w g.enc) : FmAt M H (.sum f g) [.str sSum, u, w]
  | same {f g : Fm} {u w : V} (a : Rp M H u f.enc) (b : Rp M H w g.enc) : FmAt M H (.same f g) [.str sSame, u, w]
  | pick {f g h : Fm} {u w z : V} (a : Rp M H u f.enc) (b : Rp M H w g.enc) (c : Rp M H z h.enc) : FmAt M H (.pick f g h) [.str sPick, u, w, z]
theorem Rp.form {f : Fm} (h : Rp M H v f.enc) : ∃ a xs, v = .ref a ∧ ¬ M a ∧ Rd H a (.tup xs) ∧ FmAt M H f xs := by
  cases f with
  | is n =>
    obtain ⟨a, xs, rfl, n, s, r⟩ := Rp.tupN h
    obtain ⟨v1, v2, rfl, r1, r2⟩ := r.inv2
    cases r1; cases r2
    exact ⟨a, _, rfl, n, s, .is _⟩
  | get x =>
    obtain ⟨a, xs, rfl, n, s, r⟩ := Rp.tupN h
    obtain ⟨v1, v2, rfl, r1, r2⟩ := r.inv2
    cases r1; cases r2
    exact ⟨a, _, rfl, n, s, .get _⟩
  | sum f g =>
    obtain ⟨a, xs, rfl, n, s, r⟩ := Rp.tupN h
    obtain ⟨v1, v2, v3, rfl, r1, r2, r3⟩ := r.inv3
    cases r1
    exact ⟨a, _, rfl, n, s, .sum r2 r3⟩
  | same f g =>
    obtain ⟨a, xs, rfl, n, s, r⟩ := Rp.tupN h
    obtain ⟨v1, v2, v3, rfl, r1, r2, r3⟩ := r.inv3
    cases r1
    exact ⟨a, _, rfl, n, s, .same r2 r3⟩
  | pick f g k =>
    obtain ⟨a, xs, rfl, n, s, r⟩ := Rp.tupN h
    obtain ⟨v1, v2, v3, v4, rfl, r1, r2, r3, r4⟩ := r.inv4
    cases r1
    exact ⟨a, _, rfl, n, s, .pick r2 r3 r4⟩
theorem FmAt.rp {f : Fm} {xs : List V} {a : Addr} (h : FmAt M H f xs) (n : ¬ M a) (s : RdT H a xs) : Rp M H (.ref a) f.enc := by
  cases h with
  | is k => exact .tup n s (.cons (.str _) (.one (.int _)))
  | get x => exact .tup n s (.cons (.str _) (.one (.str _)))
  | sum a b => exact .tup n s (.cons (.str _) (.cons a (.one b)))
  | same a b => exact .tup n s (.cons (.str _) (.cons a (.one b)))
  | pick a b c => exact .tup n s (.cons (.str _) (.cons a (.cons b (.one c))))
end

/-! ### names -/
def isNm (x : Str) : Prop := 1 ≤ x.length ∧ x.length ≤ 8 ∧ ∀ c ∈ x.cps.toList, 97 ≤ c ∧ c ≤ 122
def addN (acc : List Str) (n : Str) : List Str := if n ∈ acc then acc else acc ++ [n]
def Fm.names : Fm → List Str
  | .is _ => [] | .get x => [x]
  | .sum f g => g.names.foldl addN (f.names.foldl addN [])
  | .same f g => g.names.foldl addN (f.names.foldl addN [])
  | .pick f g h => h.names.foldl addN (g.names.foldl addN (f.names.foldl addN []))
theorem addN_mem {acc : List Str} {n x : Str} (h : x ∈ addN acc n) : x ∈ acc ∨ x = n := by
  unfold addN at h
  split at h
  · exact .inl h
  · rcases List.mem_append.mp h with h | h
    · exact .inl h
    · exact .inr (List.mem_singleton.mp h)
theorem addsN_mem : ∀ (ns acc : List Str) (x : Str), x ∈ ns.foldl addN acc → x ∈ acc ∨ x ∈ ns
  | [], acc, x, h => .inl h
  | n :: r, acc, x, h => by
    rcases addsN_mem r (addN acc n) x h with h | h
    · rcases addN_mem h with h | h
      · exact .inl h
      · exact .inr (by rw [h]; exact List.mem_cons_self)
    · exact .inr (List.mem_cons_of_mem _ h)
theorem Fm.names_ok {nm : Str → Prop} : ∀ f : Fm, f.ok nm → ∀ x ∈ f.names, nm x
  | .is _, _, x, h => nomatch h
  | .get y, o, x, h => by rw [List.mem_singleton.mp h]; exact o
  | .sum f g, o, x, h => by
    rcases addsN_mem _ _ _ h with h | h
    · rcases addsN_mem _ _ _ h with h | h
      · exact nomatch h
      · exact f.names_ok o.1 x h
    · exact g.names_ok o.2 x h
  | .same f g, o, x, h => by
    rcases addsN_mem _ _ _ h with h | h
    · rcases addsN_mem _ _ _ h with h | h
      · exact nomatch h
      · exact f.names_ok o.1 x h
    · exact g.names_ok o.2 x h
  | .pick f g k, o, x, h => by
    rcases addsN_mem _ _ _ h with h | h
    · rcases addsN_mem _ _ _ h with h | h
      · rcases addsN_mem _ _ _ h with h | h
        · exact nomatch h
        · exact f.names_ok o.1 x h
      · exact g.names_ok o.2.1 x h
    · exact k.names_ok o.2.2 x h
theorem addN_len (acc : List Str) (n : Str) : (addN acc n).length ≤ acc.length + 1 := by
  unfold addN
  split
  · omega
  · rw [List.length_append]
    exact Nat.le_refl _
theorem addsN_len : ∀ (ns acc : List Str), (ns.foldl addN acc).length ≤ acc.length + ns.length
  | [], acc => Nat.le_refl _
  | n :: r, acc => by
    have h1 := addsN_len r (addN acc n)
    have h2 := addN_len acc n
    show (r.foldl addN (addN acc n)).length ≤ acc.length + (r.length + 1)
    omega
theorem Fm.names_len : ∀ f : Fm, f.names.length ≤ f.size
  | .is _ => Nat.zero_le _
  | .get _ => Nat.le_refl _
  | .sum f g => by
    have h1 := f.names_len; have h2 := g.names_len; have h3 := addsN_len f.names []; have h4 := addsN_len g.names (f.names.foldl addN [])
    show (g.names.foldl addN (f.names.foldl addN [])).length ≤ f.size + g.size + 1
    rw [List.length_nil] at h3
    omega
  | .same f g => by
    have h1 := f.names_len; have h2 := g.names_len; have h3 := addsN_len f.names []; have h4 := addsN_len g.names (f.names.foldl addN [])
    show (g.names.foldl addN (f.names.foldl addN [])).length ≤ f.size + g.size + 1
    rw [List.length_nil] at h3
    omega
  | .pick f g k => by
    have h1 := f.names_len; have h2 := g.names_len; have h3 := addsN_len f.names []; have h4 := addsN_len g.names (f.names.foldl addN [])
    have h5 := k.names_len; have h6 := addsN_len k.names (g.names.foldl addN (f.names.foldl addN []))
    show (k.names.foldl addN (g.names.foldl addN (f.names.foldl addN []))).length ≤ f.size + g.size + k.size + 1
    rw [List.length_nil] at h3
    omega
theorem Fm.size_le : ∀ (d : Nat) (f : Fm), f.dep ≤ d → f.size ≤ 4 ^ d
  | 0, f, h => absurd f.dep_pos (by omega)
  | d + 1, .is _, _ => Nat.pow_pos (by decide)
  | d + 1, .get _, _ => Nat.pow_pos (by decide)
  | d + 1, .sum f g, h => by
    have h0 : max f.dep g.dep + 1 ≤ d + 1 := h
    have h1 := Fm.size_le d f (by omega)
    have h2 := Fm.size_le d g (by omega)
    have h3 : 1 ≤ 4 ^ d := Nat.pow_pos (by decide)
    show f.size + g.size + 1 ≤ 4 ^ d * 4
    omega
  | d + 1, .same f g, h => by
    have h0 : max f.dep g.dep + 1 ≤ d + 1 := h
    have h1 := Fm.size_le d f (by omega)
    have h2 := Fm.size_le d g (by omega)
    have h3 : 1 ≤ 4 ^ d := Nat.pow_pos (by decide)
    show f.size + g.size + 1 ≤ 4 ^ d * 4
    omega
  | d + 1, .pick f g k, h => by
    have h0 : max f.dep (max g.dep k.dep) + 1 ≤ d + 1 := h
    have h1 := Fm.size_le d f (by omega)
    have h2 := Fm.size_le d g (by omega)
    have h4 := Fm.size_le d k (by omega)
    have h3 : 1 ≤ 4 ^ d := Nat.pow_pos (by decide)
    show f.size + g.size + k.size + 1 ≤ 4 ^ d * 4
    omega
theorem in_strs (n : Str) (acc : List Str) : inV (.str n) (acc.map V.str) = decide (n ∈ acc) := by
  unfold inV
  rw [List.any_map, Bool.eq_iff_iff, List.any_eq_true, decide_eq_true_iff]
  constructor
  · rintro ⟨x, hx, e⟩
    have e' : (x == n) = true := e
    rw [beq_iff_eq] at e'
    rw [← e']
    exact hx
  · intro h
    exact ⟨n, h, by show (n == n) = true; exact beq_self_eq_true n⟩
theorem flat_strs (acc : List Str) : (acc.map V.str).all flatV = true := by
  rw [List.all_map, List.all_eq_true]
  intro x _
  rfl
theorem RpAll.strs {M : Ms} {H : Hp} : ∀ (ns : List Str), RpAll M H (ns.map V.str) (ns.map PyData.str)
  | [] => .nil
  | n :: r => .cons (.str n) (RpAll.strs r)
theorem RpAll.ofStrs {M : Ms} {H : Hp} : ∀ {ns : List Str} {vs : List V}, RpAll M H vs (ns.map PyData.str) → vs = ns.map V.str
  | [], _, h => by cases h; rfl
  | n :: r, _, h => by
    cases h with
    | cons h1 h2 =>
      cases h1
      rw [RpAll.ofStrs h2]
      rfl

theorem sign_lo {c : Nat} (h : 97 ≤ c) : decide (({ cps := #[c] } : Str).cps.toList < (Str.ofString "a").cps.toList) = false := by
  rw [show (Str.ofString "a").cps.toList = [97] by decide +kernel, decide_eq_false_iff_not]
  show ¬ [c] < [97]
  rw [List.cons_lt_cons_iff]
  rintro (h1 | ⟨_, h1⟩)
  · omega
  · exact absurd h1 (by decide)
theorem sign_hi {c : Nat} (h : c ≤ 122) : decide ((Str.ofString "z").cps.toList < ({ cps := #[c] } : Str).cps.toList) = false := by
  rw [show (Str.ofString "z").cps.toList = [122] by decide +kernel, decide_eq_false_iff_not]
  show ¬ [122] < [c]
  rw [List.cons_lt_cons_iff]
  rintro (h1 | ⟨_, h1⟩)
  · omega
  · exact absurd h1 (by decide)

/-- a form with its level -/
def lvD (p : Fm × Nat) : PyData := .tuple [p.1.enc, .int (p.2 : Int)]
def szs (ps : List (Fm × Nat)) : Nat := (ps.map fun p => p.1.size).sum
theorem szs_app (ps qs : List (Fm × Nat)) : szs (ps ++ qs) = szs ps + szs qs := by
  unfold szs
  rw [List.map_append, List.sum_append_nat]
theorem szs_rev (ps : List (Fm × Nat)) : szs ps.reverse = szs ps := by
  unfold szs
  rw [List.map_reverse, List.sum_reverse]
theorem subs_size (f : Fm) (n : Nat) : szs (f.subs.map fun g => (g, n)) + 1 = f.size := by
  cases f <;> simp [szs, Fm.subs, Fm.size] <;> omega
theorem subs_ok {nm : Str → Prop} {f g : Fm} (h : f.ok nm) (hg : g ∈ f.subs) : g.ok nm := by
  cases f <;> simp [Fm.subs] at hg <;> simp [Fm.ok] at h
  all_goals (first | (rcases hg with rfl | rfl | rfl <;> simp_all) | (rcases hg with rfl | rfl <;> simp_all))
theorem subs_dep {f g : Fm} (hg : g ∈ f.subs) : g.dep + 1 ≤ f.dep := by
  cases f <;> simp [Fm.subs] at hg <;> simp [Fm.dep]
  all_goals (first | (rcases hg with rfl | rfl | rfl <;> omega) | (rcases hg with rfl | rfl <;> omega))
theorem subs_len (f : Fm) : f.subs.length ≤ 3 := by cases f <;> simp [Fm.subs]
theorem RpAll.reverse {M : Ms} {H : Hp} : ∀ {vs : List V} {ds : List PyData}, RpAll M H vs ds → RpAll M H vs.reverse ds.reverse
  | _, [], h => by cases h; exact .nil
  | _, d :: ds, h => by
    cases h with
    | cons h1 h2 =>
      rw [List.reverse_cons, List.reverse_cons]
      exact (RpAll.reverse h2).append (.one h1)
theorem RpAll.last {M : Ms} {H : Hp} {vs : List V} {ds : List PyData} {d : PyData} (h : RpAll M H vs (ds ++ [d])) : ∃ us v, vs = us ++ [v] ∧ RpAll M H us ds ∧ Rp M H v d := by
  have h1 := h.reverse
  rw [List.reverse_append] at h1
  generalize hv : vs.reverse = ws at h1
  cases h1 with
  | @cons v us _ _ a b =>
    have e : vs = us.reverse ++ [v] := by
      rw [← List.reverse_reverse vs, hv, List.reverse_cons]
    refine ⟨us.reverse, v, e, ?_, a⟩
    have b' : RpAll M H us ds.reverse := b
    have := b'.reverse
    rw [List.reverse_reverse] at this
    exact this

theorem Fm.size_pos : ∀ f : Fm, 1 ≤ f.size
  | .is _ => Nat.le_refl _ | .get _ => Nat.le_refl _
  | .sum f g => by show 1 ≤ f.size + g.size + 1; omega
  | .same f g => by show 1 ≤ f.size + g.size + 1; omega
  | .pick f g h => by show 1 ≤ f.size + g.size + h.size + 1; omega
theorem szs_len : ∀ ps : List (Fm × Nat), ps.length ≤ szs ps
  | [] => Nat.le_refl _
  | p :: r => by
    have h1 := szs_len r
    have h2 := p.1.size_pos
    show r.length + 1 ≤ ((p :: r).map fun p => p.1.size).sum
    rw [List.map_cons, List.sum_cons]
    unfold szs at h1
    omega

def stepN (acc : List Str) (s : Fm) : List Str := s.names.foldl addN acc
theorem names_fold (f : Fm) (h : ∀ x, f ≠ .get x) : f.names = f.subs.foldl stepN [] := by
  cases f with
  | get x => exact absurd rfl (h x)
  | _ => rfl
theorem fold_take {α β : Type} (g : β → α → β) (b : β) (l : List α) (i : Nat) (x : α) (h : l[i]? = some x) : (l.take (i + 1)).foldl g b = g ((l.take i).foldl g b) x := by
  rw [List.take_add_one, h, List.foldl_append]
  rfl
end D

namespace D
open PySem PySem.Spec PyProof.Rows L2
theorem sub_len {α : Type} [DecidableEq α] : ∀ (l2 l1 : List α), l1.Nodup → (∀ x ∈ l1, x ∈ l2) → l1.length ≤ l2.length ∧ (l1.length = l2.length → l2.Nodup)
  | [], l1, _, h => by
    cases l1 with
    | nil => exact ⟨Nat.le_refl _, fun _ => .nil⟩
    | cons x r => exact nomatch h x List.mem_cons_self
  | y :: r, l1, nd, h => by
    by_cases hy : y ∈ l1
    · have nd1 : (l1.erase y).Nodup := nd.erase y
      have h1 : ∀ x ∈ l1.erase y, x ∈ r := fun x hx => by
        have hx' := (nd.mem_erase_iff).mp hx
        rcases List.mem_cons.mp (h x hx'.2) with e | e
        · exact absurd e hx'.1
        · exact e
      obtain ⟨a, b⟩ := sub_len r (l1.erase y) nd1 h1
      have le := List.length_erase_of_mem hy
      have pos : 0 < l1.length := List.length_pos_of_mem hy
      refine ⟨by rw [List.length_cons]; omega, fun e => ?_⟩
      rw [List.length_cons] at e
      refine List.nodup_cons.mpr ⟨fun hr => ?_, b (by omega)⟩
      have h2 : ∀ x ∈ l1, x ∈ r := fun x hx => by
        rcases List.mem_cons.mp (h x hx) with e | e
        · rw [e]; exact hr
        · exact e
      have := (sub_len r l1 nd h2).1
      omega
    · have h2 : ∀ x ∈ l1, x ∈ r := fun x hx => by
        rcases List.mem_cons.mp (h x hx) with e | e
        · rw [e] at hx; exact absurd hx hy
        · exact e
      have := (sub_len r l1 nd h2).1
      refine ⟨by rw [List.length_cons]; omega, fun e => ?_⟩
      rw [List.length_cons] at e
      omega
section
variable {X : Cx}
def tLenSetT (K : PySem.W.Frag) (ta : TE) : TE := fun σ H Q => ta σ H fun x H1 => ∃ (l : Addr) (ns : List Int), x = V.ref l ∧ SqT K H1 l (ns.map V.int) ∧ ns.length ≤ 1000 ∧ ∀ c : Nat, (c = ns.length ↔ ns.Nodup) → Q (.int c) H1
theorem pe_lenSetT {K : PySem.W.Frag} {a : Expr} {ta : TE} {p p2 q pos : Pos} (hK : X.K = K) (hc : X.calm = true) (hg : Gl X "len") (hm : X.mg "len" = none) (hg2 : Gl X "set") (hm2 : X.mg "set" = none) (ha : PE X a ta)
    (na : starEach [a] X.env = (false, eval a X.env) :: starEach [] X.env := by rfl) : PE X (.Call (.Name "len" p) [.Call (.Name "set" p2) [a] [] q] [] pos) (tLenSetT K ta) := by
  subst hK
  refine ⟨fun pins s σ H Q I h => ?_⟩
  refine Call_ (ld_blt I hg hm PySem.boot_len ?_)
  refine PyProof.Rows.callWith_builtin1 (PyProof.Rows.args_cons ?_ rfl) rfl rfl
  refine Call_ (ld_blt I hg2 hm2 PyProof.Rows.boot_set ?_)
  refine PyProof.Rows.callWith_type1 (PyProof.Rows.args_cons (thn (ha.run pins s σ H _ I h) fun v s1 ⟨x, H1, I1, r1, q1⟩ => PyProof.Rows.args_nil ?_) na) na rfl
  obtain ⟨l, ns, rfl, hq, h1, q1⟩ := q1
  cases r1
  obtain ⟨its, rv, pt, hz⟩ := I1.tuple hq
  have hi : IntsAre its.toArray.toList ns := ints_of_vals rv
  refine call_set_tupI ns (I1.ok.hd hc) (show s1.heap.IsTuple l its.toArray from pt) hi (by unfold scanBound; omega) fun h' tk c R1 hcn k => ?_
  obtain ⟨o, es, ep, t, ho, hex, hdt, g, nd, hm2, hb, hf, hn, hr, hl2⟩ := R1
  refine PyProof.Rows.args_nil ?_
  have I2 : Inv X pins σ H1 { s1 with heap := h', toks := tk } := I1.kept k
  have hsub : ∀ x ∈ es.toList.map keyOf, x ∈ ns := fun x hx => of_decide_eq_true ((hm2 x).mpr hx)
  have hsup : ∀ x ∈ ns, x ∈ es.toList.map keyOf := fun x hx => (hm2 x).mp (decide_eq_true hx)
  have hlen : (es.toList.map keyOf).length = es.size := by rw [List.length_map, Array.length_toList]
  have hc2 : es.size = ns.length ↔ ns.Nodup := by
    obtain ⟨a1, a2⟩ := sub_len ns _ nd hsub
    refine ⟨fun e => a2 (by rw [hlen, e]), fun hnd => ?_⟩
    have b1 := (sub_len (es.toList.map keyOf) ns hnd hsup).1
    omega
  exact call_len_set ho hex hdt hf (by unfold scanBound at hb; omega) ⟨.int es.size, H1, I2.tok _, ⟨_, rfl⟩, q1 es.size hc2⟩
end
end D

namespace D
open PySem PySem.Spec PyProof.Rows L2
section
variable {X : Cx} {C g : Addr} {n : Nat} {CX : CXT} {sp : Sp} {E : XK} {fd : FuncData} {ps : List Str}
/-- x op y, two instances of one class with its own def for op -/
def rOwnI (C : Addr) (sp : Sp) (E : XK) : R2 := fun x y H Q => ∃ a dx fs b dy gs, x = .ref a ∧ y = .ref b ∧ H a = some (.ins C dx fs) ∧ H b = some (.ins C dy gs) ∧ sp [x, y] H Q E
theorem op_ownI {op : CmpOp} (hop : ∀ a b, compareOp op a b = richCompare op a b) (hs : PySem.W.findIn X.K (.ref C) (cmpInfo op).2.1 = some (some (.ref g))) (hf : PySem.W.isFn X.K (.ref g) = true) (hn : PySem.W.notFirst X.K C (.ref C) = true)
    (F : FnOk X.prog X.w X.K X.mg X.base CX n g fd ps sp) (hb : Binds X.K fd ps []) (hr : Room n X.A) (hx : Passes CX X E) : OpR X (compareOp op) (rOwnI C sp E) := by
  intro pins s σ H x y v u Q I rx ry h
  obtain ⟨a, dx, fs, b, dy, gs, rfl, rfl, ha, hb2, q⟩ := h
  cases (show v = Value.ref a from rx)
  cases (show u = Value.ref b from ry)
  obtain ⟨mA, O, _⟩ := ins_get I.hok ha
  obtain ⟨od, J, _⟩ := O.look
  obtain ⟨mA', O', _⟩ := ins_get I.hok hb2
  obtain ⟨od', J', _⟩ := O'.look
  obtain ⟨m, hF⟩ := I.fr
  rw [hop]
  refine PySem.W.cmp_K (op := op) (tb := .ref C) hr.units0 hF I.ok.mod.kin J J'.type hn hs hf ?_
  refine wpAny_mono (run_fn (us := [.ref a, .ref b]) (vs := [.ref a, .ref b]) F hr hb .nil hx I (.cons rfl (.cons rfl .nil)) q) (fun w s' z => ?_) fun _ _ x => x
  obtain ⟨z', H', I', rz, qz⟩ := z
  exact SlX.cmpback rz ⟨z', H', I', rz, qz⟩
/-- an instance is called -/
def tCallOI (C : Addr) (sp : Sp) (E : XK) (tf : TE) (t : TA) : TE := fun σ H Q => tf σ H fun y H1 => ∃ a dx fs, y = V.ref a ∧ t σ H1 fun vs H2 => H2 a = some (.ins C dx fs) ∧ sp (V.ref a :: vs) H2 Q E
theorem pe_callOI {fe e : Expr} {es : List Expr} {pos : Pos} {tf : TE} {t : TA} (c : StX.CallO X.K C g) (F : FnOk X.prog X.w X.K X.mg X.base CX n g fd ps sp) (hb : Binds X.K fd ps []) (hr : Room n X.A) (hx : Passes CX X E) (hf : PE X fe tf) (ha : PA X (e :: es) t)
    (ht : eval (.Call fe (e :: es) [] pos) X.env = (do callWith pos (← eval fe X.env) [] (backTo pos (starEach (e :: es) X.env)) (backToKw pos (keywordEach [] X.env))) := by rfl)
    (he : starEach (e :: es) X.env = (false, eval e X.env) :: starEach es X.env := by rfl) (hpl : (backTo pos (starEach es X.env)).any (·.1) = false := by rfl) : PE X (.Call fe (e :: es) [] pos) (tCallOI C sp E tf t) := by
  refine ⟨fun pins s σ H Q I h => ?_⟩
  refine Call_ (thn (hf.run pins s σ H _ I h) fun u s1 ⟨y, H1, I1, ry, a, dx, fs, ey, q⟩ => ?_) ht
  subst ey
  cases (show u = Value.ref a from ry)
  refine StX.callO_with (thn (ha.run pos pins s1 σ H1 _ I1 q) fun us s2 ⟨vs, H2, I2, r, hi, q2⟩ => ?_) he hpl
  obtain ⟨ox, od, J, hd⟩ := StX.insC_at I2 (.inr ⟨dx, fs, hi⟩)
  exact ⟨⟨C, ox, od, J, hd⟩, StX.run_callO c (F.raw hb .nil) hr hx I2 (.inr ⟨dx, fs, hi⟩) r (by rw [List.append_nil]; exact q2)⟩
/-- isinstance of an own class -/
def rIsC (C : Addr) : List V → Hp → VK → Prop := fun xs H Q => ∃ a dx fs, xs = [.ref a, .ref C] ∧ H a = some (.ins C dx fs) ∧ Q (.bl true) H
theorem call_isCK (c : C8.InsC X.K C) : CallR X (.builtin "isinstance") (rIsC C) := C8.call_isC c
end
end D

namespace PySem
theorem meets_enumerate_newT (l : Addr) (items : Array Value) :
    Meets (Builtin.«enumerate.__new__» ⟨[.type "enumerate", .ref l], []⟩) (fun _ R s => s.heap.IsTuple l items ∧
      R (.ok (.ret (.ref (s.heap.push { cls := .type "tuple_iterator", data := .fields #[.ref l, .int 0 0] }).objs.size)))
        { s with heap := (s.heap.push { cls := .type "tuple_iterator", data := .fields #[.ref l, .int 0 0] }).push { cls := .type "enumerate", data := .fields #[.none, .bool false, .ref s.heap.objs.size, rawInt 0, .none, .none] } }) :=
  .of_wp fun prog w A R s h => by
    obtain ⟨hp, g, d, tk, os⟩ := s; obtain ⟨hL, h⟩ := h
    have hsub := sub_enumerate
    wp_walk
    refine wpAny_stack_any fun st => wpAny_pure ?_
    split
    · rename_i c _ _ _ _ _
      cases (c == Value.type "enumerate")
      · wp_walk using wpAny_pyIter_tuple hL
        exact ⟨_, rfl, h⟩
      · wp_walk using wpAny_pyIter_tuple hL
        exact ⟨_, rfl, h⟩
    · wp_walk using wpAny_pyIter_tuple hL
      exact ⟨_, rfl, h⟩
section
variable {prog : Program} {w : World} {A : Around} {E : Value → Shared → Prop} {s : Shared}
theorem call_enumerate_tuple {l : Addr} {items : Array Value} {Q : Value → Shared → Prop} (hL : s.heap.IsTuple l items)
    (h : ∀ h', IsEnum h' (s.heap.objs.size + 1) s.heap.objs.size 0 .none → h'.IsTupleIter s.heap.objs.size l 0 → h'.objs.size = s.heap.objs.size + 2 →
      (∀ b o, s.heap.get? b = some o → h'.get? b = some o) → Q (.ref (s.heap.objs.size + 1)) { s with heap := h' }) :
    wpAny (model prog w) A (call (.type "enumerate") [.ref l]) Q E s := by
  refine callType_new F.called_enumerate (by decide) (F.typeCall_enumerate_1 _) (F.newCall_enumerate_1 _) (fun obj => F.args_object_init_2 obj _) F.entry_enumerate_new
    (meets_enumerate_newT l items) ⟨hL, ?_⟩
  have hz : (s.heap.push { cls := .type "tuple_iterator", data := .fields #[.ref l, .int 0 0] }).objs.size = s.heap.objs.size + 1 := Heap.size_push ..
  show _ ∧ _
  rw [hz]
  have he : IsEnum ((s.heap.push { cls := .type "tuple_iterator", data := .fields #[.ref l, .int 0 0] }).push
      { cls := .type "enumerate", data := .fields #[.none, .bool false, .ref s.heap.objs.size, rawInt 0, .none, .none] }) (s.heap.objs.size + 1) s.heap.objs.size 0 .none := by
    have := Heap.get?_push_size (s.heap.push { cls := .type "tuple_iterator", data := .fields #[.ref l, .int 0 0] })
      (o := { cls := .type "enumerate", data := .fields #[.none, .bool false, .ref s.heap.objs.size, rawInt 0, .none, .none] }) rfl
    rw [hz] at this; exact this
  refine ⟨⟨_, he, rfl⟩, h _ he ⟨_, Heap.get?_push_of_some _ (Heap.get?_push_size _ rfl), rfl, rfl⟩ (by rw [Heap.size_push, hz]) fun b o x => Heap.get?_push_of_some _ (Heap.get?_push_of_some _ x)⟩
end
end PySem
namespace D
open PySem PySem.Spec PyProof.Rows L2
/-- the tuple at a, each item in a new pair with its place -/
def Itet (K : PySem.W.Frag) (a : Addr) : It :=
  ⟨fun i H => ∃ (xs : List V) (x : V), SqT K H a xs ∧ xs[i]? = some x, fun i H v H' => ∃ T x, v = .ref T ∧ H T = none ∧ H' = upd H T (.tup [.int (i : Nat), x]) ∧ ∀ xs, SqT K H a xs → xs[i]? = some x, fun i H => ∃ xs : List V, SqT K H a xs ∧ xs.length = i⟩
theorem turn_enumT {P : Program} {w : World} {K : PySem.W.Frag} {elts : List Expr} {kk : Nat} {tpos : Pos} (a e it : Addr) :
    Turn P w K (.Tuple elts kk tpos) (Itet K a) [e, it] e (fun i h => (∃ old, IsEnum h e it ((i : Nat) : Int) old) ∧ h.IsTupleIter it a i ∧ e ≠ it) where
  mem := by simp
  obj := fun i h st b hb => by
    obtain ⟨⟨old, he⟩, ⟨o, ho, hc, hd⟩, _⟩ := st
    have e' : b = e ∨ b = it := by simpa using hb
    rcases e' with z | z
    · rw [z]; exact ⟨_, he, fun v q => nomatch q⟩
    · rw [z]; exact ⟨o, ho, fun v q => by rw [hd] at q; cases q⟩
  keep := fun i h h' st k => let ⟨⟨old, he⟩, hi, hne⟩ := st; ⟨⟨old, k e (by simp) _ he⟩, hi.at fun o q => k it (by simp) o q, hne⟩
  item := by
    intro X hP hw hK hc i pins s σ H E I hf st hg
    subst hP hw hK
    obtain ⟨⟨old, he⟩, hit, hne⟩ := st
    obtain ⟨xs, x, hq, hx⟩ := hg
    obtain ⟨its, rv, p, hz⟩ := I.tuple hq
    have p2 : s.heap.IsTuple a its.toArray := p
    obtain ⟨u, hu, ru⟩ := rv.get hx
    have hel : e < s.heap.objs.size := Heap.lt_size he
    have hil : it < s.heap.objs.size := by obtain ⟨_, q, _⟩ := hit; exact Heap.lt_size q
    have hai : a ≠ it := fun z => by
      obtain ⟨o1, q1, c1, _⟩ := hit
      obtain ⟨o2, q2, c2, _⟩ := p2
      rw [z, q1] at q2
      cases q2
      rw [c1] at c2
      exact absurd c2 (by decide)
    have hea : e ≠ a := fun z => by
      obtain ⟨o2, q2, c2, _⟩ := p2
      rw [← z, he] at q2
      cases q2
      exact absurd (show Value.type "enumerate" = Value.type "tuple" from c2) (by decide)
    have hlt : i < its.toArray.size := by
      have := (List.getElem?_eq_some_iff.mp hu).1
      simpa using this
    refine wpAny_pyNext_enum_itemD (Draws.tuple (A := X.A.in1) (I.ok.hd hc) it a hai its.toArray) he ⟨hit, p2⟩ hlt hne (fun z => by
      rcases List.mem_cons.mp z with z | z
      · exact hne z
      · exact hea (List.mem_singleton.mp z)) fun x' h' tk hP ho hst' hT hsz hk => ?_
    obtain rfl : x' = u := by
      have h1 : its.toArray[i]? = some x' := hP
      rw [List.getElem?_toArray, hu] at h1
      exact (Option.some.inj h1).symm
    refine ⟨_, rfl, wpAny_letOwnedTupleGo_enum (s := { s with heap := h', toks := tk + 1 }) ho fun h'' he' sb => ?_⟩
    have hT2 : h''.get? s.heap.objs.size = some { cls := .type "tuple", data := .seq #[.int i tk, x'] } := (sb.2 _ (Nat.ne_of_gt hel)).trans hT
    have new : ObjOk X.prog X.w (upd H s.heap.objs.size (.tup [.int (i : Nat), x])) h'' s.heap.objs.size (.tup [.int (i : Nat), x]) :=
      ⟨by show 2 ≤ sizeLine; decide, [.int i tk, x'], .cons ⟨_, rfl⟩ (.cons ru .nil), ⟨_, hT2, rfl, _, rfl⟩⟩
    have I1 : Inv X pins σ (upd H s.heap.objs.size (.tup [.int (i : Nat), x])) { s with heap := h'', toks := tk + 1 } :=
      I.turnedNew (ch := [e, it]) (fun b ob hb q => (sb.2 b (fun z => hb (by simp [z]))).trans (hk b ob (fun z => hb (by simp [z])) (fun z => hb (by simp [z])) q)) hf (Nat.le_refl _) new
    refine ⟨.ref s.heap.objs.size, _, I1, rfl, ⟨_, x, rfl, I.hok.fresh (Nat.le_refl _), rfl, fun ys hy => by rw [I.tuple_inj hy hq]; exact hx⟩, ⟨⟨x', ?_⟩, hst'.1.at fun o q => (sb.2 it (Ne.symm hne)).trans q, hne⟩, fun b hb => ?_⟩
    · have e1 : ((i + 1 : Nat) : Int) = (i : Int) + 1 := by omega
      rw [e1]; exact he'
    · have hb' : b < s.heap.objs.size := by
        have e' : b = e ∨ b = it := by simpa using hb
        rcases e' with z | z
        · rw [z]; exact hel
        · rw [z]; exact hil
      rw [upd_ne (Nat.ne_of_lt hb')]
      exact (hf b hb).1
  done := by
    intro X hP hw hK hc i pins s σ H E I hf st hg
    subst hP hw hK
    obtain ⟨⟨old, he⟩, hit, hne⟩ := st
    obtain ⟨xs, hq, hx⟩ := hg
    obtain ⟨its, rv, p, hz⟩ := I.tuple hq
    have p2 : s.heap.IsTuple a its.toArray := p
    obtain ⟨f0, f1, f2, f3, f4, f5⟩ := hf it (by simp)
    have hl := rv.length
    have hai : a ≠ it := fun z => by
      obtain ⟨o1, q1, c1, _⟩ := hit
      obtain ⟨o2, q2, c2, _⟩ := p2
      rw [z, q1] at q2
      cases q2
      rw [c1] at c2
      exact absurd c2 (by decide)
    have en : i = its.toArray.size := by
      rw [List.size_toArray]
      omega
    exact wpAny_pyNext_enum_endD (Draws.tuple (A := X.A.in1) (I.ok.hd hc) it a hai its.toArray) he (show _ ∧ _ from ⟨by rw [← en]; exact hit, p2⟩) fun h' eb => ⟨rfl, I.turned (t' := s.toks) (fun b o hb q => eb b o hb q) f0 f1 f3 f4 f5⟩
  self := fun A i s Q E st h => let ⟨⟨_, he⟩, _⟩ := st; wpAny_pyIter_enum he h
def iEnumT (K : PySem.W.Frag) (ta : TA) : TI := fun σ H R => ta σ H fun vs H1 => ∃ a xs, vs = [.ref a] ∧ SqT K H1 a xs ∧ R (Itet K a) H1
theorem pi_enumTK {K : PySem.W.Frag} {X : Cx} {e : Expr} {ta : TA} {p pos tpos : Pos} {elts : List Expr} {kk : Nat} (hK : X.K = K) (hg : Gl X "enumerate") (hm : X.mg "enumerate" = none) (ha : PA X [e] ta) (hs : starEach [e] X.env = [(false, eval e X.env)] := by rfl) :
    PI X (.Tuple elts kk tpos) (.Call (.Name "enumerate" p) [e] [] pos) (iEnumT K ta) := by
  subst hK
  refine ⟨fun pins s σ H R I h => ?_⟩
  refine Call_ (ld_blt I hg hm boot_enumerate (PyProof.Rows.callWith_type1 (thn (ha.run pos pins s σ H _ I h) fun us s1 ⟨vs, H1, I1, r1, q1⟩ => ?_) hs rfl))
  obtain ⟨a, xs, ex, hq, q⟩ := q1
  subst ex
  cases r1 with
  | cons r rr =>
    cases rr
    cases r
    obtain ⟨its, rv, p', hz⟩ := I1.tuple hq
    refine call_enumerate_tuple (show s1.heap.IsTuple a its.toArray from p') fun h' he hit hsz hk => wpAny_pyIter_enum he ?_
    have I2 : Inv X pins σ H1 { s1 with heap := h' } := I1.kept (t' := s1.toks) hk
    refine ⟨s1.heap.objs.size + 1, [s1.heap.objs.size + 1, s1.heap.objs.size], _, _, H1, rfl, I2, turn_enumT a (s1.heap.objs.size + 1) s1.heap.objs.size, ⟨⟨.none, he⟩, hit, Nat.succ_ne_self _⟩, fun b hb => ?_, q⟩
    have e' : b = s1.heap.objs.size + 1 ∨ b = s1.heap.objs.size := by simpa using hb
    have hle : s1.heap.objs.size ≤ b := by
      rcases e' with z | z
      · rw [z]; exact Nat.le_add_right _ _
      · rw [z]; exact Nat.le_refl _
    exact I1.fpOk hle (I1.hok.fresh hle)
theorem for_enumT {K : PySem.W.Frag} {a : Addr} {xs : List V} {g : TG} {tb : TS} {D : Ends} {σ : L2.St} {H : Hp} (Pv : Nat → L2.St → Hp → Prop) (h0 : Pv 0 σ H) (hl : ∀ i σ H, i ≤ xs.length → Pv i σ H → SqT K H a xs)
    (hs : ∀ i x T σ H, xs[i]? = some x → H T = none → Pv i σ H → g (.ref T) σ (upd H T (.tup [.int (i : Nat), x])) fun σ2 H2 => tb { D with nx := Pv (i + 1), ct := Pv (i + 1), bk := D.nx } σ2 H2) (hd : ∀ σ H, Pv xs.length σ H → D.nx σ H) :
    ∃ W : Nat → Nat → L2.St → Hp → Prop, (∃ m, W 0 m σ H) ∧ ∀ i m σ H, W i m σ H →
      ((Itet K a).stop i H ∧ D.nx σ H) ∨ ((Itet K a).go i H ∧ ∃ N : L2.St → Hp → Prop, (∀ σ' H', N σ' H' → ∃ m', m' < m ∧ W (i + 1) m' σ' H') ∧ ∀ x H', (Itet K a).yld i H x H' → g x σ H' fun σ2 H2 => tb { D with nx := N, ct := N, bk := D.nx } σ2 H2) := by
  refine ⟨fun i m σ H => m = xs.length - i ∧ i ≤ xs.length ∧ Pv i σ H, ⟨xs.length, by simp, Nat.zero_le _, h0⟩, ?_⟩
  rintro i m σ H ⟨rfl, hi, p⟩
  have q := hl i σ H hi p
  by_cases hlt : i < xs.length
  · refine .inr ⟨⟨xs, xs[i], q, by simp [hlt]⟩, Pv (i + 1), fun σ' H' p' => ⟨xs.length - (i + 1), by omega, rfl, hlt, p'⟩, fun x H' y => ?_⟩
    obtain ⟨T, z, rfl, hT, rfl, hz⟩ := y
    exact hs i z T σ _ (hz xs q) hT p
  · have e : i = xs.length := by omega
    subst e
    exact .inl ⟨⟨xs, q, rfl⟩, hd σ H p⟩
/-- comprehensions over enumerate -/
theorem lc_enum {K : PySem.W.Frag} {a : Addr} {xs : List V} {g : TG} {tt : TT} {te : TE} {vs : List Nat} {σ : L2.St} {H1 : Hp} {D : Addr} {Qd : Hp → Prop} (Pv : Nat → Hp → Prop) (h0 : Pv 0 (upd H1 D (.lst []))) (hl : ∀ i H, i ≤ xs.length → Pv i H → SqL K H a xs)
    (hs : ∀ i x T H, xs[i]? = some x → H T = none → Pv i H → g (.ref T) (wipe σ vs) (upd H T (.tup [.int (i : Nat), x])) fun σ2 H2 => wipe σ2 vs = wipe σ vs ∧ tt σ2 H2 fun b H3 =>
      if b = true then te σ2 H3 fun y H4 => ∃ acc, H4 D = some (.lst acc) ∧ acc.length < sizeLine ∧ Pv (i + 1) (upd H4 D (.lst (acc ++ [y]))) else Pv (i + 1) H3) (hd : ∀ H, Pv xs.length H → Qd H) :
    ∃ W : Nat → Nat → Hp → Prop, (∃ m, W 0 m (upd H1 D (.lst []))) ∧ ∀ i m H, W i m H →
      ((Ite K a).stop i H ∧ Qd H) ∨ ((Ite K a).go i H ∧ ∃ Nx : Hp → Prop, (∀ H', Nx H' → ∃ m', m' < m ∧ W (i + 1) m' H') ∧ ∀ x H', (Ite K a).yld i H x H' → g x (wipe σ vs) H' fun σ2 H2 => wipe σ2 vs = wipe σ vs ∧ tt σ2 H2 fun b H3 =>
        if b = true then te σ2 H3 fun y H4 => ∃ acc, H4 D = some (.lst acc) ∧ acc.length < sizeLine ∧ Nx (upd H4 D (.lst (acc ++ [y]))) else Nx H3) := by
  refine ⟨fun i m H => m = xs.length - i ∧ i ≤ xs.length ∧ Pv i H, ⟨xs.length, by simp, Nat.zero_le _, h0⟩, ?_⟩
  rintro i m H ⟨rfl, hi, p⟩
  have q := hl i H hi p
  by_cases hlt : i < xs.length
  · refine .inr ⟨⟨xs, xs[i], q, by simp [hlt]⟩, Pv (i + 1), fun H' p' => ⟨xs.length - (i + 1), by omega, rfl, hlt, p'⟩, fun x H' y => ?_⟩
    obtain ⟨T, z, rfl, hT, rfl, hz⟩ := y
    exact hs i z T _ (hz xs q) hT p
  · have e : i = xs.length := by omega
    subst e
    exact .inl ⟨⟨xs, q, Nat.le_refl _⟩, hd H p⟩
theorem lc_enumT {K : PySem.W.Frag} {a : Addr} {xs : List V} {g : TG} {tt : TT} {te : TE} {vs : List Nat} {σ : L2.St} {H1 : Hp} {D : Addr} {Qd : Hp → Prop} (Pv : Nat → Hp → Prop) (h0 : Pv 0 (upd H1 D (.lst []))) (hl : ∀ i H, i ≤ xs.length → Pv i H → SqT K H a xs)
    (hs : ∀ i x T H, xs[i]? = some x → H T = none → Pv i H → g (.ref T) (wipe σ vs) (upd H T (.tup [.int (i : Nat), x])) fun σ2 H2 => wipe σ2 vs = wipe σ vs ∧ tt σ2 H2 fun b H3 =>
      if b = true then te σ2 H3 fun y H4 => ∃ acc, H4 D = some (.lst acc) ∧ acc.length < sizeLine ∧ Pv (i + 1) (upd H4 D (.lst (acc ++ [y]))) else Pv (i + 1) H3) (hd : ∀ H, Pv xs.length H → Qd H) :
    ∃ W : Nat → Nat → Hp → Prop, (∃ m, W 0 m (upd H1 D (.lst []))) ∧ ∀ i m H, W i m H →
      ((Itet K a).stop i H ∧ Qd H) ∨ ((Itet K a).go i H ∧ ∃ Nx : Hp → Prop, (∀ H', Nx H' → ∃ m', m' < m ∧ W (i + 1) m' H') ∧ ∀ x H', (Itet K a).yld i H x H' → g x (wipe σ vs) H' fun σ2 H2 => wipe σ2 vs = wipe σ vs ∧ tt σ2 H2 fun b H3 =>
        if b = true then te σ2 H3 fun y H4 => ∃ acc, H4 D = some (.lst acc) ∧ acc.length < sizeLine ∧ Nx (upd H4 D (.lst (acc ++ [y]))) else Nx H3) := by
  refine ⟨fun i m H => m = xs.length - i ∧ i ≤ xs.length ∧ Pv i H, ⟨xs.length, by simp, Nat.zero_le _, h0⟩, ?_⟩
  rintro i m H ⟨rfl, hi, p⟩
  have q := hl i H hi p
  by_cases hlt : i < xs.length
  · refine .inr ⟨⟨xs, xs[i], q, by simp [hlt]⟩, Pv (i + 1), fun H' p' => ⟨xs.length - (i + 1), by omega, rfl, hlt, p'⟩, fun x H' y => ?_⟩
    obtain ⟨T, z, rfl, hT, rfl, hz⟩ := y
    exact hs i z T _ (hz xs q) hT p
  · have e : i = xs.length := by omega
    subst e
    exact .inl ⟨⟨xs, q, rfl⟩, hd H p⟩
/-- the same where each element is a value that is known: new things may be made on the way -/
theorem lc_enumV {K : PySem.W.Frag} {a : Addr} {xs ys : List V} {g : TG} {tt : TT} {te : TE} {vs : List Nat} {σ : L2.St} {H : Hp} {D : Addr} {Qd : Hp → Prop} (hD : H D = none) (hS : SqL K H a xs) (hn : ys.length = xs.length) (hz : xs.length ≤ 1000000)
    (hs : ∀ (i : Nat) (x y : V) (T : Addr) (H' : Hp) (C : VK) (N : Hp → Prop), xs[i]? = some x → ys[i]? = some y → H' T = none → Same H H' → H' D ≠ none → (∀ H2, Same (upd H' T (.tup [.int (i : Nat), x])) H2 → C y H2) → g (.ref T) (wipe σ vs) (upd H' T (.tup [.int (i : Nat), x])) fun σ2 H2 => wipe σ2 vs = wipe σ vs ∧ tt σ2 H2 fun b H3 => if b = true then te σ2 H3 C else N H3)
    (hd : ∀ H', Same H H' → H' D = some (.lst ys) → Qd H') :
    ∃ W : Nat → Nat → Hp → Prop, (∃ m, W 0 m (upd H D (.lst []))) ∧ ∀ i m H, W i m H →
      ((Ite K a).stop i H ∧ Qd H) ∨ ((Ite K a).go i H ∧ ∃ Nx : Hp → Prop, (∀ H', Nx H' → ∃ m', m' < m ∧ W (i + 1) m' H') ∧ ∀ x H', (Ite K a).yld i H x H' → g x (wipe σ vs) H' fun σ2 H2 => wipe σ2 vs = wipe σ vs ∧ tt σ2 H2 fun b H3 =>
        if b = true then te σ2 H3 fun y H4 => ∃ acc, H4 D = some (.lst acc) ∧ acc.length < sizeLine ∧ Nx (upd H4 D (.lst (acc ++ [y]))) else Nx H3) := by
  refine lc_enum (K := K) (a := a) (xs := xs) (fun i H' => Same H H' ∧ H' D = some (.lst (ys.take i))) ⟨same_new hD, by rw [upd_same]; rfl⟩ (fun i H' _ p => p.1.seq hS) (fun i x T H' hx hT p => ?_) (fun H' p => ?_)
  · have hi : i < ys.length := by
      rw [hn]
      exact (List.getElem?_eq_some_iff.mp hx).1
    refine hs i x ys[i] T H' _ _ hx (List.getElem?_eq_getElem hi) hT p.1 (ne_none p.2) fun H2 s2 => ⟨_, s2 _ _ (same_new hT _ _ p.2), ?_, ?_, ?_⟩
    · rw [List.length_take]
      exact small1000000 (by omega)
    · exact same_put (p.1.trans ((same_new hT).trans s2)) hD
    · rw [upd_same, List.take_add_one, List.getElem?_eq_getElem hi]
      rfl
  · refine hd H' p.1 ?_
    have e := p.2
    rw [← hn, List.take_length] at e
    exact e
theorem lc_enumTV {K : PySem.W.Frag} {a : Addr} {xs ys : List V} {g : TG} {tt : TT} {te : TE} {vs : List Nat} {σ : L2.St} {H : Hp} {D : Addr} {Qd : Hp → Prop} (hD : H D = none) (hS : SqT K H a xs) (hn : ys.length = xs.length) (hz : xs.length ≤ 1000000)
    (hs : ∀ (i : Nat) (x y : V) (T : Addr) (H' : Hp) (C : VK) (N : Hp → Prop), xs[i]? = some x → ys[i]? = some y → H' T = none → Same H H' → H' D ≠ none → (∀ H2, Same (upd H' T (.tup [.int (i : Nat), x])) H2 → C y H2) → g (.ref T) (wipe σ vs) (upd H' T (.tup [.int (i : Nat), x])) fun σ2 H2 => wipe σ2 vs = wipe σ vs ∧ tt σ2 H2 fun b H3 => if b = true then te σ2 H3 C else N H3)
    (hd : ∀ H', Same H H' → H' D = some (.lst ys) → Qd H') :
    ∃ W : Nat → Nat → Hp → Prop, (∃ m, W 0 m (upd H D (.lst []))) ∧ ∀ i m H, W i m H →
      ((Itet K a).stop i H ∧ Qd H) ∨ ((Itet K a).go i H ∧ ∃ Nx : Hp → Prop, (∀ H', Nx H' → ∃ m', m' < m ∧ W (i + 1) m' H') ∧ ∀ x H', (Itet K a).yld i H x H' → g x (wipe σ vs) H' fun σ2 H2 => wipe σ2 vs = wipe σ vs ∧ tt σ2 H2 fun b H3 =>
        if b = true then te σ2 H3 fun y H4 => ∃ acc, H4 D = some (.lst acc) ∧ acc.length < sizeLine ∧ Nx (upd H4 D (.lst (acc ++ [y]))) else Nx H3) := by
  refine lc_enumT (K := K) (a := a) (xs := xs) (fun i H' => Same H H' ∧ H' D = some (.lst (ys.take i))) ⟨same_new hD, by rw [upd_same]; rfl⟩ (fun i H' _ p => same_sqt p.1 hS) (fun i x T H' hx hT p => ?_) (fun H' p => ?_)
  · have hi : i < ys.length := by
      rw [hn]
      exact (List.getElem?_eq_some_iff.mp hx).1
    refine hs i x ys[i] T H' _ _ hx (List.getElem?_eq_getElem hi) hT p.1 (ne_none p.2) fun H2 s2 => ⟨_, s2 _ _ (same_new hT _ _ p.2), ?_, ?_, ?_⟩
    · rw [List.length_take]
      exact small1000000 (by omega)
    · exact same_put (p.1.trans ((same_new hT).trans s2)) hD
    · rw [upd_same, List.take_add_one, List.getElem?_eq_getElem hi]
      rfl
  · refine hd H' p.1 ?_
    have e := p.2
    rw [← hn, List.take_length] at e
    exact e
/-- elements are data that are made on the way -/
theorem lc_enumD {K : PySem.W.Frag} {a : Addr} {xs : List V} {ys : List PyData} {g : TG} {tt : TT} {te : TE} {vs : List Nat} {σ : L2.St} {H : Hp} {D : Addr} {Qd : Hp → Prop} (M : Ms) (hM : Mk M H) (hD : H D = none) (hS : SqL K H a xs) (hn : ys.length = xs.length) (hz : xs.length ≤ 1000000)
    (hs : ∀ (i : Nat) (x : V) (y : PyData) (T : Addr) (H' : Hp) (C : VK) (N : Hp → Prop), xs[i]? = some x → ys[i]? = some y → H' T = none → Same H H' → Mk (also M D) (upd H' T (.tup [.int (i : Nat), x])) → (∀ v H2, Same (upd H' T (.tup [.int (i : Nat), x])) H2 → Rp (also M D) H2 v y → C v H2) → g (.ref T) (wipe σ vs) (upd H' T (.tup [.int (i : Nat), x])) fun σ2 H2 => wipe σ2 vs = wipe σ vs ∧ tt σ2 H2 fun b H3 => if b = true then te σ2 H3 C else N H3)
    (hd : ∀ H', Same H H' → Ld M H' D ys → Qd H') :
    ∃ W : Nat → Nat → Hp → Prop, (∃ m, W 0 m (upd H D (.lst []))) ∧ ∀ i m H, W i m H →
      ((Ite K a).stop i H ∧ Qd H) ∨ ((Ite K a).go i H ∧ ∃ Nx : Hp → Prop, (∀ H', Nx H' → ∃ m', m' < m ∧ W (i + 1) m' H') ∧ ∀ x H', (Ite K a).yld i H x H' → g x (wipe σ vs) H' fun σ2 H2 => wipe σ2 vs = wipe σ vs ∧ tt σ2 H2 fun b H3 =>
        if b = true then te σ2 H3 fun y H4 => ∃ acc, H4 D = some (.lst acc) ∧ acc.length < sizeLine ∧ Nx (upd H4 D (.lst (acc ++ [y]))) else Nx H3) := by
  refine lc_enum (K := K) (a := a) (xs := xs) (fun i H' => Same H H' ∧ ∃ acc, H' D = some (.lst acc) ∧ RpAll (also M D) H' acc (ys.take i)) ⟨same_new hD, [], upd_same, by rw [List.take_zero]; exact .nil⟩ (fun i H' _ p => p.1.seq hS) (fun i x T H' hx hT p => ?_) (fun H' p => ?_)
  · obtain ⟨s, acc, e, r⟩ := p
    have hi : i < ys.length := by
      rw [hn]
      exact (List.getElem?_eq_some_iff.mp hx).1
    have hl := r.length
    rw [List.length_take] at hl
    have s1 : Same H' (upd H' T (.tup [.int (i : Nat), x])) := same_new hT
    refine hs i x ys[i] T H' _ _ hx (List.getElem?_eq_getElem hi) hT s (((hM.gr (Gr.same s)).also (ne_none e)).gr (Gr.same s1)) fun v H2 s2 rv => ?_
    refine ⟨acc, s2 _ _ (s1 _ _ e), small1000000 (by omega), ?_, acc ++ [v], upd_same, ?_⟩
    · exact same_put (s.trans (s1.trans s2)) hD
    · rw [List.take_add_one, List.getElem?_eq_getElem hi]
      exact ((r.sx (Sx.same (s1.trans s2))).append (.one rv)).sx (Sx.put (.inr rfl))
  · obtain ⟨s, acc, e, r⟩ := p
    rw [← hn, List.take_length] at r
    exact hd H' s ⟨hM.out hD, acc, e, r.less also_le⟩
end D
namespace D
open PySem PySem.Spec PyProof.Rows L2
theorem mt_lcountK {K : PySem.W.Frag} {X : Cx} (hK : X.K = K) : MtR X "list.count" (rCntI K) := by subst hK; exact mt_lcount
end D
namespace D
open PySem PySem.Spec PyProof.Rows L2
section
variable {X : Cx} {K : PySem.W.Frag} {o e : Expr} {es : List Expr} {to : TE} {t : TA} {name : Str} {apos cpos : Pos} {T id : String} {r : V → List V → Hp → VK → Prop}
theorem pe_bm0K2 (hK : X.K = K) (pa : PlainAttrs T) (slot : Slot T name id) (hty : typeOf (.builtin id) = pure (.type "method_descriptor")) (hm : MtR X id r) (ho : PE X o to)
    (hbase : attributeBase o name X.env (eval o X.env) = eval o X.env := by rfl) (hline : (apos.endLine == cpos.line) = true := by rfl) : PE X (.Call (.Attribute o name apos) [] [] cpos) (tBM0 K T r to) := by
  subst hK
  exact pe_bm0 pa slot hty hm ho hbase hline
theorem pe_bmK2 (hK : X.K = K) (pa : PlainAttrs T) (slot : Slot T name id) (hty : typeOf (.builtin id) = pure (.type "method_descriptor")) (hm : MtR X id r) (ho : PE X o to) (ha : PA X (e :: es) t)
    (hbase : attributeBase o name X.env (eval o X.env) = eval o X.env := by rfl)
    (hfew : ((backTo cpos (starEach (e :: es) X.env)).all (fun x => !x.1) && (backToKw cpos (keywordEach [] X.env)).all (fun x => x.1.isSome)
      && decide ((e :: es).length + ([] : List Keyword).length + (if ([] : List Keyword).isEmpty then 0 else 1) < 30)) = true := by rfl)
    (hline : (apos.endLine == cpos.line) = true := by rfl) (hs : starEach (e :: es) X.env = (false, eval e X.env) :: starEach es X.env := by rfl) (hplain : (backTo cpos (starEach es X.env)).any (·.1) = false := by rfl) :
    PE X (.Call (.Attribute o name apos) (e :: es) [] cpos) (tBM K T r to t) := by
  subst hK
  exact pe_bm pa slot hty hm ho ha hbase hfew hline hs hplain
end
end D

namespace D
open PySem PySem.Spec PyProof.Rows L2
/-- comprehensions' loops, whatever their bodies -/
theorem rng_loop {n : Nat} {lo : Int} {Qd : Hp → Prop} {H0 : Hp} {B : V → Hp → (Hp → Prop) → Prop} (Pv : Nat → Hp → Prop) (h0 : Pv 0 H0) (hs : ∀ i H, i < n → Pv i H → B (.int (lo + (i : Nat))) H (Pv (i + 1))) (hd : ∀ H, Pv n H → Qd H) :
    ∃ W : Nat → Nat → Hp → Prop, (∃ m, W 0 m H0) ∧ ∀ i m H, W i m H → ((Itr lo n).stop i H ∧ Qd H) ∨ ((Itr lo n).go i H ∧ ∃ Nx : Hp → Prop, (∀ H', Nx H' → ∃ m', m' < m ∧ W (i + 1) m' H') ∧ ∀ x H', (Itr lo n).yld i H x H' → B x H' Nx) := by
  refine ⟨fun i m H => m = n - i ∧ i ≤ n ∧ Pv i H, ⟨_, rfl, Nat.zero_le _, h0⟩, ?_⟩
  rintro i m H ⟨rfl, hi, p⟩
  by_cases hlt : i < n
  · refine .inr ⟨hlt, Pv (i + 1), fun H' p' => ⟨n - (i + 1), by omega, rfl, hlt, p'⟩, fun x H' y => ?_⟩
    obtain ⟨rfl, rfl⟩ := y
    exact hs i _ hlt p
  · have e : i = n := by omega
    subst e
    exact .inl ⟨Nat.le_refl _, hd H p⟩
theorem list_loop {K : PySem.W.Frag} {a : Addr} {xs : List V} {Qd : Hp → Prop} {H0 : Hp} {B : V → Hp → (Hp → Prop) → Prop} (Pv : Nat → Hp → Prop) (h0 : Pv 0 H0) (hl : ∀ i H, i ≤ xs.length → Pv i H → SqL K H a xs) (hs : ∀ i x H, xs[i]? = some x → Pv i H → B x H (Pv (i + 1))) (hd : ∀ H, Pv xs.length H → Qd H) :
    ∃ W : Nat → Nat → Hp → Prop, (∃ m, W 0 m H0) ∧ ∀ i m H, W i m H → ((Itl K a).stop i H ∧ Qd H) ∨ ((Itl K a).go i H ∧ ∃ Nx : Hp → Prop, (∀ H', Nx H' → ∃ m', m' < m ∧ W (i + 1) m' H') ∧ ∀ x H', (Itl K a).yld i H x H' → B x H' Nx) := by
  refine ⟨fun i m H => m = xs.length - i ∧ i ≤ xs.length ∧ Pv i H, ⟨_, rfl, Nat.zero_le _, h0⟩, ?_⟩
  rintro i m H ⟨rfl, hi, p⟩
  have q := hl i H hi p
  by_cases hlt : i < xs.length
  · refine .inr ⟨⟨xs, xs[i], q, by simp [hlt]⟩, Pv (i + 1), fun H' p' => ⟨xs.length - (i + 1), by omega, rfl, hlt, p'⟩, fun x H' y => ?_⟩
    obtain ⟨e, y⟩ := y
    subst e
    exact hs i x _ (y xs q) p
  · have e : i = xs.length := by omega
    subst e
    exact .inl ⟨⟨xs, q, Nat.le_refl _⟩, hd H p⟩
theorem tup_loop {K : PySem.W.Frag} {a : Addr} {xs : List V} {Qd : Hp → Prop} {H0 : Hp} {B : V → Hp → (Hp → Prop) → Prop} (Pv : Nat → Hp → Prop) (h0 : Pv 0 H0) (hl : ∀ i H, i ≤ xs.length → Pv i H → SqT K H a xs) (hs : ∀ i x H, xs[i]? = some x → Pv i H → B x H (Pv (i + 1))) (hd : ∀ H, Pv xs.length H → Qd H) :
    ∃ W : Nat → Nat → Hp → Prop, (∃ m, W 0 m H0) ∧ ∀ i m H, W i m H → ((Itt K a).stop i H ∧ Qd H) ∨ ((Itt K a).go i H ∧ ∃ Nx : Hp → Prop, (∀ H', Nx H' → ∃ m', m' < m ∧ W (i + 1) m' H') ∧ ∀ x H', (Itt K a).yld i H x H' → B x H' Nx) := by
  refine ⟨fun i m H => m = xs.length - i ∧ i ≤ xs.length ∧ Pv i H, ⟨_, rfl, Nat.zero_le _, h0⟩, ?_⟩
  rintro i m H ⟨rfl, hi, p⟩
  have q := hl i H hi p
  by_cases hlt : i < xs.length
  · refine .inr ⟨⟨xs, xs[i], q, by simp [hlt]⟩, Pv (i + 1), fun H' p' => ⟨xs.length - (i + 1), by omega, rfl, hlt, p'⟩, fun x H' y => ?_⟩
    obtain ⟨e, y⟩ := y
    subst e
    exact hs i x _ (y xs q) p
  · have e : i = xs.length := by omega
    subst e
    exact .inl ⟨⟨xs, q, Nat.le_refl _⟩, hd H p⟩
/-- a dict made of pairs of whole numbers -/
def toldK (ps : List (Int × Int)) : List (Key × V) := ps.foldl (fun k p => putK k (.inl p.2) (.int p.1)) []
theorem putK_le (c : List (Key × V)) (k : Key) (x : V) : (putK c k x).length ≤ c.length + 1 := by
  unfold putK
  split
  · rw [List.length_map]; omega
  · rw [List.length_append]; exact Nat.le_refl _
theorem toldK_snoc (ps : List (Int × Int)) (p : Int × Int) : toldK (ps ++ [p]) = putK (toldK ps) (.inl p.2) (.int p.1) := by
  unfold toldK
  rw [List.foldl_append]
  rfl
theorem told_all (ps : List (Int × Int)) : ∀ qs : List (Int × Int), (∀ p ∈ qs, p ∈ ps) → ∀ s w, valV (toldK qs) (.inl s) = some w → ∃ v, w = .int v ∧ (v, s) ∈ ps := by
  suffices h : ∀ (qs : List (Int × Int)) (c : List (Key × V)), (∀ p ∈ qs, p ∈ ps) → (∀ s w, valV c (.inl s) = some w → ∃ v, w = .int v ∧ (v, s) ∈ ps) → ∀ s w, valV (qs.foldl (fun k p => putK k (.inl p.2) (.int p.1)) c) (.inl s) = some w → ∃ v, w = .int v ∧ (v, s) ∈ ps from fun qs hq => h qs [] hq (fun s w e => nomatch e)
  intro qs
  induction qs with
  | nil => intro c _ hc; exact hc
  | cons q r ih =>
    intro c hq hc
    refine ih _ (fun p hp => hq p (List.mem_cons_of_mem _ hp)) (fun s w e => ?_)
    rw [valV_put] at e
    split at e
    · rename_i e2
      cases e2
      cases e
      exact ⟨_, rfl, hq q List.mem_cons_self⟩
    · exact hc s w e
theorem told_mem : ∀ (qs : List (Int × Int)) (p : Int × Int), p ∈ qs → ∃ w, valV (toldK qs) (.inl p.2) = some w := by
  suffices h : ∀ (qs : List (Int × Int)) (c : List (Key × V)) (s : Int), ((∃ p ∈ qs, p.2 = s) ∨ ∃ w, valV c (.inl s) = some w) → ∃ w, valV (qs.foldl (fun k p => putK k (.inl p.2) (.int p.1)) c) (.inl s) = some w from fun qs p hp => h qs [] p.2 (.inl ⟨p, hp, rfl⟩)
  intro qs
  induction qs with
  | nil =>
    intro c s h
    rcases h with ⟨_, h, _⟩ | h
    · exact nomatch h
    · exact h
  | cons q r ih =>
    intro c s h
    refine ih _ s ?_
    rcases h with ⟨p, hp, e⟩ | ⟨w, e⟩
    · rcases List.mem_cons.mp hp with rfl | hp
      · exact .inr ⟨_, by rw [valV_put, if_pos (by rw [e])]⟩
      · exact .inl ⟨p, hp, e⟩
    · right
      rw [valV_put]
      split
      · exact ⟨_, rfl⟩
      · exact ⟨w, e⟩
/-- what such a dict tells of a pair -/
theorem told_get {ps : List (Int × Int)} {p : Int × Int} (h : p ∈ ps) : ∃ v, valV (toldK ps) (.inl p.2) = some (.int v) ∧ (v, p.2) ∈ ps := by
  obtain ⟨w, e⟩ := told_mem ps p h
  obtain ⟨v, rfl, hv⟩ := told_all ps ps (fun _ h => h) _ _ e
  exact ⟨v, e, hv⟩
end D

namespace D
open PySem PySem.Spec PyProof.Rows L2
/-! ### dict comprehensions whose keys are tuples (after the layer's own for ints and texts) -/
theorem d_dictSetT {X : Cx} {pins : List (Addr × Obj)} {σ : L2.St} {H : Hp} {s : Shared} {E : Value → Shared → Prop} {D : Addr} {kvs : List (List Key × V)} {k : List Key} {b : Addr} {v : V} {u r : Value} {Q : Unit → Shared → Prop} (hu : X.A.units + 1 < cLine) (I : Inv X pins σ H s) (hD : H D = some (.dT kvs)) (hz : kvs.length < sizeLine)
    (eb : H b = some (.tup (k.map kV))) (ry : RelV (.ref b) u) (rv : RelV v r) (h : ∀ s', Inv X pins σ (upd H D (.dT (putK kvs k v))) s' → Q () s') : wpAny (model X.prog X.w) X.A (dictSet D u r) Q E s := by
  cases (show u = Value.ref b from ry)
  obtain ⟨z, hd, xs, rel, dd⟩ := dt_of I.hok hD
  have hz' : xs.length ≤ sizeLine := by rw [← Paired.length rel]; exact z
  have hl : (putK kvs k v).length ≤ sizeLine := by have := length_putK kvs k v; omega
  refine wpAny_dictSet_heap (hsz := hz') (show (tupleKind (mixKind X.prog X.w)).room X.A from Nat.lt_of_succ_lt hu) (key_of I.hok eb) dd fun h' dd' hs => h _ ?_
  obtain ⟨q, es, ep, hq, h2, h3, h4, _, h5⟩ := dd'
  refine d_write I (by rw [hD]; exact True.intro) hs ⟨q, hq⟩ ⟨hl, hd, _, (rel.put k eb rv).keeps fun c ys ec => ?_, q, es, ep, hq, h2, h3, h4, h5⟩
  rw [upd_ne (ne_of ec hD (fun z => nomatch z))]
  exact ec
theorem key_rd {P : Program} {w : World} {H : Hp} {h : Heap} {a : Addr} {ks : List Key} (ok : HOk P w H h) (e : Rd H a (.tup (ks.map kV))) : (tupleKind (mixKind P w)).is h ks a := by
  obtain ⟨_, its, r, o, h1, h2, n, h3⟩ := (show ObjOk P w H h a (.tup (ks.map kV)) from rd_of ok e)
  exact ⟨o, its.toArray, n, h1, h2, h3, by simpa using items_are r⟩
section
variable {X : Cx}
/-- something holds of all contexts that a block may have -/
abbrev InBlk (X : Cx) (sc : Scope) (F : Cx → Prop) : Prop := ∀ (t : Shared) (G : Hp) (L : Addr) (cells : List (Str × Addr)) (feet : List Addr), F (X.blk t G sc (compEnvC sc cells L X.env) feet)
/-- what a comprehension does with a new dict at D: O what stands there, Put the storing of a pair -/
def tDcG (O : Addr → HO) (Put : Addr → (Hp → Prop) → V → V → Hp → Prop) (walk : TI) (g : TG) (tt : TT) (tk tv : TE) (own : List Nat) : TE := fun σ H Q => walk σ H fun J H1 => ∀ D, H1 D = none → ∃ W : Nat → Nat → Hp → Prop, (∃ m, W 0 m (upd H1 D (O D))) ∧ ∀ i m G, W i m G →
  (J.stop i G ∧ Q (.ref D) G) ∨ (J.go i G ∧ ∃ N : Hp → Prop, (∀ G', N G' → ∃ m', m' < m ∧ W (i + 1) m' G') ∧
    ∀ x G', J.yld i G x G' → g x (wipe σ own) G' fun σ2 G2 => wipe σ2 own = wipe σ own ∧ tt σ2 G2 fun b G3 => if b = true then tk σ2 G3 fun y G4 => tv σ2 G4 fun z G5 => Put D N y z G5 else N G3)
/-- the pair is put into the dict at D -/
def PutT (D : Addr) (N : Hp → Prop) (y z : V) (G : Hp) : Prop := ∃ kvs k b, y = .ref b ∧ G b = some (.tup (k.map kV)) ∧ G D = some (.dT kvs) ∧ kvs.length < sizeLine ∧ N (upd G D (.dT (putK kvs k z)))
/-- what a storing must be -/
def Stores (X : Cx) (Put : Addr → (Hp → Prop) → V → V → Hp → Prop) : Prop := ∀ (B : Cx) (pins : List (Addr × Obj)) (σ : L2.St) (G : Hp) (t : Shared) (D : Addr) (N : Hp → Prop) (y z : V) (u r : Value) (Q : Unit → Shared → Prop) (E : Value → Shared → Prop),
  B.prog = X.prog → B.w = X.w → B.A = X.A → B.K = X.K → Inv B pins σ G t → Put D N y z G → RelV y u → RelV z r → (∀ t' G', Inv B pins σ G' t' → N G' → Q () t') → wpAny (model B.prog B.w) B.A (dictSet D u r) Q E t
theorem pe_dcG {O : Addr → HO} {Put : Addr → (Hp → Prop) → V → V → Hp → Prop} {kx vx tgt it : Expr} {ifs : List Expr} {sc : Scope} {own : List (Str × Nat)} {pos : Pos} {walk : TI} {g : TG} {tt : TT} {tk tv : TE} (mk0 : ∀ (H : Hp) (h : Heap), sysModules < h.objs.size → ObjOk X.prog X.w H (h.push { cls := .type "dict", data := .dict #[] }) h.objs.size (O h.objs.size)) (store : Stores X Put) (calm : X.calm = true) (nod : X.N.Nodup)
    (pi : PI X tgt it walk) (bo : BlkOk X.N X.env.scope sc own) (pg : InBlk X sc fun B => PG B tgt g) (pt : InBlk X sc fun B => PTs B ifs tt) (pk : InBlk X sc fun B => PE B kx tk) (pv : InBlk X sc fun B => PE B vx tv)
    (plain : ∀ x, foldedSetIterable it X.env x = pure x := by intro _; rfl) : PE X (.DictComp kx vx [⟨tgt, it, ifs, 0⟩] sc pos) (tDcG O Put walk g tt tk tv (own.map (·.2))) := ⟨fun pins s σ H Q I h => by
  rw [arm_eval_DictComp]
  have free : ∀ y ∈ sc.names, y.2 = .free → ∃ c, X.env.cells.lookup y.1 = some c := fun y hy e => (bo.free y hy e).elim (fun k => I.ok.has _ (.inl k)) fun k => I.ok.has _ (.inr k)
  refine wpAny_comprehension_free (use := none) rfl plain (closure_ok free) bo.kind (fun y hy e => by rw [bo.uniq y hy, e]) ?_
  -- what is walked, then the empty dict
  refine thn (pi.run pins s σ H _ I h) fun xv s1 hx => thn hx ?_
  rintro itv s2 ⟨ad, feet, tn, J, H2, rfl, I2, T, at2, ft2, q⟩
  refine wpAny_newObj_type (newEnv_comp ?_)
  have fresh : H2 s2.heap.objs.size = none := I2.hok.fresh (Nat.le_refl _)
  obtain ⟨W, ⟨m0, w0⟩, turn⟩ := q _ fresh
  let s3 : Shared := { s2 with heap := s2.heap.push { cls := .type "dict", data := .dict #[] } }
  let D : Addr := s2.heap.objs.size
  let H3 : Hp := upd H2 D (O D)
  let L : Addr := s3.heap.objs.size
  let e3 : Env := compEnvC sc (cellsFrom (L + 1) sc.names (cloFrom X.env.cells sc.names [])) L X.env
  let s4 : Shared := { s3 with heap := pushCells (s3.heap.push { cls := .type "dict", data := .dict #[] }) sc.names }
  have I3 : Inv X pins σ H3 s3 := I2.laid (t' := s2.toks) (fun _ _ e => Heap.get?_push_of_some _ e) (Nat.le_refl _) (mk0 _ s2.heap I2.big)
  have grown : ∀ b o, s2.heap.get? b = some o → s3.heap.get? b = some o := fun _ _ e => Heap.get?_push_of_some _ e
  have low : ∀ b ∈ feet, b < s2.heap.objs.size := fun b hb => Heap.lt_size (T.obj _ _ at2 b hb).choose_spec.1
  have ft3 : ∀ b ∈ feet, FpOk X pins H3 b ∧ b < s3.heap.objs.size := fun b hb => ⟨⟨(upd_ne (Nat.ne_of_lt (low b hb))).trans (ft2 b hb).1, (ft2 b hb).2⟩, by show b < (s2.heap.push _).objs.size; rw [Heap.size_push]; exact Nat.lt_succ_of_lt (low b hb)⟩
  have at3 : tn 0 s3.heap := T.keep _ _ _ at2 fun b _ o e => grown b o e
  have I4 : Inv (X.blk s3 H3 sc e3 feet) [] (wipe σ (own.map (·.2))) H3 s4 := block_start I3 bo nod ft3
  have at4 : tn 0 s4.heap := T.keep _ _ _ at3 fun b _ o e => pushCells_keeps _ _ _ _ (Heap.get?_push_of_some _ e)
  -- the walker's own objects in the block's context
  have foot : ∀ {σ' : L2.St} {G : Hp} {t : Shared}, Inv (X.blk s3 H3 sc e3 feet) [] σ' G t → (∀ b ∈ feet, G b = none) → ∀ b ∈ feet, FpOk (X.blk s3 H3 sc e3 feet) [] G b := by
    intro σ' G t J' none b hb
    refine ⟨none b hb, (J'.ok.exf b hb).1, J'.ok.exfs b hb, .inl hb, fun x c e => (J'.ok.exf b hb).2 x c e, ?_⟩
    intro p hp
    exact nomatch (show p ∈ ([] : List (Addr × Obj)) from by simpa using hp)
  have loop : codeAny (model X.prog X.w) X.A (.compLoop (.DictComp kx vx [⟨tgt, it, ifs, 0⟩] sc pos) 0 (.ref ad) (.ref D) e3) (compPost (model X.prog X.w) X.A X.xe none (fun v t => ∃ x G, Inv X pins σ G t ∧ RelV x v ∧ Q x G) (.ref D) L) s4 := by
    refine compLoop_anyD (fun n t => ∃ i G, Inv (X.blk s3 H3 sc e3 feet) [] (wipe σ (own.map (·.2))) G t ∧ tn i t.heap ∧ (∀ b ∈ feet, G b = none) ∧ W i n G) ?_ m0 ⟨0, H3, I4, at4, fun b hb => (ft3 b hb).1.1, w0⟩
    rintro n t ⟨i, G, IG, atG, nG, wG⟩
    obtain ⟨stop, fin⟩ | ⟨go, N, less, step⟩ := turn i n G wG
    · refine thnF (T.done (X.blk s3 H3 sc e3 feet) rfl rfl rfl calm i [] t _ G (fun _ _ => False) IG (foot IG nG) atG stop) ?_
      rintro r t6 ⟨rfl, I6⟩
      have I7 : Inv X pins σ G t6 := I3.call' (ch := feet) I6.os I6.base I6.hok I6.bare fun b hb => let z := (ft3 b hb).1.2; ⟨z.2.2.1, z.1, z.2.2.2.1, z.2.2.2.2⟩
      obtain ⟨m, names, _⟩ := I6.loc
      obtain ⟨a0, a1, a2, a3, a4, a5⟩ := I3.fpOk (Nat.le_refl _) (show G L = none from I6.free)
      exact ⟨m, names, fun h'' kept => ⟨.ref D, G, I7.turned (t' := t6.toks) (fun b o hb e => (kept.2 b hb).trans e) a0 a1 a3 a4 a5, rfl, fin⟩⟩
    · refine thnF (T.item (X.blk s3 H3 sc e3 feet) rfl rfl rfl calm i [] t _ G (fun _ _ => False) IG (foot IG nG) atG go) ?_
      rintro r t6 ⟨u, rfl, h6⟩
      refine thnF h6 ?_
      rintro _ t7 ⟨x, G7, I7, r7, y7, at7, n7⟩
      refine thnF ((pg _ _ _ _ _).run _ t7 _ G7 x u _ (I7.pinned (foot I7 n7) (T.obj _ _ at7)) r7 (step x G7 y7)) ?_
      rintro _ t8 ⟨σ8, G8, I8, wp8, q8⟩
      refine thnF ((pt _ _ _ _ _).run _ t8 σ8 G8 _ I8 q8) ?_
      rintro b t9 ⟨G9, I9, q9⟩
      have back : ∀ {t' : Shared} {G' : Hp}, Inv (X.blk s3 H3 sc e3 feet) ([] ++ pinsAt feet t7.heap) σ8 G' t' → N G' → ∃ m, m < n ∧ ∃ i G, Inv (X.blk s3 H3 sc e3 feet) [] (wipe σ (own.map (·.2))) G t' ∧ tn i t'.heap ∧ (∀ b ∈ feet, G b = none) ∧ W i m G := by
        intro t' G' I' nx
        obtain ⟨m', lt, w'⟩ := less G' nx
        have held : ∀ b ∈ feet, ∀ o, t7.heap.get? b = some o → t'.heap.get? b = some o ∧ G' b = none := fun b hb o e => let z := I'.pin (b, o) (List.mem_append_right _ (List.mem_append_right _ (mem_pinsAt hb e))); ⟨z.1, z.2.1⟩
        refine ⟨m', lt, i + 1, G', I'.unpinned.weak (by rw [← wp8, wipe_length]) fun j v e => ?_, T.keep _ _ _ at7 fun b hb o e => (held b hb o e).1, fun b hb => ?_, w'⟩
        · exact (wipe_some (wp8 ▸ e)).1
        · obtain ⟨o, e, _⟩ := T.obj _ _ at7 b hb
          exact (held b hb o e).2
      by_cases yes : b = true
      · subst yes
        refine thnF ((pk _ _ _ _ _).run _ t9 σ8 G9 _ I9 q9) ?_
        rintro ku t10 ⟨ky, G10, I10, r10, q10⟩
        refine thnF ((pv _ _ _ _ _).run _ t10 σ8 G10 _ I10 q10) ?_
        rintro vu t11 ⟨vy, G11, I11, r11, putting⟩
        exact store (X.blk s3 H3 sc e3 feet) _ _ _ _ _ _ _ _ _ _ _ _ rfl rfl rfl rfl I11 putting r10 r11 fun t12 G12 I12 nx => back I12 nx
      · have no : b = false := by cases b with | true => exact absurd rfl yes | false => rfl
        subst no
        exact back I9 q9
  exact codeAny_compStart_dict loop (T.self X.A 0 _ _ _ at4 loop)⟩
/-- keys that are tuples of ints and texts -/
abbrev tDcT (walk : TI) (g : TG) (tt : TT) (tk tv : TE) (own : List Nat) : TE := tDcG (fun _ => .dT []) PutT walk g tt tk tv own
theorem stores_T (hu : X.A.units + 1 < cLine) : Stores X PutT := by
  rintro B pins σ G t D N y z u r Q E e1 e2 e3 e4 I ⟨kvs, k, kb, rfl, tup, dict, room, nx⟩ ry rz h
  exact d_dictSetT (by rw [e3]; exact hu) I dict room tup ry rz fun t' I' => h t' _ I' nx
theorem pe_dcT {kx vx tgt it : Expr} {ifs : List Expr} {sc : Scope} {own : List (Str × Nat)} {pos : Pos} {walk : TI} {g : TG} {tt : TT} {tk tv : TE} (hu : X.A.units + 1 < cLine) (calm : X.calm = true) (nod : X.N.Nodup)
    (pi : PI X tgt it walk) (bo : BlkOk X.N X.env.scope sc own) (pg : InBlk X sc fun B => PG B tgt g) (pt : InBlk X sc fun B => PTs B ifs tt) (pk : InBlk X sc fun B => PE B kx tk) (pv : InBlk X sc fun B => PE B vx tv)
    (plain : ∀ x, foldedSetIterable it X.env x = pure x := by intro _; rfl) : PE X (.DictComp kx vx [⟨tgt, it, ifs, 0⟩] sc pos) (tDcT walk g tt tk tv (own.map (·.2))) :=
  pe_dcG (fun _ h b => dt_empty h b) (stores_T hu) calm nod pi bo pg pt pk pv plain
/-! ### dicts whose keys are tuples that may be known to their objects -/
/-- the dict at a: kvs its pairs, ks its keys with the tuples that stand for them -/
def KX (kvs : List (List Key × V)) (ks : List (List Key × Addr)) (xs : List (List Key × Addr × Value)) : Prop := Paired (fun (p : List Key × V) (q : List Key × Addr × Value) => p.1 = q.1 ∧ RelV p.2 q.2.2) kvs xs ∧ xs.map (fun q => (q.1, q.2.1)) = ks
def dXo (P : Program) (w : World) (a : Addr) (kvs : List (List Key × V)) (ks : List (List Key × Addr)) : HO := .ext fun h => kvs.length ≤ sizeLine ∧ (a == sysModules) = false ∧ ∃ xs, KX kvs ks xs ∧ (∃ o es ep, h.get? a = some o ∧ o.ExactDict ∧ o.data = .dict es ep ∧ es.toList = xs.map (entryOfKey (tupleKind (mixKind P w)))) ∧ (xs.map (·.1)).Nodup
theorem dXo_ok {P : Program} {w : World} {H : Hp} {h : Heap} {a : Addr} {kvs : List (List Key × V)} {ks : List (List Key × Addr)} {xs : List (List Key × Addr × Value)} {o : Obj} {es : Array DictEntry} {ep : Nat} (l : kvs.length ≤ sizeLine) (n : (a == sysModules) = false) (r : KX kvs ks xs) (g : h.get? a = some o) (x : o.ExactDict) (d : o.data = .dict es ep)
    (e : es.toList = xs.map (entryOfKey (tupleKind (mixKind P w)))) (nd : (xs.map (·.1)).Nodup) : ObjOk P w H h a (dXo P w a kvs ks) := by
  refine ⟨⟨l, n, xs, r, ⟨o, es, ep, g, x, d, e⟩, nd⟩, ⟨o, g⟩, ?_⟩
  rintro h1 h2 ⟨l1, n1, xs1, r1, ⟨o1, es1, ep1, g1, x1, d1, e1⟩, nd1⟩ same
  exact ⟨l1, n1, xs1, r1, ⟨o1, es1, ep1, same o1 g1, x1, d1, e1⟩, nd1⟩
/-- the tuples stand -/
def KsAt (H : Hp) (ks : List (List Key × Addr)) : Prop := ∀ p ∈ ks, Rd H p.2 (.tup (p.1.map kV))
theorem dXo_at {P : Program} {w : World} {H : Hp} {h : Heap} {a : Addr} {kvs : List (List Key × V)} {ks : List (List Key × Addr)} (ok : HOk P w H h) (e : H a = some (dXo P w a kvs ks)) (t : KsAt H ks) :
    kvs.length ≤ sizeLine ∧ (a == sysModules) = false ∧ ∃ xs, KX kvs ks xs ∧ h.DictOfH (tupleKind (mixKind P w)) a xs := by
  obtain ⟨⟨l, n, xs, r, ⟨o, es, ep, g, x, d, e1⟩, nd⟩, _⟩ := ok a _ e
  refine ⟨l, n, xs, r, o, es, ep, g, x, d, e1, fun q hq => ?_, nd⟩
  have hk : (q.1, q.2.1) ∈ ks := by rw [← r.2]; exact List.mem_map.mpr ⟨q, hq, rfl⟩
  exact key_rd ok (t _ hk)
theorem paired_keys {F : (List Key × V) → (List Key × Addr × Value) → Prop} (hF : ∀ p q, F p q → p.1 = q.1) : ∀ {kvs : List (List Key × V)} {xs : List (List Key × Addr × Value)}, Paired F kvs xs → kvs.map (·.1) = xs.map (·.1) := by
  intro kvs xs r
  induction r with
  | nil => rfl
  | cons h t ih => rw [List.map_cons, List.map_cons, ih, hF _ _ h]
theorem kx_val {kvs : List (List Key × V)} {ks : List (List Key × Addr)} {xs : List (List Key × Addr × Value)} (r : KX kvs ks xs) (k : List Key) : RelO (valV kvs k) ((atKey xs k).map (·.2)) := by
  replace r := r.1
  induction r with
  | nil => exact True.intro
  | @cons p q ps qs h t ih =>
    by_cases c : p.1 = k
    · have c' : q.1 = k := h.1.symm.trans c
      rw [valV_pos c, show atKey (q :: qs) k = some q.2 by simp [atKey, List.find?_cons, c']]
      exact h.2
    · have c' : ¬ q.1 = k := fun z => c (h.1.trans z)
      rw [valV_neg c, show atKey (q :: qs) k = atKey qs k by simp [atKey, List.find?_cons, c']]
      exact ih
/-- the keys behind a storing -/
def ksPut (kvs : List (List Key × V)) (ks : List (List Key × Addr)) (k : List Key) (b : Addr) : List (List Key × Addr) := if (valV kvs k).isSome = true then ks else ks ++ [(k, b)]
theorem kx_put {kvs : List (List Key × V)} {ks : List (List Key × Addr)} {xs : List (List Key × Addr × Value)} (r : KX kvs ks xs) (k : List Key) (b : Addr) {y : V} {u : Value} (ry : RelV y u) : KX (putK kvs k y) (ksPut kvs ks k b) (storedH xs k b u) := by
  have e : (valV kvs k).isSome = (atKey xs k).isSome := by rw [(kx_val r k).isSome_eq, Option.isSome_map]
  obtain ⟨r, rk⟩ := r
  unfold putK storedH ksPut
  rw [valV_any, e]
  by_cases c : (atKey xs k).isSome = true
  · rw [if_pos c, if_pos c, if_pos c]
    refine ⟨?_, ?_⟩
    · clear rk e c
      induction r with
      | nil => exact .nil
      | @cons p q ps qs h t ih =>
        refine .cons ?_ ih
        show (if p.1 = k then (p.1, y) else p).1 = (putAt k u q).1 ∧ RelV (if p.1 = k then (p.1, y) else p).2 (putAt k u q).2.2
        unfold putAt
        by_cases d : p.1 = k
        · rw [if_pos d, if_pos (h.1.symm.trans d)]
          exact ⟨h.1, ry⟩
        · rw [if_neg d, if_neg (fun z => d (h.1.trans z))]
          exact h
    · rw [← rk, List.map_map]
      refine List.map_congr_left fun q _ => ?_
      show ((putAt k u q).1, (putAt k u q).2.1) = _
      unfold putAt
      split <;> rfl
  · rw [if_neg c, if_neg c, if_neg c]
    exact ⟨Paired.snoc r ⟨rfl, ry⟩, by rw [List.map_append, rk]; rfl⟩
def PutX (P : Program) (w : World) (D : Addr) (N : Hp → Prop) (y z : V) (G : Hp) : Prop := ∃ kvs ks k b, y = .ref b ∧ Rd G b (.tup (k.map kV)) ∧ G D = some (dXo P w D kvs ks) ∧ KsAt G ks ∧ kvs.length < sizeLine ∧ N (upd G D (dXo P w D (putK kvs k z) (ksPut kvs ks k b)))
theorem stores_X (hu : X.A.units + 1 < cLine) : Stores X (PutX X.prog X.w) := by
  rintro B pins σ G t D N y z u r Q E e1 e2 e3 e4 I ⟨kvs, ks, k, kb, rfl, tup, dict, kat, room, nx⟩ ry rz h
  cases (show u = Value.ref kb from ry)
  rw [← e1, ← e2] at dict nx
  obtain ⟨l, n, xs, rel, dd⟩ := dXo_at I.hok dict kat
  have lx : xs.length = kvs.length := (Paired.length rel.1).symm
  refine wpAny_dictSet_heap (hsz := by omega) (show (tupleKind (mixKind B.prog B.w)).room B.A from by rw [e3]; exact Nat.lt_of_succ_lt hu) (key_rd I.hok tup) dd fun h' dd' same => h _ _ ?_ nx
  obtain ⟨o, es, ep, g, x, d, e5, _, nd⟩ := dd'
  exact d_write I (by rw [dict]; exact True.intro) same ⟨o, g⟩ (dXo_ok (Nat.le_trans (length_putK kvs k z) room) n (kx_put rel k kb rz) g x d e5 nd)
theorem dXo_empty {P : Program} {w : World} (H : Hp) (h : Heap) (b : sysModules < h.objs.size) : ObjOk P w H (h.push { cls := .type "dict", data := .dict #[] }) h.objs.size (dXo P w h.objs.size [] []) :=
  dXo_ok (xs := []) (Nat.zero_le _) (beq_eq_false_iff_ne.mpr (Ne.symm (Nat.ne_of_lt b))) ⟨.nil, rfl⟩ (Heap.get?_push_size _ rfl) ⟨rfl, rfl, rfl⟩ rfl rfl List.nodup_nil
abbrev tDcX (P : Program) (w : World) (walk : TI) (g : TG) (tt : TT) (tk tv : TE) (own : List Nat) : TE := tDcG (fun D => dXo P w D [] []) (PutX P w) walk g tt tk tv own
theorem pe_dcX {P : Program} {w : World} (hP : X.prog = P) (hw : X.w = w) {kx vx tgt it : Expr} {ifs : List Expr} {sc : Scope} {own : List (Str × Nat)} {pos : Pos} {walk : TI} {g : TG} {tt : TT} {tk tv : TE} (hu : X.A.units + 1 < cLine) (calm : X.calm = true) (nod : X.N.Nodup)
    (pi : PI X tgt it walk) (bo : BlkOk X.N X.env.scope sc own) (pg : InBlk X sc fun B => PG B tgt g) (pt : InBlk X sc fun B => PTs B ifs tt) (pk : InBlk X sc fun B => PE B kx tk) (pv : InBlk X sc fun B => PE B vx tv)
    (plain : ∀ x, foldedSetIterable it X.env x = pure x := by intro _; rfl) : PE X (.DictComp kx vx [⟨tgt, it, ifs, 0⟩] sc pos) (tDcX P w walk g tt tk tv (own.map (·.2))) := by
  subst hP hw
  exact pe_dcG (fun H h b => dXo_empty H h b) (stores_X hu) calm nod pi bo pg pt pk pv plain
/-- d[k] of such a dict -/
def tXGet (P : Program) (w : World) (td ty : TE) : TE := fun σ H Q => td σ H fun x H1 => ty σ H1 fun y H2 => ∃ a kvs ks k b v, x = .ref a ∧ y = .ref b ∧ H2 a = some (dXo P w a kvs ks) ∧ KsAt H2 ks ∧ Rd H2 b (.tup (k.map kV)) ∧ valV kvs k = some v ∧ Q v H2
theorem pe_xget {P : Program} {w : World} (hP : X.prog = P) (hw : X.w = w) (hu : X.A.units + 1 < cLine) {o i : Expr} {td ty : TE} {pos : Pos} (ho : PE X o td) (hi : PE X i ty) (hs : NoSl i) : PE X (.Subscript o i pos) (tXGet P w td ty) := by
  subst hP hw
  refine ⟨fun pins s σ H Q I h => ?_⟩
  refine subD_of PySem.F.slot_dict_getitem.lookup hs (thn (ho.run pins s σ H _ I h) fun ov s1 ⟨x, H1, I1, rx, q1⟩ => thn (hi.run pins s1 σ H1 _ I1 q1) ?_)
  rintro iv s2 ⟨y, H2, I2, ry, a, kvs, ks, k, b, v, rfl, rfl, dict, kat, tup, has, q2⟩
  obtain rfl : ov = Value.ref a := rx
  cases (show iv = Value.ref b from ry)
  obtain ⟨l, n, xs, rel, dd⟩ := dXo_at I2.hok dict kat
  have rv := kx_val rel k
  rw [has] at rv
  obtain ⟨u, hp, ru⟩ := RelO.some_of rv
  obtain ⟨p, hp', rfl⟩ := Option.map_eq_some_iff.mp hp
  refine ⟨?_, wpAny_getItem_heap (tupleKind_room_in1 hu) (key_rd I2.hok tup) dd hp' ?_⟩
  · obtain ⟨o', es, ep, g, x, _⟩ := dd
    exact ⟨o', g, x.1⟩
  · exact ⟨v, H2, I2.tok _, ru, q2⟩
/-- deep membership, in lists and in tuples -/
def rInDT (K : PySem.W.Frag) : R2 := fun x y H Q => ∃ d ds, Dp K H x d ∧ Dp K H y (.tuple ds) ∧ SeqAt.shaped d = true ∧ SeqAt.shaped (.tuple ds) = true ∧ Q (.bl (ds.any fun z => PyData.eqv z d)) H
def rNotInDT (K : PySem.W.Frag) : R2 := fun x y H Q => ∃ d ds, Dp K H x d ∧ Dp K H y (.tuple ds) ∧ SeqAt.shaped d = true ∧ SeqAt.shaped (.tuple ds) = true ∧ Q (.bl (!ds.any fun z => PyData.eqv z d)) H
theorem op_inDT {K : PySem.W.Frag} (hK : X.K = K) (hu : X.A.units + 65 < cLine) : OpR X (compareOp .In) (rInDT K) := by
  subst hK
  intro pins s σ H x y v u Q I rx ry h
  obtain ⟨d, ds, hd, he, sd, se, q⟩ := h
  obtain ⟨as, r1⟩ := Dp.reads I d x v hd rx
  obtain ⟨bs, r2⟩ := Dp.reads I (.tuple ds) y u he ry
  exact SeqAt.in_tuple_reads r2 r1 (SeqAt.canLay_of_shaped se) (SeqAt.canLay_of_shaped sd) (room_in_shaped sd hu) ⟨.bl _, H, I, rfl, q⟩
theorem op_notInDT {K : PySem.W.Frag} (hK : X.K = K) (hu : X.A.units + 65 < cLine) : OpR X (compareOp .NotIn) (rNotInDT K) := by
  subst hK
  intro pins s σ H x y v u Q I rx ry h
  obtain ⟨d, ds, hd, he, sd, se, q⟩ := h
  obtain ⟨as, r1⟩ := Dp.reads I d x v hd rx
  obtain ⟨bs, r2⟩ := Dp.reads I (.tuple ds) y u he ry
  exact SeqAt.notIn_tuple_reads r2 r1 (SeqAt.canLay_of_shaped se) (SeqAt.canLay_of_shaped sd) (room_in_shaped sd hu) ⟨.bl _, H, I, rfl, q⟩
theorem op_inDK {K : PySem.W.Frag} (hK : X.K = K) (hu : X.A.units + 65 < cLine) : OpR X (compareOp .In) (rInD K) := by subst hK; exact op_inD hu
theorem op_notInDK {K : PySem.W.Frag} (hK : X.K = K) (hu : X.A.units + 65 < cLine) : OpR X (compareOp .NotIn) (rNotInD K) := by subst hK; exact op_notInD hu
/-- t.index(n), the first place, of a tuple of ints -/
def rTIdx (K : PySem.W.Frag) : V → List V → Hp → VK → Prop := fun x xs H Q => ∃ p, ∃ ys : List Int, ∃ z j, x = .ref p ∧ xs = [.int z] ∧ SqT K H p (ys.map V.int) ∧ ys[j]? = some z ∧ (∀ m, m < j → ys[m]? ≠ some z) ∧ Q (.int (j : Nat)) H
theorem flat_ints (ys : List Int) : (ys.map V.int).all flatV = true := by induction ys <;> simp_all [flatV]
theorem mt_tup_indexI {K : PySem.W.Frag} (hK : X.K = K) : MtR X "tuple.index" (rTIdx K) := by
  subst hK
  rintro pins s σ H _ _ v us Q I rx rs ⟨p, ys, z, j, rfl, rfl, reads, found, first, q⟩
  cases rx
  obtain ⟨_, rfl, tk, rfl⟩ := vals1 rs
  obtain ⟨its, vals, ⟨⟨_, dd, _, sl⟩, stands, rfl, n, rfl⟩, _⟩ := I.tuple reads
  have size : its.length = ys.length := by simpa using vals.length.symm
  have item : ∀ m : Nat, m < ys.length → ∃ t', its[m]? = some (Value.int (ys.getD m 0) t') := by
    intro m hm
    obtain ⟨w, hw, t', rfl⟩ := vals.get (i := m) (x := V.int (ys.getD m 0)) (by simp [hm])
    exact ⟨t', hw⟩
  have eqs : ∀ (m : Nat) (hm : m < its.toArray.size), eqU (V.int z) its.toArray[m] = decide (ys.getD m 0 = z) := by
    intro m hm
    obtain ⟨t', e⟩ := item m (by simpa [size] using hm)
    have e' : its.toArray[m] = Value.int (ys.getD m 0) t' := by
      have := (List.getElem?_eq_some_iff.mp e).2
      simpa using this
    rw [e']
    rfl
  have inside := (List.getElem?_eq_some_iff.mp found).1
  have jz : ys.getD j 0 = z := by rw [List.getD_eq_getElem?_getD, found]; rfl
  have answer := TI.tuple_indexAt p its.toArray n dd sl (.int z tk) (eqU (.int z)) j (by simpa [size] using inside) (by rw [eqs, jz]; exact decide_eq_true rfl) (fun m hm lt => by
    rw [eqs]
    refine decide_eq_false fun e => first m lt ?_
    have inm : m < ys.length := by simpa [size] using hm
    rw [List.getElem?_eq_getElem inm, ← e, List.getD_eq_getElem?_getD, List.getElem?_eq_getElem inm]
    rfl)
  exact call_meets PySem.F.slot_tuple_index ⟨_, stands, rfl⟩ PySem.F.entry_tuple_index (PySem.F.args_tuple_index_2 _ _) answer
    ⟨stands, fun w hw => mem_eqAt (x := .int z) ⟨tk, rfl⟩ rfl vals (flat_ints ys) w (by simpa using hw), ⟨.int (j : Nat), H, I.tok _, ⟨_, rfl⟩, q⟩⟩
end
/-! ### loops over enumerate and zip, whatever their bodies -/
theorem enumL_loop {K : PySem.W.Frag} {a : Addr} {xs : List V} {Qd : Hp → Prop} {H0 : Hp} {B : V → Hp → (Hp → Prop) → Prop} (Pv : Nat → Hp → Prop) (h0 : Pv 0 H0) (hl : ∀ i H, i ≤ xs.length → Pv i H → SqL K H a xs) (hs : ∀ i x T H, xs[i]? = some x → H T = none → Pv i H → B (.ref T) (upd H T (.tup [.int (i : Nat), x])) (Pv (i + 1))) (hd : ∀ H, Pv xs.length H → Qd H) :
    ∃ W : Nat → Nat → Hp → Prop, (∃ m, W 0 m H0) ∧ ∀ i m H, W i m H → ((Ite K a).stop i H ∧ Qd H) ∨ ((Ite K a).go i H ∧ ∃ Nx : Hp → Prop, (∀ H', Nx H' → ∃ m', m' < m ∧ W (i + 1) m' H') ∧ ∀ x H', (Ite K a).yld i H x H' → B x H' Nx) := by
  refine ⟨fun i m H => m = xs.length - i ∧ i ≤ xs.length ∧ Pv i H, ⟨_, rfl, Nat.zero_le _, h0⟩, ?_⟩
  rintro i m H ⟨rfl, hi, p⟩
  have q := hl i H hi p
  by_cases hlt : i < xs.length
  · refine .inr ⟨⟨xs, xs[i], q, by simp [hlt]⟩, Pv (i + 1), fun H' p' => ⟨xs.length - (i + 1), by omega, rfl, hlt, p'⟩, fun x H' y => ?_⟩
    obtain ⟨T, z, rfl, hT, rfl, hz⟩ := y
    exact hs i z T _ (hz xs q) hT p
  · have e : i = xs.length := by omega
    subst e
    exact .inl ⟨⟨xs, q, Nat.le_refl _⟩, hd H p⟩
theorem enumT_loop {K : PySem.W.Frag} {a : Addr} {xs : List V} {Qd : Hp → Prop} {H0 : Hp} {B : V → Hp → (Hp → Prop) → Prop} (Pv : Nat → Hp → Prop) (h0 : Pv 0 H0) (hl : ∀ i H, i ≤ xs.length → Pv i H → SqT K H a xs) (hs : ∀ i x T H, xs[i]? = some x → H T = none → Pv i H → B (.ref T) (upd H T (.tup [.int (i : Nat), x])) (Pv (i + 1))) (hd : ∀ H, Pv xs.length H → Qd H) :
    ∃ W : Nat → Nat → Hp → Prop, (∃ m, W 0 m H0) ∧ ∀ i m H, W i m H → ((Itet K a).stop i H ∧ Qd H) ∨ ((Itet K a).go i H ∧ ∃ Nx : Hp → Prop, (∀ H', Nx H' → ∃ m', m' < m ∧ W (i + 1) m' H') ∧ ∀ x H', (Itet K a).yld i H x H' → B x H' Nx) := by
  refine ⟨fun i m H => m = xs.length - i ∧ i ≤ xs.length ∧ Pv i H, ⟨_, rfl, Nat.zero_le _, h0⟩, ?_⟩
  rintro i m H ⟨rfl, hi, p⟩
  have q := hl i H hi p
  by_cases hlt : i < xs.length
  · refine .inr ⟨⟨xs, xs[i], q, by simp [hlt]⟩, Pv (i + 1), fun H' p' => ⟨xs.length - (i + 1), by omega, rfl, hlt, p'⟩, fun x H' y => ?_⟩
    obtain ⟨T, z, rfl, hT, rfl, hz⟩ := y
    exact hs i z T _ (hz xs q) hT p
  · have e : i = xs.length := by omega
    subst e
    exact .inl ⟨⟨xs, q, rfl⟩, hd H p⟩
end D
namespace D
open PySem PySem.Spec PyProof.Rows L2
section
variable {X : Cx}
/-- tuple(list): the new object is known to have no dict -/
def rTupF (K : PySem.W.Frag) : List V → Hp → VK → Prop := fun xs H Q => ∃ p ys, xs = [.ref p] ∧ SqL K H p ys ∧ ∀ l o, H l = none → o.cls = .type "tuple" → o.dict = none → Q (.ref l) (upd H l (.frz o (.tup ys)))
theorem call_tupleF {K : PySem.W.Frag} (hK : X.K = K) : CallR X (.type "tuple") (rTupF K) := by
  subst hK
  intro pins s σ H xs us Q I r h
  obtain ⟨p, ys, rfl, hq, q⟩ := h
  obtain ⟨u, rfl, rx⟩ := vals1 r
  cases rx
  obtain ⟨its, r', pl, hz⟩ := I.list hq
  have hlen := r'.length
  refine call_tuple_list pl.isList (fun h' kp => ?_) (by simp only [List.size_toArray] <;> omega)
  have I1 : Inv X pins σ H { s with heap := h' } := I.kept (t' := s.toks) kp
  have I2 : Inv X pins σ (upd H h'.objs.size (.frz { cls := .type "tuple", data := .seq its.toArray } (.tup ys))) { s with heap := h'.push { cls := .type "tuple", data := .seq its.toArray } } :=
    I1.laid (t' := s.toks) (fun b o e => Heap.get?_push_of_some _ e) (Nat.le_refl _) (show ObjOk X.prog X.w _ _ _ (.frz _ (.tup ys)) from ⟨Heap.get?_push_size _ rfl, hz, its, r', IsTup.new _ _⟩)
  exact ⟨.ref h'.objs.size, _, I2, rfl, q _ _ (I1.hok.fresh (Nat.le_refl _)) rfl rfl⟩
/-- t[lo:hi], the cut known to its object -/
def rSlF (K : PySem.W.Frag) : V → Option Int → Option Int → Hp → VK → Prop := fun x lo hi H Q => ∃ a xs, x = .ref a ∧ SqT K H a xs ∧
  (HT.sIx xs.length 0 lo = 0 ∧ HT.sIx xs.length xs.length hi = xs.length → Q (.ref a) H) ∧ (¬ (HT.sIx xs.length 0 lo = 0 ∧ HT.sIx xs.length xs.length hi = xs.length) → ∀ p o, H p = none → o.cls = .type "tuple" → o.dict = none → Q (.ref p) (upd H p (.frz o (.tup (cutV xs lo hi)))))
theorem sl_tupF {K : PySem.W.Frag} (hK : X.K = K) : SlR X (rSlF K) := by
  subst hK
  rintro pins s σ H _ v vl vu lo hi sl Q I rx hs pl pu ⟨a, xs, rfl, reads, all, part⟩
  by_cases whole : HT.sIx xs.length 0 lo = 0 ∧ HT.sIx xs.length xs.length hi = xs.length
  · exact sl_tupA pins s σ H _ v vl vu lo hi sl Q I rx hs pl pu ⟨a, xs, rfl, reads, all, fun z => absurd whole z⟩
  · cases rx
    obtain ⟨its, vals, stands, small⟩ := I.tuple reads
    have size : its.toArray.size = xs.length := by rw [List.size_toArray]; exact vals.length.symm
    refine ⟨"tuple", _, PyProof.Rows.slot_tuple_getitem.lookup, stands.typeIs, HT.getItem_tuple_cut stands hs pl pu (by rw [size]; exact whole) ?_ (by rw [size]; exact small)⟩
    rw [size]
    have cut := (vals.drop (HT.sIx xs.length 0 lo)).take (HT.sIx xs.length xs.length hi - HT.sIx xs.length 0 lo)
    let ob : Obj := { cls := .type "tuple", data := .seq ((its.drop (HT.sIx xs.length 0 lo)).take (HT.sIx xs.length xs.length hi - HT.sIx xs.length 0 lo)).toArray }
    have good : ObjOk X.prog X.w (upd H s.heap.objs.size (.frz ob (.tup (cutV xs lo hi)))) (s.heap.push ob) s.heap.objs.size (.frz ob (.tup (cutV xs lo hi))) := ⟨Heap.get?_push_size _ rfl, Nat.le_trans (cutV_length xs lo hi) small, _, cut, IsTup.new _ _⟩
    exact ⟨.ref s.heap.objs.size, _, I.laid (t' := s.toks) (fun b ob e => Heap.get?_push_of_some _ e) (Nat.le_refl _) good, rfl, part whole _ ob (I.hok.fresh (Nat.le_refl _)) rfl rfl⟩
def tyTup (x : V) (H : Hp) : Prop := ∃ a o u, x = .ref a ∧ H a = some (.frz o u) ∧ o.cls = .type "tuple" ∧ o.dict = none
theorem ty_tup : TyOk X "tuple" tyTup := by
  intro pins σ H s x v I r h
  obtain ⟨a, o, u, rfl, e, hc, hd⟩ := h
  cases r
  obtain ⟨e2, _⟩ := I.hok a _ e
  refine ⟨⟨o, e2, hc⟩, fun b eb => ?_⟩
  cases eb
  exact ⟨o, e2, hd⟩
end
/-- rows -/
def RowAt (M : Ms) (H : Hp) (v : V) (ns : List Int) : Prop := ∃ a, v = .ref a ∧ ¬ M a ∧ Rd H a (.tup (ns.map V.int))
def RowF (M : Ms) (H : Hp) (v : V) (ns : List Int) : Prop := ∃ a o, v = .ref a ∧ ¬ M a ∧ H a = some (.frz o (.tup (ns.map V.int))) ∧ o.cls = .type "tuple" ∧ o.dict = none
theorem RowF.row {M : Ms} {H : Hp} {v : V} {ns : List Int} (h : RowF M H v ns) : RowAt M H v ns := by
  obtain ⟨a, o, e, n, ha, _⟩ := h
  exact ⟨a, e, n, .inr ⟨o, ha⟩⟩
theorem RowAt.sx {M : Ms} {H H' : Hp} {v : V} {ns : List Int} (h : RowAt M H v ns) (s : Sx M H H') : RowAt M H' v ns := by
  obtain ⟨a, e, n, ha⟩ := h
  exact ⟨a, e, n, sx_rd s n ha⟩
theorem RowF.sx {M : Ms} {H H' : Hp} {v : V} {ns : List Int} (h : RowF M H v ns) (s : Sx M H H') : RowF M H' v ns := by
  obtain ⟨a, o, e, n, ha, r⟩ := h
  exact ⟨a, o, e, n, s _ _ n ha, r⟩
theorem RowAt.less {M N : Ms} {H : Hp} {v : V} {ns : List Int} (h : RowAt M H v ns) (f : ∀ a, N a → M a) : RowAt N H v ns := by
  obtain ⟨a, e, n, ha⟩ := h
  exact ⟨a, e, fun z => n (f a z), ha⟩
theorem RowF.less {M N : Ms} {H : Hp} {v : V} {ns : List Int} (h : RowF M H v ns) (f : ∀ a, N a → M a) : RowF N H v ns := by
  obtain ⟨a, o, e, n, ha⟩ := h
  exact ⟨a, o, e, fun z => n (f a z), ha⟩
theorem RowF.fresh {M : Ms} {H : Hp} {v : V} {ns : List Int} {p : Addr} (hp : H p = none) (h : RowF M H v ns) : RowF (also M p) H v ns := by
  obtain ⟨a, o, e, n, ha, r⟩ := h
  refine ⟨a, o, e, fun z => ?_, ha, r⟩
  rcases z with z | z
  · exact n z
  · rw [show a = p from z, hp] at ha
    cases ha
end D

namespace D
open PySem PySem.Spec PyProof.Rows L2
theorem hu65 {A : Around} {k : Nat} (hr : Room k A) : A.units + 65 < cLine := by have := hr.un; omega
/-! ### idents and matches -/
abbrev IP := Int × Int
def idp (ws : List Int) : List IP := ws.mapIdx fun i w => (w, (((ws.take i).count w : Nat) : Int))
theorem idp_len (ws : List Int) : (idp ws).length = ws.length := List.length_mapIdx
theorem idp_at {ws : List Int} {i : Nat} {w : Int} (h : ws[i]? = some w) : (idp ws)[i]? = some (w, (((ws.take i).count w : Nat) : Int)) := by
  unfold idp
  rw [List.getElem?_mapIdx, h]
  rfl
theorem nodup_get {α : Type} {l : List α} : l.Nodup ↔ ∀ i j : Nat, i < j → j < l.length → l[i]? ≠ l[j]? := by
  unfold List.Nodup
  rw [List.pairwise_iff_getElem]
  constructor
  · intro h i j hij hj e
    rw [List.getElem?_eq_getElem (Nat.lt_trans hij hj), List.getElem?_eq_getElem hj] at e
    exact h i j (Nat.lt_trans hij hj) hj hij (Option.some.inj e)
  · intro h i j hi hj hij e
    exact h i j hij hj (by rw [List.getElem?_eq_getElem hi, List.getElem?_eq_getElem hj, e])
theorem idp_nodup (ws : List Int) : (idp ws).Nodup := by
  rw [nodup_get]
  intro i j hij hj
  have hj' : j < ws.length := by rw [idp_len] at hj; exact hj
  have hi' : i < ws.length := Nat.lt_trans hij hj'
  have ei : ws[i]? = some ws[i] := List.getElem?_eq_getElem hi'
  have ej : ws[j]? = some ws[j] := List.getElem?_eq_getElem hj'
  rw [idp_at ei, idp_at ej]
  intro e
  have e' := Option.some.inj e
  have e1 : ws[i] = ws[j] := congrArg Prod.fst e'
  have e2 : (((ws.take i).count ws[i] : Nat) : Int) = ((ws.take j).count ws[j] : Nat) := congrArg Prod.snd e'
  have e3 : (ws.take i).count ws[i] = (ws.take j).count ws[j] := Int.ofNat.inj e2
  rw [← e1] at e3
  have s1 : List.Sublist ((ws.take (i + 1))) (ws.take j) := by
    have : ws.take (i + 1) = (ws.take j).take (i + 1) := by rw [List.take_take]; congr 1; omega
    rw [this]
    exact List.take_sublist _ _
  have c1 := s1.count_le ws[i]
  rw [List.take_add_one, ei, List.count_append] at c1
  have : List.count ws[i] (some ws[i]).toList = 1 := by simp
  omega
def pos (B : List IP) (x : IP) : Option Nat := if x ∈ B then some (B.idxOf x) else none
theorem pos_snoc {B : List IP} {b : IP} (hb : b ∉ B) (x : IP) : pos (B ++ [b]) x = if x = b then some B.length else pos B x := by
  unfold pos
  by_cases e : x = b
  · subst e
    rw [if_pos rfl, if_pos (by simp), List.idxOf_append, if_neg hb]
    simp
  · rw [if_neg e]
    by_cases m : x ∈ B
    · rw [if_pos m, if_pos (by simp [m]), List.idxOf_append, if_pos m]
    · rw [if_neg m, if_neg (by simp [m, e])]
theorem pos_take {B : List IP} (hB : B.Nodup) {i : Nat} {b : IP} (h : B[i]? = some b) (x : IP) : pos (B.take (i + 1)) x = if x = b then some i else pos (B.take i) x := by
  have hi : i < B.length := (List.getElem?_eq_some_iff.mp h).1
  have hb : b ∉ B.take i := by
    intro hm
    obtain ⟨j, hj⟩ := List.mem_iff_getElem?.mp hm
    have hji : j < i := by
      have := (List.getElem?_eq_some_iff.mp hj).1
      rw [List.length_take] at this
      omega
    rw [List.getElem?_take_of_lt hji] at hj
    exact (nodup_get.mp hB) j i hji hi (hj.trans h.symm)
  have e : B.take (i + 1) = B.take i ++ [b] := by rw [List.take_add_one, h]; rfl
  have := pos_snoc hb x
  rw [← e, List.length_take, Nat.min_eq_left (Nat.le_of_lt hi)] at this
  exact this
theorem pos_lt {B : List IP} {x : IP} {i : Nat} (h : pos B x = some i) : i < B.length ∧ B[i]? = some x := by
  unfold pos at h
  split at h
  · rename_i m
    cases h
    have hl := List.idxOf_lt_length_of_mem m
    exact ⟨hl, by rw [List.getElem?_eq_getElem hl, List.getElem_idxOf hl]⟩
  · cases h
/-- the key of an ident in a dict -/
def kk (x : IP) : List Key := [.inl x.1, .inl x.2]
theorem kk_inj {x y : IP} (h : kk x = kk y) : x = y := by
  have h' : [(Sum.inl x.1 : Key), .inl x.2] = [.inl y.1, .inl y.2] := h
  injection h' with h1 h2
  injection h2 with h2 _
  exact Prod.ext (Sum.inl.inj h1) (Sum.inl.inj h2)
/-- what a dict tells of idents -/
def Tells (kvs : List (List Key × V)) (B : List IP) : Prop := ∀ x, valV kvs (kk x) = (pos B x).map fun (i : Nat) => V.int (i : Int)
theorem tells_nil : Tells [] [] := fun x => by
  unfold pos
  rw [if_neg (by simp)]
  rfl
theorem tells_put {kvs : List (List Key × V)} {B : List IP} (hB : B.Nodup) {i : Nat} {b : IP} (h : B[i]? = some b) (t : Tells kvs (B.take i)) : Tells (putK kvs (kk b) (.int (i : Nat))) (B.take (i + 1)) := fun x => by
  rw [valV_put, pos_take hB h]
  by_cases e : x = b
  · subst e
    rw [if_pos rfl, if_pos rfl]
    rfl
  · rw [if_neg (fun z => e (kk_inj z)), if_neg e]
    exact t x
def mst (B : List IP) (x : IP) (j : Nat) : List IP := match pos B x with
  | some i => [((i : Int), (j : Int))]
  | none => []
def mt (B N : List IP) : List IP := (N.mapIdx fun j x => mst B x j).flatten
theorem mt_step (B : List IP) {N : List IP} {j : Nat} {x : IP} (h : N[j]? = some x) : mt B (N.take (j + 1)) = mt B (N.take j) ++ mst B x j := by
  have hj : j < N.length := (List.getElem?_eq_some_iff.mp h).1
  unfold mt
  rw [List.take_add_one, h]
  show (List.mapIdx _ (List.take j N ++ [x])).flatten = _
  rw [List.mapIdx_append, List.flatten_append]
  congr 1
  rw [List.length_take, Nat.min_eq_left (Nat.le_of_lt hj)]
  show [mst B x (0 + j)].flatten = _
  rw [Nat.zero_add]
  simp
theorem mst_take {B : List IP} (hB : B.Nodup) {i : Nat} {b : IP} (h : B[i]? = some b) (x : IP) (j : Nat) : mst (B.take (i + 1)) x j = mst (B.take i) x j ++ if b = x then [((i : Int), (j : Int))] else [] := by
  have hn : b = x → pos (B.take i) x = none := fun e => by
    subst e
    unfold pos
    rw [if_neg]
    intro hm
    obtain ⟨k, hk⟩ := List.mem_iff_getElem?.mp hm
    have hji : k < i := by
      have := (List.getElem?_eq_some_iff.mp hk).1
      rw [List.length_take] at this
      omega
    rw [List.getElem?_take_of_lt hji] at hk
    exact (nodup_get.mp hB) k i hji (List.getElem?_eq_some_iff.mp h).1 (hk.trans h.symm)
  unfold mst
  rw [pos_take hB h]
  by_cases e : x = b
  · rw [if_pos e, hn e.symm, if_pos e.symm]
    rfl
  · rw [if_neg e, if_neg (fun z => e z.symm), List.append_nil]
theorem mst_nil (x : IP) (j : Nat) : mst [] x j = [] := by
  unfold mst pos
  rw [if_neg (by simp)]
theorem mst_mem {B : List IP} {x : IP} {j : Nat} {p : IP} (h : p ∈ mst B x j) : ∃ i, i < B.length ∧ p = ((i : Int), (j : Int)) := by
  unfold mst at h
  split at h
  · rename_i i e
    exact ⟨i, (pos_lt e).1, List.mem_singleton.mp h⟩
  · exact nomatch h
theorem mt_mem {B N : List IP} {p : IP} (h : p ∈ mt B N) : ∃ i j : Nat, i < B.length ∧ j < N.length ∧ p = ((i : Int), (j : Int)) := by
  unfold mt at h
  obtain ⟨l, hl, hp⟩ := List.mem_flatten.mp h
  obtain ⟨j, hj, rfl⟩ := List.mem_mapIdx.mp hl
  obtain ⟨i, hi, e⟩ := mst_mem hp
  exact ⟨i, j, hi, hj, e⟩
theorem mst_len (B : List IP) (x : IP) (j : Nat) : (mst B x j).length ≤ 1 := by
  unfold mst
  split <;> simp
theorem mt_len (B N : List IP) : (mt B N).length ≤ N.length := by
  suffices h : ∀ n, n ≤ N.length → (mt B (N.take n)).length ≤ n by
    have := h N.length (Nat.le_refl _)
    rw [List.take_length] at this
    exact this
  intro n
  induction n with
  | zero => intro _; simp [mt]
  | succ n ih =>
    intro h
    rw [mt_step B (List.getElem?_eq_getElem (by omega : n < N.length)), List.length_append]
    have := ih (by omega)
    have := mst_len B N[n] n
    omega
/-- slips -/
def atI0 (l : List Int) (i : Int) : Int := l.getD i.toNat 0
theorem atI0_nat {l : List Int} {i : Nat} {x : Int} (h : l[i]? = some x) : atI0 l (i : Int) = x := by
  unfold atI0
  rw [Int.toNat_natCast, List.getD_eq_getElem?_getD, h]
  rfl
def sst (o n : List Int) (p : IP) : List IP := if atI0 o p.1 = atI0 n p.2 then [] else [(atI0 o p.1, atI0 n p.2)]
def slp (o n : List Int) (ms : List IP) : List IP := (ms.map (sst o n)).flatten
theorem slp_step (o n : List Int) {ms : List IP} {j : Nat} {p : IP} (h : ms[j]? = some p) : slp o n (ms.take (j + 1)) = slp o n (ms.take j) ++ sst o n p := by
  unfold slp
  rw [List.take_add_one, h, List.map_append, List.flatten_append]
  simp
theorem slp_len (o n : List Int) : ∀ ms : List IP, (slp o n ms).length ≤ ms.length
  | [] => Nat.le_refl _
  | p :: r => by
    have h1 := slp_len o n r
    have h2 : (sst o n p).length ≤ 1 := by unfold sst; split <;> simp
    show ((sst o n p) ++ slp o n r).length ≤ r.length + 1
    rw [List.length_append]
    omega
/-- lost items -/
def lst1 (o : List Int) (ms : List IP) (x : Int) (j : Nat) : List Int := if x ∈ o ∧ (((o.idxOf x : Nat) : Int), (j : Int)) ∉ ms then [x] else []
def lsts (o n : List Int) (ms : List IP) : List Int := (n.mapIdx fun j x => lst1 o ms x j).flatten
theorem lsts_step (o : List Int) (ms : List IP) {n : List Int} {j : Nat} {x : Int} (h : n[j]? = some x) : lsts o (n.take (j + 1)) ms = lsts o (n.take j) ms ++ lst1 o ms x j := by
  have hj : j < n.length := (List.getElem?_eq_some_iff.mp h).1
  unfold lsts
  rw [List.take_add_one, h]
  show (List.mapIdx _ (List.take j n ++ [x])).flatten = _
  rw [List.mapIdx_append, List.flatten_append]
  congr 1
  rw [List.length_take, Nat.min_eq_left (Nat.le_of_lt hj)]
  show [lst1 o ms x (0 + j)].flatten = _
  rw [Nat.zero_add]
  simp
theorem lsts_len (o n : List Int) (ms : List IP) : (lsts o n ms).length ≤ n.length := by
  suffices h : ∀ k, k ≤ n.length → (lsts o (n.take k) ms).length ≤ k by
    have := h n.length (Nat.le_refl _)
    rw [List.take_length] at this
    exact this
  intro k
  induction k with
  | zero => intro _; simp [lsts]
  | succ k ih =>
    intro h
    rw [lsts_step o ms (List.getElem?_eq_getElem (by omega : k < n.length)), List.length_append]
    have := ih (by omega)
    have : (lst1 o ms n[k] k).length ≤ 1 := by unfold lst1; split <;> simp
    omega
/-- deep facts of pairs -/
theorem pD_lay (p : IP) : (pD p).canLay0 = true := by simp [pD, PyData.canLay0, PyData.canLayAll0]
theorem pD_depth (p : IP) : (pD p).depth = 1 := by simp [pD, PyData.depth, PyData.depthAll]
theorem pDs_lay : ∀ ps : List IP, PyData.canLayAll0 (ps.map pD) = true
  | [] => rfl
  | p :: r => by simp [PyData.canLayAll0, pD_lay p, pDs_lay r]
theorem pDs_depth : ∀ ps : List IP, PyData.depthAll (ps.map pD) ≤ 1
  | [] => Nat.zero_le _
  | p :: r => by
    have := pDs_depth r
    simp only [List.map_cons, PyData.depthAll, pD_depth p]
    omega
theorem pD_shaped (p : IP) : SeqAt.shaped (pD p) = true := by
  refine Bool.and_eq_true_iff.mpr ⟨pD_lay p, decide_eq_true ?_⟩
  rw [pD_depth]
  decide
theorem pDs_shapedL (ps : List IP) : SeqAt.shaped (.list (ps.map pD)) = true := by
  refine Bool.and_eq_true_iff.mpr ⟨by simp [PyData.canLay0, pDs_lay ps], decide_eq_true ?_⟩
  have := pDs_depth ps
  simp only [PyData.depth]
  omega
theorem pDs_shapedT (ps : List IP) : SeqAt.shaped (.tuple (ps.map pD)) = true := by
  refine Bool.and_eq_true_iff.mpr ⟨by simp [PyData.canLay0, pDs_lay ps], decide_eq_true ?_⟩
  have := pDs_depth ps
  simp only [PyData.depth]
  omega
theorem pD_eqv (p q : IP) : PyData.eqv (pD p) (pD q) = decide (p = q) := by
  simp only [pD, PyData.eqv, PyData.eqvAll, Bool.and_true]
  rw [Bool.eq_iff_iff]
  simp only [Bool.and_eq_true, decide_eq_true_iff, beq_iff_eq, Prod.ext_iff]
theorem pD_any (ps : List IP) (p : IP) : ((ps.map pD).any fun z => PyData.eqv z (pD p)) = decide (p ∈ ps) := by
  rw [List.any_map, Bool.eq_iff_iff, List.any_eq_true, decide_eq_true_iff]
  constructor
  · rintro ⟨x, hx, e⟩
    have e' : PyData.eqv (pD x) (pD p) = true := e
    rw [pD_eqv, decide_eq_true_iff] at e'
    rw [← e']
    exact hx
  · intro h
    exact ⟨p, h, by show PyData.eqv (pD p) (pD p) = true; rw [pD_eqv]; exact decide_eq_true rfl⟩
end D
namespace D
open PySem PySem.Spec PyProof.Rows L2
/-! ### a list of data that grows beside -/
def Acc (M : Ms) (H : Hp) (D : Addr) (H' : Hp) (ys : List PyData) : Prop := H D = none ∧ Same H H' ∧ ∃ acc, H' D = some (.lst acc) ∧ RpAll (also M D) H' acc ys
theorem Acc.new {M : Ms} {H : Hp} {D : Addr} (hD : H D = none) : Acc M H D (upd H D (.lst [])) [] := ⟨hD, same_new hD, [], upd_same, .nil⟩
theorem Acc.keep {M : Ms} {H H1 H2 : Hp} {D : Addr} {ys : List PyData} (h : Acc M H D H1 ys) (s : Same H1 H2) : Acc M H D H2 ys := by
  obtain ⟨hD, s0, acc, e, r⟩ := h
  exact ⟨hD, s0.trans s, acc, s _ _ e, r.sx (Sx.same s)⟩
theorem Acc.same {M : Ms} {H H1 : Hp} {D : Addr} {ys : List PyData} (h : Acc M H D H1 ys) : Same H H1 := h.2.1
theorem Acc.at {M : Ms} {H H1 : Hp} {D : Addr} {ys : List PyData} (h : Acc M H D H1 ys) : ∃ acc, H1 D = some (.lst acc) ∧ acc.length = ys.length := by
  obtain ⟨hD, s0, acc, e, r⟩ := h
  exact ⟨acc, e, r.length⟩
theorem Acc.put {M : Ms} {H H1 : Hp} {D : Addr} {ys : List PyData} {v : V} {y : PyData} (h : Acc M H D H1 ys) (r : Rp (also M D) H1 v y) (hl : ys.length ≤ 1000000) : ∃ acc, H1 D = some (.lst acc) ∧ acc.length < sizeLine ∧ Acc M H D (upd H1 D (.lst (acc ++ [v]))) (ys ++ [y]) := by
  obtain ⟨hD, s0, acc, e, ra⟩ := h
  refine ⟨acc, e, small1000000 (by rw [ra.length]; exact hl), hD, same_put s0 hD, acc ++ [v], upd_same, ?_⟩
  exact (ra.append (.one r)).sx (Sx.put (.inr rfl))
theorem Acc.mk {M : Ms} {H H1 : Hp} {D : Addr} {ys : List PyData} (h : Acc M H D H1 ys) (hM : Mk M H) : Mk (also M D) H1 := by
  obtain ⟨hD, s0, acc, e, r⟩ := h
  exact (hM.gr (Gr.same s0)).also (ne_none e)
theorem Acc.fin {M : Ms} {H H1 : Hp} {D : Addr} {ys : List PyData} (h : Acc M H D H1 ys) (hM : Mk M H) : Ld M H1 D ys := by
  obtain ⟨hD, s0, acc, e, r⟩ := h
  exact ⟨hM.out hD, acc, e, r.less also_le⟩
theorem Acc.rp {M : Ms} {H H1 : Hp} {D : Addr} {ys : List PyData} (h : Acc M H D H1 ys) (hM : Mk M H) : Rp M H1 (.ref D) (.list ys) := (h.fin hM).rp
/-- what stood ahead is read in the same way beside the list -/
theorem Acc.old {M : Ms} {H H1 : Hp} {D : Addr} {ys : List PyData} {v : V} {d : PyData} (h : Acc M H D H1 ys) (r : Rp M H v d) : Rp (also M D) H1 v d := (r.fresh h.1).sx (Sx.same h.2.1)
theorem Acc.oldM {M : Ms} {H H1 : Hp} {D : Addr} {ys : List PyData} {v : V} {d : PyData} (h : Acc M H D H1 ys) (r : Rp M H v d) : Rp M H1 v d := r.sx (Sx.same h.2.1)
end D
namespace D
open PySem PySem.Spec PyProof.Rows L2
theorem Rp.newT {M : Ms} {H : Hp} {p : Addr} {us : List V} {ds : List PyData} (hM : Mk M H) (hp : H p = none) (r : RpAll M H us ds) : Rp M (upd H p (.tup us)) (.ref p) (.tuple ds) := .tup (hM.out hp) (.inl upd_same) (r.sx (Sx.new hp))
theorem Rp.newL {M : Ms} {H : Hp} {p : Addr} {us : List V} {ds : List PyData} (hM : Mk M H) (hp : H p = none) (r : RpAll M H us ds) : Rp M (upd H p (.lst us)) (.ref p) (.list ds) := .lst (hM.out hp) (.inl upd_same) (r.sx (Sx.new hp))
theorem Mk.new {M : Ms} {H : Hp} {p : Addr} {o : HO} (hM : Mk M H) : Mk M (upd H p o) := hM.gr Gr.upd
def unI : PyData → Int
  | .int i => i
  | _ => 0
theorem perm_ints {es : List PyData} {l : List Int} (h : es.Perm (l.map PyData.int)) : ∃ ns : List Int, ns.Perm l ∧ es = ns.map PyData.int := by
  refine ⟨es.map unI, ?_, ?_⟩
  · have h1 := h.map unI
    rw [List.map_map] at h1
    have e : l.map (unI ∘ PyData.int) = l := by
      have : (unI ∘ PyData.int) = id := rfl
      rw [this, List.map_id]
    rw [e] at h1
    exact h1
  · rw [List.map_map]
    have e : ∀ x ∈ es, (PyData.int ∘ unI) x = x := fun x hx => by
      obtain ⟨i, _, rfl⟩ := List.mem_map.mp (h.mem_iff.mp hx)
      rfl
    exact (List.map_id es).symm.trans (List.map_congr_left fun x hx => (e x hx).symm)
def ten : List Int := [0, 1, 2, 3, 4, 5, 6, 7, 8, 9]
theorem ten_take (n : Nat) : (ten.take n).Nodup ∧ ∀ x ∈ ten.take n, 0 ≤ x ∧ x ≤ 9 :=
  ⟨(show ten.Nodup by decide).sublist (List.take_sublist n ten), fun x hx => (show ∀ x ∈ ten, 0 ≤ x ∧ x ≤ 9 by decide) x (List.mem_of_mem_take hx)⟩
def mxd (m : Nat) (s : Fm) : Nat := max m s.dep
theorem FmAt.two {M : Ms} {H : Hp} {f : Fm} {xs : List V} (h : FmAt M H f xs) : (∃ y z, xs = [.str y, z] ∧ (y = sIs ∨ y = sGet) ∧ f.dep = 1) ∨ ∃ y r, xs = .str y :: r ∧ r ≠ [] ∧ y ≠ sIs ∧ y ≠ sGet ∧ RpAll M H r (f.subs.map Fm.enc) ∧ f.dep = f.subs.foldl mxd 0 + 1 := by
  cases h with
  | is n => exact .inl ⟨_, _, rfl, .inl rfl, rfl⟩
  | get x => exact .inl ⟨_, _, rfl, .inr rfl, rfl⟩
  | @sum f g u w a b =>
    refine .inr ⟨_, _, rfl, by simp, by decide +kernel, by decide +kernel, .cons a (.one b), ?_⟩
    show max f.dep g.dep + 1 = max (max 0 f.dep) g.dep + 1
    omega
  | @same f g u w a b =>
    refine .inr ⟨_, _, rfl, by simp, by decide +kernel, by decide +kernel, .cons a (.one b), ?_⟩
    show max f.dep g.dep + 1 = max (max 0 f.dep) g.dep + 1
    omega
  | @pick f g k u w z a b c =>
    refine .inr ⟨_, _, rfl, by simp, by decide +kernel, by decide +kernel, .cons a (.cons b (.one c)), ?_⟩
    show max f.dep (max g.dep k.dep) + 1 = max (max (max 0 f.dep) g.dep) k.dep + 1
    omega
theorem ints_mem {l : List Int} (h : ∀ n ∈ l, 0 ≤ n ∧ n ≤ 9) {v : V} (hv : v ∈ l.map V.int) : ∃ n, v = .int n ∧ 0 ≤ n ∧ n ≤ 9 := by
  obtain ⟨n, hn, rfl⟩ := List.mem_map.mp hv
  exact ⟨n, rfl, h n hn⟩
/-- a draw of a row -/
def DrR (K : PySem.W.Frag) (M : Ms) (b : Addr) (H : Hp) (R : List Int → Prop) (Q : VK) : Prop := ∀ v H' ns, Sx (one b) H H' → Gr H H' → Bag K M H' b → RowF M H' v ns → R ns → Q v H'
end D

namespace D
open PySem PySem.Spec PyProof.Rows L2
/-! ### rows that a key mixes up -/
theorem flat_ne {α β : Type} (f : α → List β) (l : List α) : (l.map f).flatten ≠ [] ↔ ∃ x ∈ l, f x ≠ [] := by
  induction l with
  | nil => simp
  | cons a r ih =>
    rw [List.map_cons, List.flatten_cons]
    constructor
    · intro h
      by_cases c : f a = []
      · rw [c, List.nil_append] at h
        obtain ⟨x, hx, e⟩ := ih.mp h
        exact ⟨x, List.mem_cons_of_mem _ hx, e⟩
      · exact ⟨a, List.mem_cons_self, c⟩
    · rintro ⟨x, hx, e⟩ z
      obtain ⟨z1, z2⟩ := List.append_eq_nil_iff.mp z
      rcases List.mem_cons.mp hx with rfl | hx
      · exact e z1
      · exact ih.mpr ⟨x, hx, e⟩ z2
theorem flat_ne_idx {α β : Type} (f : Nat → α → List β) (l : List α) : (l.mapIdx f).flatten ≠ [] ↔ ∃ (j : Nat) (x : α), l[j]? = some x ∧ f j x ≠ [] := by
  have h := flat_ne (fun y => y) (l.mapIdx f)
  rw [List.map_id'] at h
  rw [h]
  constructor
  · rintro ⟨y, hy, e⟩
    obtain ⟨j, hj⟩ := List.mem_iff_getElem?.mp hy
    rw [List.getElem?_mapIdx] at hj
    obtain ⟨x, hx, rfl⟩ := Option.map_eq_some_iff.mp hj
    exact ⟨j, x, hx, e⟩
  · rintro ⟨j, x, hx, e⟩
    exact ⟨f j x, List.mem_iff_getElem?.mpr ⟨j, by rw [List.getElem?_mapIdx, hx]; rfl⟩, e⟩
theorem pos_of {B : List IP} (hB : B.Nodup) {i : Nat} {x : IP} (h : B[i]? = some x) : pos B x = some i := by
  have hm : x ∈ B := List.mem_of_getElem? h
  have hi := (List.getElem?_eq_some_iff.mp h).1
  have h2 := List.idxOf_lt_length_of_mem hm
  have e2 : B[B.idxOf x]? = some x := by rw [List.getElem?_eq_getElem h2, List.getElem_idxOf h2]
  unfold pos
  rw [if_pos hm]
  rcases Nat.lt_trichotomy (B.idxOf x) i with c | c | c
  · exact absurd (e2.trans h.symm) (nodup_get.mp hB _ _ c hi)
  · rw [c]
  · exact absurd (h.trans e2.symm) (nodup_get.mp hB _ _ c h2)
theorem mem_mt {B N : List IP} (hB : B.Nodup) (i j : Nat) : ((i : Int), (j : Int)) ∈ mt B N ↔ ∃ x, B[i]? = some x ∧ N[j]? = some x := by
  constructor
  · intro h
    unfold mt at h
    obtain ⟨l, hl, hp⟩ := List.mem_flatten.mp h
    obtain ⟨k, hk, rfl⟩ := List.mem_mapIdx.mp hl
    unfold mst at hp
    cases e : pos B N[k] with
    | none => rw [e] at hp; exact nomatch hp
    | some m =>
      rw [e] at hp
      have hp' := List.mem_singleton.mp hp
      injection hp' with h1 h2
      have h1' : i = m := Int.ofNat.inj h1
      have h2' : j = k := Int.ofNat.inj h2
      subst h1' h2'
      exact ⟨_, (pos_lt e).2, List.getElem?_eq_getElem hk⟩
  · rintro ⟨x, h1, h2⟩
    unfold mt
    refine List.mem_flatten.mpr ⟨mst B x j, List.mem_iff_getElem?.mpr ⟨j, by rw [List.getElem?_mapIdx, h2]; rfl⟩, ?_⟩
    unfold mst
    rw [pos_of hB h1]
    exact List.mem_singleton.mpr rfl
def badB (o n : List Int) (B N : List IP) : Bool := !(slp o n (mt B N)).isEmpty || !(lsts o n (mt B N)).isEmpty
theorem idx_of {n : List Int} (h : n.Nodup) {i : Nat} {x : Int} (e : n[i]? = some x) : n.idxOf x = i := by
  have hi := (List.getElem?_eq_some_iff.mp e).1
  have hx : x ∈ n := List.mem_of_getElem? e
  have h2 := List.idxOf_lt_length_of_mem hx
  have e2 : n[n.idxOf x]? = some x := by rw [List.getElem?_eq_getElem h2, List.getElem_idxOf h2]
  rcases Nat.lt_trichotomy (n.idxOf x) i with c | c | c
  · exact absurd (e2.trans e.symm) (nodup_get.mp h _ _ c hi)
  · exact c
  · exact absurd (e.trans e2.symm) (nodup_get.mp h _ _ c h2)
theorem bad_iff {o n : List Int} {B N : List IP} (ho : o.Nodup) (hB : B.Nodup) (lB : B.length = o.length) (lN : N.length = n.length) :
    badB o n B N = true ↔ ∃ (i j : Nat) (x y : Int) (u v : IP), o[i]? = some x ∧ n[j]? = some y ∧ B[i]? = some u ∧ N[j]? = some v ∧ decide (u = v) ≠ decide (x = y) := by
  have e1 : badB o n B N = true ↔ (slp o n (mt B N) ≠ [] ∨ lsts o n (mt B N) ≠ []) := by
    unfold badB
    rw [Bool.or_eq_true]
    constructor
    · rintro (h | h)
      · left; intro z; rw [z] at h; exact nomatch h
      · right; intro z; rw [z] at h; exact nomatch h
    · rintro (h | h)
      · left; cases e : slp o n (mt B N) with
        | nil => exact absurd e h
        | cons a r => rfl
      · right; cases e : lsts o n (mt B N) with
        | nil => exact absurd e h
        | cons a r => rfl
  rw [e1]
  have at_ : ∀ {i : Nat}, i < o.length → ∃ u, B[i]? = some u := fun {i} h => ⟨B[i]'(by omega), List.getElem?_eq_getElem _⟩
  constructor
  · rintro (h | h)
    · obtain ⟨p, hp, e⟩ := (flat_ne (sst o n) (mt B N)).mp h
      obtain ⟨i, j, hi, hj, rfl⟩ := mt_mem hp
      obtain ⟨w, h1, h2⟩ := (mem_mt hB i j).mp hp
      have x1 : o[i]? = some (o[i]'(by omega)) := List.getElem?_eq_getElem _
      have x2 : n[j]? = some (n[j]'(by omega)) := List.getElem?_eq_getElem _
      refine ⟨i, j, _, _, w, w, x1, x2, h1, h2, ?_⟩
      rw [decide_eq_true rfl]
      intro z
      have z' := of_decide_eq_true z.symm
      apply e
      unfold sst
      rw [atI0_nat x1, atI0_nat x2, if_pos z']
    · obtain ⟨j, x, hx, e⟩ := (flat_ne_idx (fun j x => lst1 o (mt B N) x j) n).mp h
      have hc : x ∈ o ∧ (((o.idxOf x : Nat) : Int), (j : Int)) ∉ mt B N := by
        by_cases c : x ∈ o ∧ (((o.idxOf x : Nat) : Int), (j : Int)) ∉ mt B N
        · exact c
        · exact absurd (if_neg c) e
      have hix := List.idxOf_lt_length_of_mem hc.1
      have hj := (List.getElem?_eq_some_iff.mp hx).1
      obtain ⟨u, hu⟩ := at_ hix
      have hv : N[j]? = some (N[j]'(by omega)) := List.getElem?_eq_getElem _
      refine ⟨o.idxOf x, j, x, x, u, _, by rw [List.getElem?_eq_getElem hix, List.getElem_idxOf hix], hx, hu, hv, ?_⟩
      rw [decide_eq_true (show x = x from rfl)]
      intro z
      have z' := of_decide_eq_true z
      exact hc.2 ((mem_mt hB _ j).mpr ⟨u, hu, by rw [hv, z']⟩)
  · rintro ⟨i, j, x, y, u, v, hx, hy, hu, hv, hne⟩
    by_cases c : u = v
    · left
      subst c
      have hp : ((i : Int), (j : Int)) ∈ mt B N := (mem_mt hB i j).mpr ⟨u, hu, hv⟩
      refine (flat_ne (sst o n) (mt B N)).mpr ⟨_, hp, ?_⟩
      unfold sst
      rw [atI0_nat hx, atI0_nat hy, if_neg]
      · simp
      · intro z
        apply hne
        rw [decide_eq_true rfl, decide_eq_true z]
    · have xy : x = y := by
        by_cases z : x = y
        · exact z
        · exact absurd (by rw [decide_eq_false c, decide_eq_false z]) hne
      subst xy
      right
      refine (flat_ne_idx (fun j x => lst1 o (mt B N) x j) n).mpr ⟨j, x, hy, ?_⟩
      have hm : x ∈ o := List.mem_of_getElem? hx
      show lst1 o (mt B N) x j ≠ []
      unfold lst1
      rw [if_pos]
      · simp
      · refine ⟨hm, fun z => ?_⟩
        rw [idx_of ho hx] at z
        obtain ⟨w, h1, h2⟩ := (mem_mt hB i j).mp z
        exact c ((Option.some.inj (hu.symm.trans h1)).trans (Option.some.inj (h2.symm.trans hv)))
end D

namespace D
open PySem PySem.Spec PyProof.Rows L2
section
variable {X : Cx} {C g : Addr} {n : Nat} {CX : CXT} {sp : Sp} {E : XK} {fd : FuncData} {ps : List Str}
theorem room_in1 {A : Around} (r : Room (n + 1) A) : Room n A.in1 := ⟨r.hd, by have := r.dp; show A.depth + 3 * n + 5 < _; omega, by have := r.un; show A.units + 1 + 16 * n + 200 < _; omega⟩
/-- a def is run one step in -/
theorem run_in1 {pins : List (Addr × Obj)} {σ : L2.St} {H : Hp} {s : Shared} {Q : VK} {us : List Value} {vs : List V} (F : FnOk X.prog X.w X.K X.mg X.base CX n g fd ps sp) (hr : Room (n + 1) X.A) (hb : Binds X.K fd ps []) (hx : Passes CX X E)
    (I : Inv X pins σ H s) (r : Vals vs us) (h : sp vs H Q E) : wpAny (model X.prog X.w) X.A.in1 (call (.ref g) us) (EP X pins σ Q) X.xe s := by
  have hl : (us ++ []).length = ps.length := by rw [List.append_nil, ← r.length]; exact F.len _ _ _ _ h
  have bd := hb s us I.kIn hl
  rw [List.append_nil] at bd
  refine wpAny_call (codeAny_mono (F.run X.A.in1 X.stack s H ⟨us, []⟩ us vs Q E (room_in1 hr) I.env0.in1 bd r h) fun r s' hq => ?_)
  match r, hq with
  | .error e, hq => exact hx pins σ H s e s' I hq
  | .ok (.ret u), hq => exact I.after hq
  | .ok .next, hq => exact False.elim hq
  | .ok .brk, hq => exact False.elim hq
  | .ok .cont, hq => exact False.elim hq
/-- what an instance's own subscript reads: the def at g answers for the instance and the index -/
def tOwnIx (C : Addr) (sp : Sp) (E : XK) (to ti : TE) : TE := fun σ H Q => to σ H fun x H1 => ti σ H1 fun y H2 => ∃ a dx fs, x = .ref a ∧ H2 a = some (.ins C dx fs) ∧ sp [x, y] H2 Q E
theorem pe_ownIx {o i : Expr} {to ti : TE} {pos : Pos} (ho : PE X o to) (hi : PE X i ti) (hs : PySem.W.findIn X.K (.ref C) "__getitem__" = some (some (.ref g))) (hf : PySem.W.fnIn X.K g = true) (hg : PySem.W.isFn X.K (.ref g) = true)
    (F : FnOk X.prog X.w X.K X.mg X.base CX n g fd ps sp) (hb : Binds X.K fd ps []) (hr : Room (n + 1) X.A) (hx : Passes CX X E)
    (hsl : ∀ ov iv, subscripted i true ov iv = runValue (.builtin "lifetime.subscript" ⟨[ov, iv], []⟩)) : PE X (.Subscript o i pos) (tOwnIx C sp E to ti) := by
  refine ⟨fun pins s σ H Q I h => ?_⟩
  refine Subscript_ (thn (ho.run pins s σ H _ I h) fun ov s1 ⟨x, H1, I1, rx, q1⟩ => thn (hi.run pins s1 σ H1 _ I1 q1) fun iv s2 ⟨y, H2, I2, ry, a, dx, fs, ex, ha, q⟩ => ?_)
  subst ex
  obtain rfl : ov = Value.ref a := rx
  obtain ⟨mA, O, _⟩ := ins_get I2.hok ha
  obtain ⟨od, J, _⟩ := O.look
  obtain ⟨m, hF⟩ := I2.fr
  exact PySem.W.sub_K hF I2.ok.mod.kin J hs hf hg (run_in1 (us := [.ref a, iv]) (vs := [.ref a, y]) F hr hb hx I2 (.cons rfl (.cons ry .nil)) q) (hsl _ _)
/-- the store into an instance by its own def -/
theorem wp_ownPut {prog : Program} {w : World} {A : Around} {Ex : Value → Shared → Prop} {s : Shared} {K : PySem.W.Frag} {x C f : Addr} {ox : Obj} {od : Option Obj} {i v : Value} {Q : Unit → Shared → Prop} (hK : K.In s.heap) (J : PySem.W.InstAt s.heap x ox C od)
    (hq : PySem.W.noSeq K C = true) (hs : PySem.W.findIn K (.ref C) "__setitem__" = some (some (.ref f))) (hf : PySem.W.isFn K (.ref f) = true)
    (h : wpAny (model prog w) A (call (.ref f) [.ref x, i, v]) (fun _ => Q ()) Ex s) : wpAny (model prog w) A (setItem (.ref x) i v) Q Ex s := by
  unfold setItem sequenceKey
  have called : wpAny (model prog w) A (callSpecial? (.ref x) "__setitem__" [i, v]) (fun r => match r with | some _ => Q () | none => fun _ => False) Ex s :=
    PySem.W.special_fn hK J hs (beq_iff_eq.mp hf) h
  refine wpAny_holding (wpAny_bind (wpAny_bind (J.type.here (wpAny_bind ((PySem.W.anyM_none hK hq).here ?_)))))
  rw [if_pos (by rfl : (!false) = true)]
  refine wpAny_pure (wpAny_bind (wpAny_mono called (fun r s' z => ?_) fun _ _ z => z))
  match r, z with
  | some _, z => exact wpAny_pure z
/-- x[i] = v, an own def's store -/
def sOwnPut (C : Addr) (sp : Sp) (E : XK) (to ti tv : TE) : TS := fun D σ H => tv σ H fun v H1 => to σ H1 fun x H2 => ti σ H2 fun y H3 => ∃ a dx fs, x = .ref a ∧ H3 a = some (.ins C dx fs) ∧ sp [x, y, v] H3 (fun _ H4 => D.nx σ H4) E
theorem ps_ownPut {o i value : Expr} {pos pos' : Pos} {to ti tv : TE} (ho : PE X o to) (hi : PE X i ti) (hv : PE X value tv) (hq : PySem.W.noSeq X.K C = true) (hs : PySem.W.findIn X.K (.ref C) "__setitem__" = some (some (.ref g))) (hf : PySem.W.isFn X.K (.ref g) = true)
    (F : FnOk X.prog X.w X.K X.mg X.base CX n g fd ps sp) (hb : Binds X.K fd ps []) (hr : Room (n + 1) X.A) (hx : Passes CX X E) (sw : swapsWith value (some (.Subscript o i pos')) pos.line X.env = pure false) :
    PS X (.Assign [.Subscript o i pos'] value pos) (sOwnPut C sp E to ti tv) := by
  refine ⟨fun pins s σ H D I h => ?_⟩
  refine wpAny_Assign_Subscript (thn (hv.run pins s σ H _ I h) fun r s1 ⟨v, H1, I1, rv, q1⟩ => thn (ho.run pins s1 σ H1 _ I1 q1) fun u s2 ⟨x, H2, I2, rx, q2⟩ => thn (hi.run pins s2 σ H2 _ I2 q2) fun iv s3 ⟨y, H3, I3, ry, a, dx, fs, ex, ha, q⟩ => ?_) sw
  subst ex
  obtain rfl : u = Value.ref a := rx
  obtain ⟨mA, O, _⟩ := ins_get I3.hok ha
  obtain ⟨od, J, _⟩ := O.look
  refine wp_ownPut I3.kIn J hq hs hf (wpAny_mono (run_fn (us := [.ref a, iv, r]) (vs := [.ref a, y, v]) F (hr.mono (Nat.le_succ n)) hb .nil hx I3 (.cons rfl (.cons ry (.cons rv .nil))) q) (fun w s' z => ?_) fun _ _ z => z)
  obtain ⟨z', H', I', _, qz⟩ := z
  exact ⟨σ, H', I', qz⟩
theorem pi_zipAK {K : PySem.W.Frag} {e e2 : Expr} {ta : TA} {p pos tpos : Pos} {elts : List Expr} {kk : Nat} (hK : X.K = K) (hg : Gl X "zip") (hm : X.mg "zip" = none) (ha : PA X [e, e2] ta)
    (hs : starEach [e, e2] X.env = (false, eval e X.env) :: starEach [e2] X.env := by rfl) (hpl : (backTo pos (starEach [e2] X.env)).any (·.1) = false := by rfl) :
    PI X (.Tuple elts kk tpos) (.Call (.Name "zip" p) [e, e2] [] pos) (RZ.iZipA K ta) := by subst hK; exact RZ.pi_zipA hg hm ha hs hpl
end
/-- the loop over two tuples side by side, whatever its body -/
theorem zipT_loop {K : PySem.W.Frag} {a b : Addr} {xs ys : List V} {Qd : Hp → Prop} {H0 : Hp} {B : V → Hp → (Hp → Prop) → Prop} (he : xs.length = ys.length) (Pv : Nat → Hp → Prop) (h0 : Pv 0 H0) (hl : ∀ i H, i ≤ xs.length → Pv i H → SqT K H a xs ∧ SqT K H b ys)
    (hs : ∀ i x y T H, xs[i]? = some x → ys[i]? = some y → H T = none → Pv i H → B (.ref T) (upd H T (.tup [x, y])) (Pv (i + 1))) (hd : ∀ H, Pv xs.length H → Qd H) :
    ∃ W : Nat → Nat → Hp → Prop, (∃ m, W 0 m H0) ∧ ∀ i m H, W i m H → ((RZ.ItzT K a b).stop i H ∧ Qd H) ∨ ((RZ.ItzT K a b).go i H ∧ ∃ Nx : Hp → Prop, (∀ H', Nx H' → ∃ m', m' < m ∧ W (i + 1) m' H') ∧ ∀ x H', (RZ.ItzT K a b).yld i H x H' → B x H' Nx) := by
  refine ⟨fun i m H => m = xs.length - i ∧ i ≤ xs.length ∧ Pv i H, ⟨_, rfl, Nat.zero_le _, h0⟩, ?_⟩
  rintro i m H ⟨rfl, hi, p⟩
  obtain ⟨q1, q2⟩ := hl i H hi p
  by_cases hlt : i < xs.length
  · refine .inr ⟨⟨xs, ys, xs[i], ys[i]'(by omega), q1, q2, by simp [hlt], List.getElem?_eq_getElem _⟩, Pv (i + 1), fun H' p' => ⟨xs.length - (i + 1), by omega, rfl, hlt, p'⟩, fun x H' y => ?_⟩
    obtain ⟨T, u, v, rfl, hT, rfl, z1, z2⟩ := y
    exact hs i u v T _ (z1 xs q1) (z2 ys q2) hT p
  · have e : i = xs.length := by omega
    subst e
    exact .inl ⟨⟨xs, ys, q1, q2, .inl (Nat.le_refl _)⟩, hd H p⟩
/-- keys of pairs -/
def idk (p : IP) : List Key := [.inl p.1, .inl p.2]
theorem idk_inj {p q : IP} (h : idk p = idk q) : p = q := by
  unfold idk at h
  injection h with h1 h2
  injection h2 with h2 _
  exact Prod.ext (Sum.inl.inj h1) (Sum.inl.inj h2)
theorem idk_kV (p : IP) : (idk p).map kV = [.int p.1, .int p.2] := rfl
/-- a dict of whole numbers by pairs -/
def DN (kvs : List (List Key × V)) (N : IP → Option Int) : Prop := ∀ p : IP, valV kvs (idk p) = (N p).map V.int
def shownN (l : List IP) (N : IP → Option Int) : IP → Option Int := fun x => if x ∈ l then some ((N x).getD 0) else none
theorem DN.put {kvs : List (List Key × V)} {N : IP → Option Int} (h : DN kvs N) (p : IP) (w : Int) : DN (putK kvs (idk p) (.int w)) (fun x => if x = p then some w else N x) := fun x => by
  rw [valV_put]
  dsimp only
  by_cases c : x = p
  · rw [if_pos (by rw [c]), if_pos c]
    rfl
  · rw [if_neg (fun z => c (idk_inj z)), if_neg c]
    exact h x
theorem DN.show {kvs : List (List Key × V)} {N : IP → Option Int} {l : List IP} {n : IP} (h : DN kvs (shownN l N)) : DN (putK kvs (idk n) (.int ((N n).getD 0))) (shownN (l ++ [n]) N) := fun x => by
  rw [h.put n _ x]
  unfold shownN
  dsimp only
  by_cases c : x = n
  · subst c
    rw [if_pos rfl, if_pos (List.mem_append_right _ (List.mem_singleton.mpr rfl))]
  · rw [if_neg c]
    by_cases d : x ∈ l
    · rw [if_pos d, if_pos (List.mem_append_left _ d)]
    · rw [if_neg d, if_neg (fun z => (List.mem_append.mp z).elim d fun e => c (List.mem_singleton.mp e))]
theorem putK_len {κ : Type} [DecidableEq κ] {c : List (κ × V)} {k : κ} {x y : V} (h : valV c k = some y) : (putK c k x).length = c.length := by
  unfold putK
  rw [if_pos]
  · exact List.length_map _
  · unfold valV at h
    obtain ⟨q, hq, _⟩ := Option.map_eq_some_iff.mp h
    have hq2 := List.find?_some (p := fun kv : κ × V => decide (kv.1 = k)) hq
    exact List.any_eq_true.mpr ⟨q, List.mem_of_find?_eq_some hq, hq2⟩
theorem putK_more {κ : Type} [DecidableEq κ] (c : List (κ × V)) (k : κ) (x : V) : (putK c k x).length ≤ c.length + 1 := by
  unfold putK
  split
  · rw [List.length_map]; omega
  · rw [List.length_append]; exact Nat.le_refl _
end D

namespace D
open PySem PySem.Spec PyProof.Rows L2
section
variable {X : Cx} {es : List Expr} {t : TA} {pos : Pos}
theorem pe_notTK {K : PySem.W.Frag} {a : Expr} {ta : TE} (hK : X.K = K) (ha : PE X a ta) : PE X (.UnaryOp .Not a pos) (tNotT K ta) := by subst hK; exact pe_notT ha
/-- a written tuple, known to its object -/
def tTupF (t : TA) : TE := fun σ H Q => t σ H fun xs H1 => xs.length ≤ sizeLine ∧ ∀ p o, H1 p = none → o.cls = .type "tuple" → o.dict = none → Q (.ref p) (upd H1 p (.frz o (.tup xs)))
theorem pe_tupF {x1} (h : PA X es t) : PE X (.Tuple es x1 pos) (tTupF t) := by
  refine ⟨fun held st sl G C J want => ?_⟩
  refine wpAny_Tuple_spliced (thn (h.run pos held st sl G _ J want) fun vals st2 ⟨items, G2, J2, rel, fits, fin⟩ => ⟨by rw [← rel.length]; exact fits, ?_⟩)
  have unused : G2 st2.heap.objs.size = none := J2.hok.fresh (Nat.le_refl _)
  let made : Obj := { cls := .type "tuple", data := .seq vals.toArray }
  refine ⟨.ref st2.heap.objs.size, upd G2 st2.heap.objs.size (.frz made (.tup items)), J2.laid (t' := st2.toks) (fun _ _ old => Heap.get?_push_of_some _ old) (Nat.le_refl _) ?_, rfl, fin _ made unused rfl rfl⟩
  exact (show ObjOk X.prog X.w _ _ _ (.frz made (.tup items)) from ⟨Heap.get?_push_size _ rfl, fits, vals, rel, ⟨_, Heap.get?_push_size _ rfl, rfl, _, rfl⟩⟩)
/-- t + u, known to its object -/
def rCatF (K : PySem.W.Frag) : R2 := fun x y H Q => ∃ a b xs ys, x = .ref a ∧ y = .ref b ∧ SqT K H a xs ∧ SqT K H b ys ∧ xs.length + ys.length ≤ sizeLine ∧
  (xs = [] → Q (.ref b) H) ∧ (xs ≠ [] → ys = [] → Q (.ref a) H) ∧ (xs ≠ [] → ys ≠ [] → ∀ p o, H p = none → o.cls = .type "tuple" → o.dict = none → Q (.ref p) (upd H p (.frz o (.tup (xs ++ ys)))))
theorem op_catF {K : PySem.W.Frag} (hK : X.K = K) : OpR X (binaryOp .Add) (rCatF K) := by
  subst hK
  intro held st sl G x y v u C J relx rely want
  obtain ⟨one', two, left, right, rfl, rfl, readL, readR, fits, none1, none2, both⟩ := want
  by_cases emp : left = []
  · exact op_catA held st sl G _ _ v u C J relx rely ⟨one', two, left, right, rfl, rfl, readL, readR, fits, none1, fun no => absurd emp no, fun no => absurd emp no⟩
  cases relx
  cases rely
  obtain ⟨itemsL, relL, tupL, _⟩ := J.tuple readL
  obtain ⟨itemsR, relR, tupR, _⟩ := J.tuple readR
  refine HT.cat_tup tupL tupR (fun no => emp (relL.nil_iff.mp no)) (fun no => ⟨.ref one', G, J, rfl, none2 emp (relR.nil_iff.mp no)⟩) (fun full => ?_) (by rw [← relL.length, ← relR.length]; exact fits)
  let made : Obj := { cls := .type "tuple", data := .seq (itemsL ++ itemsR).toArray }
  refine ⟨.ref st.heap.objs.size, _, J.laid (t' := st.toks) (o := .frz made (.tup (left ++ right))) (fun _ _ old => Heap.get?_push_of_some _ old) (Nat.le_refl _) ?_, rfl, both emp (fun no => full (relR.nil_iff.mpr no)) _ made (J.hok.fresh (Nat.le_refl _)) rfl rfl⟩
  exact ⟨Heap.get?_push_size _ rfl, by rw [List.length_append]; exact fits, _, relL.append relR, IsTup.new _ _⟩
theorem dcG_core {pins : List (Addr × Obj)} {s : Shared} {σ : L2.St} {H : Hp} {Q : VK} {O : Addr → HO} {Put : Addr → (Hp → Prop) → V → V → Hp → Prop} {kx vx tgt it : Expr} {ifs : List Expr} {sc : Scope} {own : List (Str × Nat)} {pos pos' : Pos} {walk : TI} {g : TG} {tt : TT} {tk tv : TE} {use : Option (Value → Sem Unit)} {Qf : Value → Shared → Prop}
    (mk0 : ∀ (H : Hp) (h : Heap), sysModules < h.objs.size → ObjOk X.prog X.w H (h.push { cls := .type "dict", data := .dict #[] }) h.objs.size (O h.objs.size)) (store : Stores X Put) (calm : X.calm = true) (nod : X.N.Nodup) (I : Inv X pins σ H s)
    (pi : PI X tgt it walk) (bo : BlkOk X.N X.env.scope sc own) (pg : InBlk X sc fun B => PG B tgt g) (pt : InBlk X sc fun B => PTs B ifs tt) (pk : InBlk X sc fun B => PE B kx tk) (pv : InBlk X sc fun B => PE B vx tv)
    (plain : ∀ x, foldedSetIterable it X.env x = pure x) (h : tDcG O Put walk g tt tk tv (own.map (·.2)) σ H Q)
    (behind : ∀ made frame st names G, Inv X pins σ G st → Q (.ref made) G → st.heap.Ns frame names → FpOk X pins G frame → compPost (model X.prog X.w) X.A X.xe use Qf (.ref made) frame (.ok .next) st) :
    wpAny (model X.prog X.w) X.A (comprehension (.DictComp kx vx [⟨tgt, it, ifs, 0⟩] sc pos) sc X.env pos' newDict false (eval it X.env) use) Qf X.xe s := by
  have free : ∀ y ∈ sc.names, y.2 = .free → ∃ c, X.env.cells.lookup y.1 = some c := fun y hy e => (bo.free y hy e).elim (fun k => I.ok.has _ (.inl k)) fun k => I.ok.has _ (.inr k)
  refine wpAny_comprehension_free (use := use) rfl plain (closure_ok free) bo.kind (fun y hy e => by rw [bo.uniq y hy, e]) ?_
  -- what is walked, then the empty dict
  refine thn (pi.run pins s σ H _ I h) fun xv s1 hx => thn hx ?_
  rintro itv s2 ⟨ad, feet, tn, J, H2, rfl, I2, T, at2, ft2, q⟩
  refine wpAny_newObj_type (newEnv_comp ?_)
  have fresh : H2 s2.heap.objs.size = none := I2.hok.fresh (Nat.le_refl _)
  obtain ⟨W, ⟨m0, w0⟩, turn⟩ := q _ fresh
  let s3 : Shared := { s2 with heap := s2.heap.push { cls := .type "dict", data := .dict #[] } }
  let D : Addr := s2.heap.objs.size
  let H3 : Hp := upd H2 D (O D)
  let L : Addr := s3.heap.objs.size
  let e3 : Env := compEnvC sc (cellsFrom (L + 1) sc.names (cloFrom X.env.cells sc.names [])) L X.env
  let s4 : Shared := { s3 with heap := pushCells (s3.heap.push { cls := .type "dict", data := .dict #[] }) sc.names }
  have I3 : Inv X pins σ H3 s3 := I2.laid (t' := s2.toks) (fun _ _ e => Heap.get?_push_of_some _ e) (Nat.le_refl _) (mk0 _ s2.heap I2.big)
  have grown : ∀ b o, s2.heap.get? b = some o → s3.heap.get? b = some o := fun _ _ e => Heap.get?_push_of_some _ e
  have low : ∀ b ∈ feet, b < s2.heap.objs.size := fun b hb => Heap.lt_size (T.obj _ _ at2 b hb).choose_spec.1
  have ft3 : ∀ b ∈ feet, FpOk X pins H3 b ∧ b < s3.heap.objs.size := fun b hb => ⟨⟨(upd_ne (Nat.ne_of_lt (low b hb))).trans (ft2 b hb).1, (ft2 b hb).2⟩, by show b < (s2.heap.push _).objs.size; rw [Heap.size_push]; exact Nat.lt_succ_of_lt (low b hb)⟩
  have at3 : tn 0 s3.heap := T.keep _ _ _ at2 fun b _ o e => grown b o e
  have I4 : Inv (X.blk s3 H3 sc e3 feet) [] (wipe σ (own.map (·.2))) H3 s4 := block_start I3 bo nod ft3
  have at4 : tn 0 s4.heap := T.keep _ _ _ at3 fun b _ o e => pushCells_keeps _ _ _ _ (Heap.get?_push_of_some _ e)
  -- the walker's own objects in the block's context
  have foot : ∀ {σ' : L2.St} {G : Hp} {t : Shared}, Inv (X.blk s3 H3 sc e3 feet) [] σ' G t → (∀ b ∈ feet, G b = none) → ∀ b ∈ feet, FpOk (X.blk s3 H3 sc e3 feet) [] G b := by
    intro σ' G t J' none b hb
    refine ⟨none b hb, (J'.ok.exf b hb).1, J'.ok.exfs b hb, .inl hb, fun x c e => (J'.ok.exf b hb).2 x c e, ?_⟩
    intro p hp
    exact nomatch (show p ∈ ([] : List (Addr × Obj)) from by simpa using hp)
  have loop : codeAny (model X.prog X.w) X.A (.compLoop (.DictComp kx vx [⟨tgt, it, ifs, 0⟩] sc pos) 0 (.ref ad) (.ref D) e3) (compPost (model X.prog X.w) X.A X.xe use Qf (.ref D) L) s4 := by
    refine compLoop_anyD (fun n t => ∃ i G, Inv (X.blk s3 H3 sc e3 feet) [] (wipe σ (own.map (·.2))) G t ∧ tn i t.heap ∧ (∀ b ∈ feet, G b = none) ∧ W i n G) ?_ m0 ⟨0, H3, I4, at4, fun b hb => (ft3 b hb).1.1, w0⟩
    rintro n t ⟨i, G, IG, atG, nG, wG⟩
    obtain ⟨stop, fin⟩ | ⟨go, N, less, step⟩ := turn i n G wG
    · refine thnF (T.done (X.blk s3 H3 sc e3 feet) rfl rfl rfl calm i [] t _ G (fun _ _ => False) IG (foot IG nG) atG stop) ?_
      rintro r t6 ⟨rfl, I6⟩
      have I7 : Inv X pins σ G t6 := I3.call' (ch := feet) I6.os I6.base I6.hok I6.bare fun b hb => let z := (ft3 b hb).1.2; ⟨z.2.2.1, z.1, z.2.2.2.1, z.2.2.2.2⟩
      obtain ⟨m, names, _⟩ := I6.loc
      exact behind D L t6 m G I7 fin names (I3.fpOk (Nat.le_refl _) (show G L = none from I6.free))
    · refine thnF (T.item (X.blk s3 H3 sc e3 feet) rfl rfl rfl calm i [] t _ G (fun _ _ => False) IG (foot IG nG) atG go) ?_
      rintro r t6 ⟨u, rfl, h6⟩
      refine thnF h6 ?_
      rintro _ t7 ⟨x, G7, I7, r7, y7, at7, n7⟩
      refine thnF ((pg _ _ _ _ _).run _ t7 _ G7 x u _ (I7.pinned (foot I7 n7) (T.obj _ _ at7)) r7 (step x G7 y7)) ?_
      rintro _ t8 ⟨σ8, G8, I8, wp8, q8⟩
      refine thnF ((pt _ _ _ _ _).run _ t8 σ8 G8 _ I8 q8) ?_
      rintro b t9 ⟨G9, I9, q9⟩
      have back : ∀ {t' : Shared} {G' : Hp}, Inv (X.blk s3 H3 sc e3 feet) ([] ++ pinsAt feet t7.heap) σ8 G' t' → N G' → ∃ m, m < n ∧ ∃ i G, Inv (X.blk s3 H3 sc e3 feet) [] (wipe σ (own.map (·.2))) G t' ∧ tn i t'.heap ∧ (∀ b ∈ feet, G b = none) ∧ W i m G := by
        intro t' G' I' nx
        obtain ⟨m', lt, w'⟩ := less G' nx
        have held : ∀ b ∈ feet, ∀ o, t7.heap.get? b = some o → t'.heap.get? b = some o ∧ G' b = none := fun b hb o e => let z := I'.pin (b, o) (List.mem_append_right _ (List.mem_append_right _ (mem_pinsAt hb e))); ⟨z.1, z.2.1⟩
        refine ⟨m', lt, i + 1, G', I'.unpinned.weak (by rw [← wp8, wipe_length]) fun j v e => ?_, T.keep _ _ _ at7 fun b hb o e => (held b hb o e).1, fun b hb => ?_, w'⟩
        · exact (wipe_some (wp8 ▸ e)).1
        · obtain ⟨o, e, _⟩ := T.obj _ _ at7 b hb
          exact (held b hb o e).2
      by_cases yes : b = true
      · subst yes
        refine thnF ((pk _ _ _ _ _).run _ t9 σ8 G9 _ I9 q9) ?_
        rintro ku t10 ⟨ky, G10, I10, r10, q10⟩
        refine thnF ((pv _ _ _ _ _).run _ t10 σ8 G10 _ I10 q10) ?_
        rintro vu t11 ⟨vy, G11, I11, r11, putting⟩
        exact store (X.blk s3 H3 sc e3 feet) _ _ _ _ _ _ _ _ _ _ _ _ rfl rfl rfl rfl I11 putting r10 r11 fun t12 G12 I12 nx => back I12 nx
      · have no : b = false := by cases b with | true => exact absurd rfl yes | false => rfl
        subst no
        exact back I9 q9
  exact codeAny_compStart_dict loop (T.self X.A 0 _ _ _ at4 loop)
theorem ps_setDcG {i : Nat} {y : Str} {py : Pos} {O : Addr → HO} {Put : Addr → (Hp → Prop) → V → V → Hp → Prop} {kx vx tgt it : Expr} {ifs : List Expr} {sc : Scope} {own : List (Str × Nat)} {pos spos : Pos} {walk : TI} {g : TG} {tt : TT} {tk tv : TE}
    (mk0 : ∀ (H : Hp) (h : Heap), sysModules < h.objs.size → ObjOk X.prog X.w H (h.push { cls := .type "dict", data := .dict #[] }) h.objs.size (O h.objs.size)) (store : Stores X Put) (calm : X.calm = true) (nod : X.N.Nodup) (hy : X.N[i]? = some y) (hyl : X.env.scope.names.lookup y = some .local)
    (hsw : swapsWith (.DictComp kx vx [⟨tgt, it, ifs, 0⟩] sc pos) (some (.Name y py)) spos.line X.env = pure true)
    (pi : PI X tgt it walk) (bo : BlkOk X.N X.env.scope sc own) (pg : InBlk X sc fun B => PG B tgt g) (pt : InBlk X sc fun B => PTs B ifs tt) (pk : InBlk X sc fun B => PE B kx tk) (pv : InBlk X sc fun B => PE B vx tv)
    (plain : ∀ x, foldedSetIterable it X.env x = pure x := by intro _; rfl) :
    PS X (.Assign [.Name y py] (.DictComp kx vx [⟨tgt, it, ifs, 0⟩] sc pos) spos) (tAsg (tDcG O Put walk g tt tk tv (own.map (·.2))) (gName i)) := by
  refine ⟨fun held st sl G ends J want => ?_⟩
  rw [exec_Assign_Name_used _ _ _ _ hsw]
  refine wpAny_bind (wpAny_standAt ?_)
  refine wpAny_bind ?_
  show wpAny _ X.A (do let _ ← comprehension (.DictComp kx vx [⟨tgt, it, ifs, 0⟩] sc pos) sc X.env (firstIterPos [⟨tgt, it, ifs, 0⟩] pos) newDict false (eval it X.env) (some (assign (.Name y py) X.env))) _ _ st
  have want : tDcG O Put walk g tt tk tv (own.map (·.2)) sl G (fun x G1 => gName i x sl G1 ends.nx) := want
  refine wpAny_bind (thn (dcG_core (Qf := fun _ st' => SP X held ends .next st') mk0 store calm nod J pi bo pg pt pk pv plain want fun made frame st2 names G2 J2 fin ns foot => ?_) fun _ _ last => wpAny_pure (wpAny_pure last))
  show wpAny _ _ (assign (.Name y py) X.env (.ref made)) _ _ _
  refine wpAny_assign_Name (store_ok2 (v := V.ref made) J2 nod hy (.inl hyl) rfl (fun st3 J3 ⟨place, same, way⟩ => ?_) (.inr hyl))
  obtain ⟨c0, c1, c2, c3, c4, c5⟩ := foot
  have apart : frame ≠ place := by
    rcases way with way | way
    · rw [way]; exact c1
    · exact fun e => c4 y place way e.symm
  refine ⟨names, ns.sameBut same apart, fun st4 same4 => ?_⟩
  exact ⟨_, G2, J3.turned (t' := st3.toks) (fun b _ out e => (same4.2 b out).trans e) c0 c1 c3 c4 c5, fin⟩
theorem sw_trueD {kx vx : Expr} {gs : List Comprehension} {scope : Scope} {pos py : Pos} {y : Str} {l : Nat} {env : Env} (hk : env.scope.kind = .function) (hy : env.scope.names.lookup y = some .local) (hl : (py.line == pos.line) = true)
    (ha : (scope.names.any fun (n, k) => n == y && (k == .local || k == .cell)) = false) : swapsWith (.DictComp kx vx gs scope pos) (some (.Name y py)) l env = pure true := by
  have kind : env.kindOf y = some .local := hy
  have block : env.blockKind = .function := by
    unfold Env.blockKind
    rw [hk]
    rfl
  unfold swapsWith
  simp only [block, kind, ha, Expr.pos, hl]
  rfl
theorem ps_setDcX {P : Program} {w : World} (hP : X.prog = P) (hw : X.w = w) {i : Nat} {y : Str} {py : Pos} {kx vx tgt it : Expr} {ifs : List Expr} {sc : Scope} {own : List (Str × Nat)} {pos spos : Pos} {walk : TI} {g : TG} {tt : TT} {tk tv : TE} (hu : X.A.units + 1 < cLine) (calm : X.calm = true) (nod : X.N.Nodup) (hy : X.N[i]? = some y) (hyl : X.env.scope.names.lookup y = some .local)
    (hsw : swapsWith (.DictComp kx vx [⟨tgt, it, ifs, 0⟩] sc pos) (some (.Name y py)) spos.line X.env = pure true)
    (pi : PI X tgt it walk) (bo : BlkOk X.N X.env.scope sc own) (pg : InBlk X sc fun B => PG B tgt g) (pt : InBlk X sc fun B => PTs B ifs tt) (pk : InBlk X sc fun B => PE B kx tk) (pv : InBlk X sc fun B => PE B vx tv)
    (plain : ∀ x, foldedSetIterable it X.env x = pure x := by intro _; rfl) :
    PS X (.Assign [.Name y py] (.DictComp kx vx [⟨tgt, it, ifs, 0⟩] sc pos) spos) (tAsg (tDcX P w walk g tt tk tv (own.map (·.2))) (gName i)) := by
  subst hP hw
  exact ps_setDcG (fun H h b => dXo_empty H h b) (stores_X hu) calm nod hy hyl hsw pi bo pg pt pk pv plain
theorem ps_setDcT {i : Nat} {y : Str} {py : Pos} {kx vx tgt it : Expr} {ifs : List Expr} {sc : Scope} {own : List (Str × Nat)} {pos spos : Pos} {walk : TI} {g : TG} {tt : TT} {tk tv : TE} (hu : X.A.units + 1 < cLine) (calm : X.calm = true) (nod : X.N.Nodup) (hy : X.N[i]? = some y) (hyl : X.env.scope.names.lookup y = some .local)
    (hsw : swapsWith (.DictComp kx vx [⟨tgt, it, ifs, 0⟩] sc pos) (some (.Name y py)) spos.line X.env = pure true)
    (pi : PI X tgt it walk) (bo : BlkOk X.N X.env.scope sc own) (pg : InBlk X sc fun B => PG B tgt g) (pt : InBlk X sc fun B => PTs B ifs tt) (pk : InBlk X sc fun B => PE B kx tk) (pv : InBlk X sc fun B => PE B vx tv)
    (plain : ∀ x, foldedSetIterable it X.env x = pure x := by intro _; rfl) :
    PS X (.Assign [.Name y py] (.DictComp kx vx [⟨tgt, it, ifs, 0⟩] sc pos) spos) (tAsg (tDcT walk g tt tk tv (own.map (·.2))) (gName i)) :=
  ps_setDcG (fun _ h b => dt_empty h b) (stores_T hu) calm nod hy hyl hsw pi bo pg pt pk pv plain
end
/-- a row with one item more -/
theorem cat_row {K : PySem.W.Frag} {M : Ms} {H : Hp} {v u : V} {r : List Int} {x : Int} {Q : VK} (h : RowF M H v r) (hu : RowF M H u [x]) (lr : r.length ≤ 1000) (hM : Mk M H) (q : ∀ z H', Same H H' → RowF M H' z (r ++ [x]) → Q z H') : rCatF K v u H Q := by
  obtain ⟨a, o, rfl, na, ha, h1, h2⟩ := id h
  obtain ⟨b, o2, rfl, nb, hb, h3, h4⟩ := id hu
  refine ⟨a, b, _, _, rfl, rfl, .inl (.inr ⟨o, ha⟩), .inl (.inr ⟨o2, hb⟩), ?_, fun z => ?_, fun _ z => absurd z (by simp), fun z _ p o3 hp h5 h6 => ?_⟩
  · rw [List.length_map]
    exact Nat.le_of_lt (small1000000 (by show _ + 1 ≤ _; omega))
  · have e : r = [] := by simpa using z
    subst e
    exact q _ _ (Same.refl _) hu
  · refine q _ _ (same_new hp) ⟨p, o3, rfl, hM.out hp, ?_, h5, h6⟩
    rw [upd_same, List.map_append]
theorem row_new {M : Ms} {H : Hp} {p : Addr} {o : Obj} {ns : List Int} (hM : Mk M H) (hp : H p = none) (h1 : o.cls = .type "tuple") (h2 : o.dict = none) : RowF M (upd H p (.frz o (.tup (ns.map V.int)))) (.ref p) ns := ⟨p, o, rfl, hM.out hp, upd_same, h1, h2⟩
/-- rows in a list -/
def RowsAt (good : List Int → Prop) (M : Ms) (H : Hp) (xs : List V) (nss : List (List Int)) : Prop := xs.length = nss.length ∧ ∀ (i : Nat) (ns : List Int), nss[i]? = some ns → ∃ w, xs[i]? = some w ∧ RowF M H w ns ∧ good ns
section
variable {good : List Int → Prop} {M : Ms} {H H' : Hp} {xs : List V} {nss : List (List Int)}
theorem RowsAt.get (h : RowsAt good M H xs nss) {i : Nat} {x : V} (hx : xs[i]? = some x) : ∃ ns, nss[i]? = some ns ∧ RowF M H x ns ∧ good ns := by
  have hi : i < nss.length := by rw [← h.1]; exact (List.getElem?_eq_some_iff.mp hx).1
  obtain ⟨w, hw, q, g⟩ := h.2 i _ (List.getElem?_eq_getElem hi)
  rw [hx] at hw
  cases hw
  exact ⟨_, List.getElem?_eq_getElem hi, q, g⟩
theorem RowsAt.mem (h : RowsAt good M H xs nss) {x : V} (hx : x ∈ xs) : ∃ ns, ns ∈ nss ∧ RowF M H x ns ∧ good ns := by
  obtain ⟨i, hi⟩ := List.mem_iff_getElem?.mp hx
  obtain ⟨ns, h1, h2, h3⟩ := h.get hi
  exact ⟨ns, List.mem_of_getElem? h1, h2, h3⟩
theorem RowsAt.sx (h : RowsAt good M H xs nss) (s : Sx M H H') : RowsAt good M H' xs nss := ⟨h.1, fun i ns e => by
  obtain ⟨w, h1, h2, h3⟩ := h.2 i ns e
  exact ⟨w, h1, h2.sx s, h3⟩⟩
theorem RowsAt.nil : RowsAt good M H [] [] := ⟨rfl, fun i ns e => by simp at e⟩
theorem RowsAt.append {ys : List V} {mss : List (List Int)} (h : RowsAt good M H xs nss) (g : RowsAt good M H ys mss) : RowsAt good M H (xs ++ ys) (nss ++ mss) := by
  refine ⟨by rw [List.length_append, List.length_append, h.1, g.1], fun i ns e => ?_⟩
  by_cases c : i < nss.length
  · rw [List.getElem?_append_left c] at e
    rw [List.getElem?_append_left (by rw [h.1]; exact c)]
    exact h.2 i ns e
  · rw [List.getElem?_append_right (by omega)] at e
    rw [List.getElem?_append_right (by rw [h.1]; omega), h.1]
    exact g.2 _ ns e
theorem RowsAt.one {w : V} {ns : List Int} (q : RowF M H w ns) (g : good ns) : RowsAt good M H [w] [ns] := ⟨rfl, fun i ms e => by
  cases i with
  | zero => cases e; exact ⟨w, rfl, q, g⟩
  | succ i => simp at e⟩
theorem RowsAt.less {N : Ms} (h : RowsAt good M H xs nss) (f : ∀ a, N a → M a) : RowsAt good N H xs nss := ⟨h.1, fun i ns e => by
  obtain ⟨w, h1, h2, h3⟩ := h.2 i ns e
  exact ⟨w, h1, h2.less f, h3⟩⟩
theorem RowsAt.fresh {p : Addr} (h : RowsAt good M H xs nss) (hp : H p = none) : RowsAt good (also M p) H xs nss := ⟨h.1, fun i ns e => by
  obtain ⟨w, h1, h2, h3⟩ := h.2 i ns e
  exact ⟨w, h1, h2.fresh hp, h3⟩⟩
end
end D

namespace D
open PySem PySem.Spec PyProof.Rows L2
/-! ### own errors with one field or more -/
section
variable {K : PySem.W.Frag}
/-- __init__ of an error with one field -/
def sp_err1 (K : PySem.W.Frag) (C : Addr) (f : Str) : Sp := fun vs H Q _ => ∃ (a : Addr) (y : V), vs = [.ref a, y] ∧ OexC K C ∧ PySem.W.findIn K (.ref C) f = some none ∧ H a = some (exo a C none) ∧
  ∀ dx, H dx = none → dx ≠ a → Q .non (upd (upd H dx (exd dx [(f, y)])) a (exo a C (some dx)))
theorem made_heap {H : Hp} {a dx : Addr} {o1 o2 o3 o4 : HO} (ha : H a = none) (ne : dx ≠ a) : upd (del (upd (upd (upd H a o1) dx o2) a o3) a) dx o4 = upd H dx o4 := by
  funext b
  by_cases h1 : b = dx
  · rw [h1, upd_same, upd_same]
  · rw [upd_ne h1, upd_ne h1]
    by_cases h2 : b = a
    · rw [h2, del_same, ha]
    · rw [del_ne h2, upd_ne h2, upd_ne h1, upd_ne h2]
/-- the making of an error with one field: what is asked behind its argument -/
theorem mk_err1 {C : Addr} {f : Str} {H : Hp} {v : V} {E : XK} (ox : OexC K C) (no : PySem.W.findIn K (.ref C) f = some none) (h : ∀ d, H d = none → E (.ref C) (some d) (upd H d (.xd [(f, v)]))) :
    [v].length ≤ 1000 ∧ ∀ a, H a = none → sp_err1 K C f (.ref a :: ([v] ++ [])) (upd H a (exo a C none))
      (fun u H2 => u = .non ∧ ∃ (d : Addr) (fs : List (Str × V)), H2 a = some (exo a C (some d)) ∧ H2 d = some (exd d fs) ∧ H d = none ∧ E (.ref C) (some d) (upd (del H2 a) d (.xd fs))) (fun _ _ _ => False) := by
  refine ⟨by show 1 ≤ 1000; decide, fun a ha => ⟨a, v, rfl, ox, no, upd_same, fun dx hdx hne => ⟨rfl, dx, [(f, v)], upd_same, ?_, ?_, ?_⟩⟩⟩
  · rw [upd_ne hne, upd_same]
  · rw [upd_ne hne] at hdx
    exact hdx
  · rw [made_heap ha hne]
    rw [upd_ne hne] at hdx
    exact h dx hdx
/-- __init__ of an error with two fields -/
def sp_err2 (K : PySem.W.Frag) (C : Addr) (f g : Str) : Sp := fun vs H Q _ => ∃ (a : Addr) (y z : V), vs = [.ref a, y, z] ∧ OexC K C ∧ PySem.W.findIn K (.ref C) f = some none ∧ PySem.W.findIn K (.ref C) g = some none ∧ H a = some (exo a C none) ∧
  ∀ dx, H dx = none → dx ≠ a → Q .non (upd (upd (upd H dx (exd dx [(f, y)])) a (exo a C (some dx))) dx (exd dx [(g, z), (f, y)]))
/-- isinstance facts of an error class -/
theorem kit_err {D C : Addr} {b : Bool} (hd : PySem.W.hasDictIn K C = true) (ty : PySem.W.typeIn K (.ref C) = some (.type "type")) (ne : D ≠ C) (h : PySem.W.subIn K (.ref D) (.ref C) = some b) : PySem.W.kitOne K (.ref D) (.ref C) = some b := by
  obtain ⟨cd, hc, _⟩ := PySem.W.any_some hd
  unfold PySem.W.kitOne
  rw [if_neg (by simpa using ne)]
  show (if ((PySem.W.clsIn K C).isSome && PySem.W.typeIn K (.ref C) == some (.type "type")) = true then PySem.W.subIn K (.ref D) (.ref C) else none) = some b
  rw [if_pos (by rw [hc, ty]; rfl), h]
theorem kit_self {D : Addr} : PySem.W.kitOne K (.ref D) (.ref D) = some true := by
  unfold PySem.W.kitOne
  rw [if_pos (beq_self_eq_true _)]
theorem kit_ty2 {D : Addr} {t : String} {b : Bool} (m : PySem.W.kitMeta t = true) (h : PySem.W.subIn K (.ref D) (.type t) = some b) : PySem.W.kitOne K (.ref D) (.type t) = some b := by
  unfold PySem.W.kitOne
  rw [if_neg (fun z => nomatch (beq_iff_eq.mp z : Value.ref D = Value.type t))]
  show (if PySem.W.kitMeta t = true then PySem.W.subIn K (.ref D) (.type t) else none) = some b
  rw [if_pos m, h]
end
section
variable {X : Cx} {C g : Addr} {n : Nat} {CX : CXT} {sp : Sp} {E : L2.St → XK} {fd : FuncData} {ps : List Str}
/-- isinstance(e, c), e the error that the suite holds -/
def rIsX (K : PySem.W.Frag) (cls : Value) (d : Option Addr) (a : Addr) : List V → Hp → VK → Prop := fun xs H Q => ∃ (D dd : Addr) (fs : List (Str × V)) (c : V) (cv : Value) (b : Bool), cls = .ref D ∧ d = some dd ∧ ExcC K D ∧ H dd = some (.xd fs) ∧
  xs = [.ref a, c] ∧ (∀ u, RelV c u → u = cv) ∧ PySem.W.kitOne K (.ref D) cv = some b ∧ Q (.bl b) H
theorem inst_exc {X : Cx} {pins : List (Addr × Obj)} {σ : L2.St} {H : Hp} {s : Shared} {a D dd : Addr} {oe : Obj} {fs : List (Str × V)} (I : Inv X pins σ H s) (get : s.heap.get? a = some oe) (hz : Zc (.ref D) (some dd) oe) (hf : ∃ vs, oe.data = .fields vs) (ed : H dd = some (.xd fs)) :
    ∃ od, PySem.W.InstAt s.heap a oe D (some od) := by
  have there : ObjOk X.prog X.w H s.heap dd (.xd fs) := I.hok dd _ ed
  obtain ⟨mA, hns, _⟩ := there
  obtain ⟨od, ho, _⟩ := lookIn_ns hns
  obtain ⟨vs, hd⟩ := hf
  exact ⟨od, get, hz.1, by unfold PySem.W.notCls; rw [hd] <;> rfl, by rw [hz.2]; exact ho⟩
theorem call_isX {a : Addr} {oe : Obj} {cls : Value} {d : Option Addr} {pn : List (Addr × Obj)} (hz : Zc cls d oe) (hf : ∃ vs, oe.data = .fields vs) : CallR (X.suite a ((a, oe) :: pn)) (.builtin "isinstance") (rIsX X.K cls d a) := by
  intro held s sl G args vals want J rel h
  obtain ⟨D, dd, fs, c, cv, b, rfl, rfl, EC, ed, rfl, known, kit, q⟩ := h
  match vals, rel with
  | [_, _], .cons rx (.cons rt .nil) =>
    cases rx
    have ec := known _ rt
    subst ec
    obtain ⟨get, _⟩ := J.pin (a, oe) (List.mem_append.mpr (.inl List.mem_cons_self))
    obtain ⟨od, inst⟩ := inst_exc J get hz hf ed
    obtain ⟨cdD, hcD, _⟩ := PySem.W.any_some EC.hd
    exact PySem.W.kia_one (PySem.W.kitx_exc (by rw [hcD]; rfl) EC.hg EC.hk EC.hs EC.ha EC.hn EC.ht EC.hm) J.kIn inst kit (fun z => nomatch z) fun tk => ⟨.bl b, G, J.kept (t' := tk) fun _ _ z => z, rfl, q⟩
/-- isinstance(e, (c, ..)) -/
def rIsXT (K : PySem.W.Frag) (cls : Value) (d : Option Addr) (a : Addr) : List V → Hp → VK → Prop := fun xs H Q => ∃ (D dd p : Addr) (fs : List (Str × V)) (cs : List Addr) (b : Bool), cls = .ref D ∧ d = some dd ∧ ExcC K D ∧ H dd = some (.xd fs) ∧
  xs = [.ref a, .ref p] ∧ H p = some (.tup (cs.map V.ref)) ∧ PySem.W.kitAny K (.ref D) (cs.map Value.ref) = some b ∧ Q (.bl b) H
theorem vals_refs : ∀ {cs : List Addr} {vals : List Value}, Vals (cs.map V.ref) vals → vals = cs.map Value.ref
  | [], _, .nil => rfl
  | c :: r, _, .cons h t => by
    cases h
    rw [vals_refs t]
    rfl
theorem call_isXT {a : Addr} {oe : Obj} {cls : Value} {d : Option Addr} {pn : List (Addr × Obj)} (hz : Zc cls d oe) (hf : ∃ vs, oe.data = .fields vs) : CallR (X.suite a ((a, oe) :: pn)) (.builtin "isinstance") (rIsXT X.K cls d a) := by
  intro held s sl G args vals want J rel h
  obtain ⟨D, dd, p, fs, cs, b, rfl, rfl, EC, ed, rfl, tup, kit, q⟩ := h
  match vals, rel with
  | [_, _], .cons rx (.cons rt .nil) =>
    cases rx
    cases rt
    obtain ⟨get, _⟩ := J.pin (a, oe) (List.mem_append.mpr (.inl List.mem_cons_self))
    obtain ⟨od, inst⟩ := inst_exc J get hz hf ed
    obtain ⟨cdD, hcD, _⟩ := PySem.W.any_some EC.hd
    obtain ⟨_, its, rv, ⟨⟨tc, tdict, tdata, tslots⟩, ho, hc, m, hd⟩⟩ := (show ObjOk X.prog X.w G s.heap p (.tup (cs.map V.ref)) from J.hok p _ tup)
    dsimp only at hc hd
    subst hc hd
    have ei := vals_refs rv
    subst ei
    exact PySem.W.kia_tup (PySem.W.kitx_exc (by rw [hcD]; rfl) EC.hg EC.hk EC.hs EC.ha EC.hn EC.ht EC.hm) J.kIn inst ho kit (fun z => nomatch z) fun tk => ⟨.bl b, G, J.kept (t' := tk) fun _ _ z => z, rfl, q⟩
/-! ### what may raise within a try -/
/-- a def is run one step in, what it raises goes on -/
theorem run_in1S {pins : List (Addr × Obj)} {σ : L2.St} {H : Hp} {s : Shared} {Q : VK} {us : List Value} {vs : List V} (F : FnOk X.prog X.w X.K X.mg X.base CX n g fd ps sp) (hr : Room (n + 1) X.A) (hb : Binds X.K fd ps []) (hx : PassesAt CX X σ (E σ))
    (I : Inv X pins σ H s) (r : Vals vs us) (h : sp vs H Q (E σ)) : wpAny (model X.prog X.w) X.A.in1 (call (.ref g) us) (EP X pins σ Q) X.xe s := by
  have size : (us ++ []).length = ps.length := by rw [List.append_nil, ← r.length]; exact F.len _ _ _ _ h
  have bd := hb s us I.kIn size
  rw [List.append_nil] at bd
  refine wpAny_call (codeAny_mono (F.run X.A.in1 X.stack s H ⟨us, []⟩ us vs Q (E σ) (room_in1 hr) I.env0.in1 bd r h) fun out s' told => ?_)
  match out, told with
  | .error e, told => exact hx pins H s e s' I told
  | .ok (.ret u), told => exact I.after told
  | .ok .next, told => exact False.elim told
  | .ok .brk, told => exact False.elim told
  | .ok .cont, told => exact False.elim told
def tOwnIxS (C : Addr) (sp : Sp) (E : L2.St → XK) (to ti : TE) : TE := fun σ H Q => to σ H fun x H1 => ti σ H1 fun y H2 => ∃ a dx fs, x = .ref a ∧ H2 a = some (.ins C dx fs) ∧ sp [x, y] H2 Q (E σ)
theorem pe_ownIxS {o i : Expr} {to ti : TE} {pos : Pos} (ho : PE X o to) (hi : PE X i ti) (hs : PySem.W.findIn X.K (.ref C) "__getitem__" = some (some (.ref g))) (hf : PySem.W.fnIn X.K g = true) (hg : PySem.W.isFn X.K (.ref g) = true)
    (F : FnOk X.prog X.w X.K X.mg X.base CX n g fd ps sp) (hb : Binds X.K fd ps []) (hr : Room (n + 1) X.A) (hx : ∀ σ, PassesAt CX X σ (E σ))
    (hsl : ∀ ov iv, subscripted i true ov iv = runValue (.builtin "lifetime.subscript" ⟨[ov, iv], []⟩)) : PE X (.Subscript o i pos) (tOwnIxS C sp E to ti) := by
  refine ⟨fun pins s σ H Q I h => ?_⟩
  refine Subscript_ (thn (ho.run pins s σ H _ I h) fun ov s1 ⟨x, H1, I1, rx, q1⟩ => thn (hi.run pins s1 σ H1 _ I1 q1) fun iv s2 ⟨y, H2, I2, ry, a, dx, fs, ex, ha, q⟩ => ?_)
  subst ex
  obtain rfl : ov = Value.ref a := rx
  obtain ⟨mA, O, _⟩ := ins_get I2.hok ha
  obtain ⟨od, J, _⟩ := O.look
  obtain ⟨m, hF⟩ := I2.fr
  exact PySem.W.sub_K hF I2.ok.mod.kin J hs hf hg (run_in1S (us := [.ref a, iv]) (vs := [.ref a, y]) F hr hb (hx σ) I2 (.cons rfl (.cons ry .nil)) q) (hsl _ _)
/-- a method that may raise -/
def tMethS (C : Addr) (m : Str) (sp : Sp) (E : L2.St → XK) (ta : TE) (t : TA) : TE := fun σ H Q => ta σ H fun x H1 => ∃ a dx fs, x = .ref a ∧ H1 a = some (.ins C dx fs) ∧ fs.lookup m = none ∧ t σ H1 fun vs H2 => sp (x :: vs) H2 Q (E σ)
theorem pe_methS {o e : Expr} {es : List Expr} {m : Str} {f : Addr} {pos apos : Pos} {ta : TE} {t : TA} {pl : Sem Bool} (he : PE X o ta) (c : Cls X.K C) (hm : Meth X.K C m f) (F : FnOk X.prog X.w X.K X.mg X.base CX n f fd ps sp) (hr : Room n X.A) (hb : Binds X.K fd ps []) (hx : ∀ σ, PassesAt CX X σ (E σ)) (ha : PA X (e :: es) t)
    (hst : starEach (e :: es) X.env = (false, eval e X.env) :: starEach es X.env := by rfl) (hpl : (backTo pos (starEach es X.env)).any (·.1) = false := by rfl)
    (ht : eval (.Call (.Attribute o m apos) (e :: es) [] pos) X.env = (do
      let ov ← eval o X.env
      standAt apos.atName
      let (f, first) ← holding [ov] (getMethod ov m pl)
      callWith pos f first (backTo pos (starEach (e :: es) X.env)) (backToKw pos (keywordEach [] X.env))) := by rfl) :
    PE X (.Call (.Attribute o m apos) (e :: es) [] pos) (tMethS C m sp E ta t) := by
  refine ⟨fun held st sl G want J told => ?_⟩
  refine PySem.W.methodCall_KW (pl := pl) (thn (he.run held st sl G _ J told) fun u st1 ⟨x, G1, J1, rx, a, dx, fs, ex, ea, l, q⟩ => ?_) ht
  subst ex
  obtain rfl : u = Value.ref a := rx
  refine getmeth_ok J1 ea c hm l (PySem.W.callWith_K (first := [.ref a]) (h₀ := X.base) J1.ok.mod.kin hm.kp (thn (ha.run pos held st1 sl G1 _ J1 q) fun vals st2 ⟨vs, G2, J2, rel, q2⟩ => ⟨J2.kIn, ?_⟩) hst hpl)
  exact run_fnS (us := .ref a :: vals) (vs := .ref a :: vs) F hr hb (hx sl) J2 (.cons rfl rel) q2
/-- x[i] = v, an own def's store that may raise -/
def sOwnPutS (C : Addr) (sp : Sp) (E : L2.St → XK) (to ti tv : TE) : TS := fun D σ H => tv σ H fun v H1 => to σ H1 fun x H2 => ti σ H2 fun y H3 => ∃ a dx fs, x = .ref a ∧ H3 a = some (.ins C dx fs) ∧ sp [x, y, v] H3 (fun _ H4 => D.nx σ H4) (E σ)
theorem ps_ownPutS {o i value : Expr} {pos pos' : Pos} {to ti tv : TE} (ho : PE X o to) (hi : PE X i ti) (hv : PE X value tv) (hq : PySem.W.noSeq X.K C = true) (hs : PySem.W.findIn X.K (.ref C) "__setitem__" = some (some (.ref g))) (hf : PySem.W.isFn X.K (.ref g) = true)
    (F : FnOk X.prog X.w X.K X.mg X.base CX n g fd ps sp) (hb : Binds X.K fd ps []) (hr : Room (n + 1) X.A) (hx : ∀ σ, PassesAt CX X σ (E σ)) (sw : swapsWith value (some (.Subscript o i pos')) pos.line X.env = pure false) :
    PS X (.Assign [.Subscript o i pos'] value pos) (sOwnPutS C sp E to ti tv) := by
  refine ⟨fun pins s σ H D I h => ?_⟩
  refine wpAny_Assign_Subscript (thn (hv.run pins s σ H _ I h) fun r s1 ⟨v, H1, I1, rv, q1⟩ => thn (ho.run pins s1 σ H1 _ I1 q1) fun u s2 ⟨x, H2, I2, rx, q2⟩ => thn (hi.run pins s2 σ H2 _ I2 q2) fun iv s3 ⟨y, H3, I3, ry, a, dx, fs, ex, ha, q⟩ => ?_) sw
  subst ex
  obtain rfl : u = Value.ref a := rx
  obtain ⟨mA, O, _⟩ := ins_get I3.hok ha
  obtain ⟨od, J, _⟩ := O.look
  refine wp_ownPut I3.kIn J hq hs hf (wpAny_mono (run_fnS (us := [.ref a, iv, r]) (vs := [.ref a, y, v]) F (hr.mono (Nat.le_succ n)) hb (hx σ) I3 (.cons rfl (.cons ry (.cons rv .nil))) q) (fun w s' z => ?_) fun _ _ z => z)
  obtain ⟨z', H', I', _, qz⟩ := z
  exact ⟨σ, H', I', qz⟩
end
end D

namespace D
open PySem PySem.Spec PyProof.Rows L2
/-! ### list(o), o of an own class whose __iter__ hands an iterator over a tuple out -/
/-- at it an iterator over the tuple at t, the next place is i -/
def ItT (t it : Addr) (i : Nat) : HO := .ext fun h => h.IsTupleIter it t i
/-- something stands at it -/
def AnyO (it : Addr) : HO := .ext fun h => ∃ o, h.get? it = some o
section
variable {P : Program} {w : World} {H : Hp} {h : Heap} {t it : Addr} {i : Nat}
theorem itT_ok (e : h.IsTupleIter it t i) : ObjOk P w H h it (ItT t it i) := ⟨e, ⟨_, e.choose_spec.1⟩, fun h1 h2 q k => by
  obtain ⟨o, ho, r⟩ := q
  exact ⟨o, k _ ho, r⟩⟩
theorem any_ok {o : Obj} (e : h.get? it = some o) : ObjOk P w H h it (AnyO it) := ⟨⟨_, e⟩, ⟨_, e⟩, fun h1 h2 q k => by
  obtain ⟨o, ho⟩ := q
  exact ⟨o, k _ ho⟩⟩
end
section
variable {X : Cx} {pins : List (Addr × Obj)} {σ : L2.St} {H : Hp} {s : Shared} {t it : Addr} {i : Nat}
theorem itT_get (I : Inv X pins σ H s) (e : H it = some (ItT t it i)) : s.heap.IsTupleIter it t i := (I.hok it _ e).1
/-- iter(t), t a tuple -/
def rIterT (K : PySem.W.Frag) : List V → Hp → VK → Prop := fun xs H Q => ∃ (t : Addr) (zs : List V), xs = [.ref t] ∧ SqT K H t zs ∧ ∀ it, H it = none → Q (.ref it) (upd H it (ItT t it 0))
theorem call_iterT : CallR X (.builtin "iter") (rIterT X.K) := by
  intro pins s σ H xs us Q I r h
  obtain ⟨t, zs, rfl, hq, q⟩ := h
  obtain rfl := Vals.ref1 r
  obtain ⟨its, rv, ⟨o, ho, hc, n, hd⟩, hz⟩ := I.tuple hq
  refine Calls.call_function_entry (by decide +kernel) (by decide +kernel) PySem.W.kdk_entry_iter (PySem.W.kdk_args_iter _) ?_
  unfold Builtin.«iter»
  refine wpAny_bind (m := someArgs "iter" 1 2 _) (wpAny_of_eq (a := [Value.ref t]) (by first | rfl | kernel_rfl!) ?_)
  show wpAny _ _ (pyIter (.ref t) >>= _) _ _ _
  refine wpAny_bind (wpAny_pyIter_tuple (items := its.toArray) ⟨o, ho, hc, n, hd⟩ ?_)
  refine wpAny_pure ⟨_, rfl, ?_⟩
  exact ⟨.ref s.heap.objs.size, _, I.laid (t' := s.toks) (fun b u e => Heap.get?_push_of_some _ e) (Nat.le_refl _) (itT_ok ⟨_, Heap.get?_push_size _ rfl, rfl, rfl⟩), rfl, q _ (I.hok.fresh (Nat.le_refl _))⟩
end
section
variable {prog : Program} {w : World} {A : Around} {E : Value → Shared → Prop} {s : Shared}
theorem tuple_end2 {it t : Addr} {i : Nat} {items : Array Value} {Q : Option Value → Shared → Prop} (hh : A.handled = none)
    (hit : s.heap.IsTupleIter it t i) (ht : s.heap.IsTuple t items) (hx : items[i]? = none)
    (hQ : ∀ h', (∃ o, h'.get? it = some o) → Heap.ExtBut it s.heap h' → Q none { s with heap := h' }) : wpAny (model prog w) A (pyNext (.ref it)) Q E s := by
  obtain ⟨o, ho, hc, hd⟩ := id hit
  obtain ⟨ol, hol, _, nl, hdl⟩ := ht
  unfold pyNext
  refine wpAny_bind (wpAny_attempt (wpAny_callSpecial?_slot (name := Str.ofString "__next__") hit.typeIs F.slot_tuple_iterator_next
    (wpAny_call_entry F.slot_tuple_iterator_next hit.typeIs F.entry_tuple_iterator_next ?_ (F.args_tuple_iterator_next_1 _))))
  show wpAny _ _ (field (.ref it) 0 >>= _) _ _ s
  refine wpAny_bind (wpAny_field ho hd (x := .ref t) rfl ?_)
  show wpAny _ _ (if (Value.ref t == Value.none) = true then _ else _) _ _ s
  rw [if_neg (show ¬ ((Value.ref t == Value.none) = true) from Bool.false_ne_true)]
  show wpAny _ _ (field (.ref it) 1 >>= _) _ _ s
  refine wpAny_bind (wpAny_field ho hd (x := .int i 0) rfl ?_)
  show wpAny _ _ (seqItems? (.ref t) >>= _) _ _ s
  refine wpAny_bind (wpAny_seqItems hol hdl ?_)
  simp only [Int.toNat_natCast, hx]
  refine wpAny_bind (wpAny_rule (wpAny_bind (wpAny_setField ho hd (by simp) ?_)))
  show wpAny _ _ (newExc (.type "StopIteration") [] >>= _) _ _ _
  refine wpAny_bind ?_
  simp only [newExc, newTuple]
  refine wpAny_bind (wpAny_newObj_type ?_ (by size_fits))
  refine wpAny_bind (m := firstArgMember _ _) (wpAny_of_eq (a := Value.none) (by first | rfl | (simp only [firstArgMember]; rfl)) ?_)
  refine wpAny_newObj_type ?_ (by size_fits)
  simp only [raiseNew]
  refine wpAny_bind (wpAny_handled ?_)
  first | rw [show A.in1.handled = none from hh] | rw [hh]
  refine wpAny_bind (wpAny_pure (wpAny_throw ?_))
  refine wpAny_bind (wpAny_isInstance (T := "StopIteration") (b := true) ⟨_, Heap.get?_push_size _ rfl, rfl⟩ PySem.isSubtype_stop ?_)
  refine wpAny_pure (hQ _ ⟨_, Heap.get?_push_of_some _ (Heap.get?_push_of_some _ (Heap.get?_update_self _ ho (Obj.isFreed_of_fields (Obj.data_mapFields hd _))))⟩ (((Heap.SameBut.update ..).extBut.push _).push _))
end
/-- a class whose instances have an own __iter__, without __len__ and __length_hint__ -/
structure ItK (K : PySem.W.Frag) (C fi : Addr) : Prop where
  it : PySem.W.findIn K (.ref C) "__iter__" = some (some (.ref fi))
  itF : PySem.W.isFn K (.ref fi) = true
  nolen : PySem.W.findIn K (.ref C) "__len__" = some none
  nohint : PySem.W.findIn K (.ref C) "__length_hint__" = some none
section
variable {X : Cx} {pins : List (Addr × Obj)} {σ : L2.St} {H : Hp} {s : Shared}
theorem hintK {M : Model} {A : Around} {E : Value → Shared → Prop} {Q : Bool → Shared → Prop} {K : PySem.W.Frag} {a C fi : Addr} {ox : Obj} {od : Option Obj} (hc : ItK K C fi) (hK : K.In s.heap) (J : PySem.W.InstAt s.heap a ox C od) (h : Q true s) :
    wpAny M A (Builtin.List.listLengthHint (.ref a)) Q E s := by
  unfold Builtin.List.listLengthHint
  refine wpAny_bind (wpAny_bind (J.type.here ((PySem.W.looks_findIn hK hc.nolen).here ?_)))
  refine PySem.W.KFB.if_not rfl ?_
  refine PySem.W.KFB.if_not rfl ?_
  refine wpAny_bind (wpAny_bind (J.type.here ((PySem.W.looks_findIn hK hc.nohint).here ?_)))
  exact wpAny_pure h
theorem it_loop {A1 : Around} {it t q : Addr} {xs : List V} {H0 : Hp} {Rs : Result → Shared → Prop} (hh : A1.handled = none) (nqi : q ≠ it) (nti : t ≠ it) (hT : SqT X.K H0 t xs) (htq : t ≠ q) (hl : xs.length ≤ 1000)
    (hdone : ∀ H s, Inv X pins σ H s → (∀ b, b ≠ it → b ≠ q → H b = H0 b) → H q = some (.lst xs) → H it ≠ none → Rs (.ok (.ret .none)) s) :
    ∀ (k i : Nat) (H : Hp) (s : Shared), xs.length - i = k → i ≤ xs.length → Inv X pins σ H s → (∀ b, b ≠ it → b ≠ q → H b = H0 b) → H q = some (.lst (xs.take i)) → H it = some (ItT t it i) →
      codeAny (model X.prog X.w) A1 (.builtin "list.extend.loop" ⟨[.ref q, .ref it, .none], []⟩) Rs s := by
  intro k
  induction k with
  | zero =>
    intro i H s hk hi I hH hq hit
    have ei : i = xs.length := by omega
    subst ei
    have hT' : SqT X.K H t xs := by
      unfold SqT Rd at hT ⊢
      rw [hH t nti htq]
      exact hT
    obtain ⟨its, rv, pl, hz⟩ := I.tuple hT'
    refine codeAny_builtin PySem.F.entry_extend_loop ?_
    rw [Around.under_plainId PySem.F.plain_extend_loop _]
    show wpAny _ A1.in1 (pyNext (.ref it) >>= _) _ _ s
    refine wpAny_bind (tuple_end2 (items := its.toArray) hh (itT_get I hit) (by obtain ⟨o, ho, hc, n, hd⟩ := pl; exact ⟨o, ho, hc, n, hd⟩) (by have := rv.length; simp [← this]) fun h' he hb => ?_)
    have mu : Mut (H it) := by rw [hit]; exact True.intro
    obtain ⟨o', ho'⟩ := he
    have I' := I.write (x := it) (e := it) (t' := s.toks) (o := AnyO it) (h' := h') mu (.inl rfl) (fun b o nb z => hb b o nb z) ⟨_, ho'⟩ (any_ok ho')
    refine wpAny_pure (hdone _ _ I' (fun b h1 h2 => by rw [upd_ne h1]; exact hH b h1 h2) ?_ ?_)
    · rw [upd_ne nqi, hq, List.take_length]
    · rw [upd_same]
      exact fun z => nomatch z
  | succ k ih =>
    intro i H s hk hi I hH hq hit
    have hlt : i < xs.length := by omega
    have hT' : SqT X.K H t xs := by
      unfold SqT Rd at hT ⊢
      rw [hH t nti htq]
      exact hT
    obtain ⟨its, rv, pl, hz⟩ := I.tuple hT'
    obtain ⟨u, hu, ru⟩ := rv.get (i := i) (List.getElem?_eq_getElem hlt)
    refine codeAny_builtin PySem.F.entry_extend_loop ?_
    rw [Around.under_plainId PySem.F.plain_extend_loop _]
    show wpAny _ A1.in1 (pyNext (.ref it) >>= _) _ _ s
    refine wpAny_bind (wpAny_pyNext_tuple_item (items := its.toArray) (x := u) (itT_get I hit) (by obtain ⟨o, ho, hc, n, hd⟩ := pl; exact ⟨o, ho, hc, n, hd⟩) (by rw [List.getElem?_toArray]; exact hu) fun h' e' sb => ?_)
    have mu : Mut (H it) := by rw [hit]; exact True.intro
    have I' := I.write (x := it) (e := it) (t' := s.toks) (o := ItT t it (i + 1)) (h' := h') mu (.inl rfl) (fun b o nb z => (sb.2 b nb).trans z) ⟨_, e'.choose_spec.1⟩ (itT_ok e')
    have hq' : upd H it (ItT t it (i + 1)) q = some (.lst (xs.take i)) := by rw [upd_ne nqi]; exact hq
    show wpAny _ A1.in1 (updateSeq q (·.push u) >>= _) _ _ _
    obtain ⟨z, its2, c, r2, e⟩ := I'.lstM hq'
    have hlen : (xs.take i).length = i := by rw [List.length_take]; omega
    obtain ⟨r2, hl2, e⟩ := (⟨r2, e⟩ : _ ∧ _ ∧ _)
    have l2 : its2.length = i := by rw [← r2.length, hlen]
    refine wpAny_bind (wpAny_updateSeq e rfl (wpAny_pure ⟨plainId_quiet PySem.F.plain_extend_loop _, ?_⟩) (by rw [List.size_toArray, l2, sizeLine_eq]; omega) (by show (its2.toArray.push u).size ≤ sizeLine + 1; rw [Array.size_push, List.size_toArray, l2, sizeLine_eq]; omega))
    refine ih (i + 1) _ _ (by omega) hlt (I'.lset (its' := its2 ++ [u]) (ys := xs.take (i + 1)) (t' := s.toks) hq' e (by simp) ?_ (by rw [List.length_take, sizeLine_eq]; omega)) (fun b h1 h2 => ?_) upd_same ?_
    · rw [List.take_add_one, List.getElem?_eq_getElem hlt]
      exact r2.append (.cons ru .nil)
    · rw [upd_ne h2, upd_ne h1]
      exact hH b h1 h2
    · rw [upd_ne (Ne.symm nqi), upd_same]

/-- list(o): __iter__ hands an iterator over a tuple out -/
def rListIt (K : PySem.W.Frag) (C : Addr) (sp : Sp) (E : XK) : List V → Hp → VK → Prop := fun xs H Q => ∃ a dx fs, xs = [.ref a] ∧ H a = some (.ins C dx fs) ∧
  ∀ q, H q = none → sp [.ref a] (upd H q (.lst [])) (fun v H' => ∃ it t zs, v = .ref it ∧ H' it = some (ItT t it 0) ∧ SqT K H' t zs ∧ t ≠ it ∧ t ≠ q ∧ q ≠ it ∧ H' q = some (.lst []) ∧ H' a = some (.ins C dx fs) ∧ zs.length ≤ 1000 ∧
    ∀ H'', (∀ b, b ≠ it → b ≠ q → H'' b = H' b) → H'' q = some (.lst zs) → H'' it ≠ none → Q (.ref q) H'') E
variable {CI : CXT} {C fi : Addr} {fdI : FuncData} {psI : List Str} {spI : Sp} {EI : XK} {n : Nat}
theorem extend_it {a dx q : Addr} {fs : List (Str × V)} {Hq : Hp} {Q : VK} (sb : Sub X n X.A.in1.in1) (hA : X.A.in1.handled = none) (hc : ItK X.K C fi) (FI : FnOk X.prog X.w X.K X.mg X.base CI n fi fdI psI spI) (bI : Binds X.K fdI psI []) (xI : Passes CI X EI) (I2 : Inv X pins σ Hq s) (hqq : Hq q = some (.lst [])) (ha2 : Hq a = some (.ins C dx fs))
    (hsp : spI [.ref a] Hq (fun v H' => ∃ it t zs, v = .ref it ∧ H' it = some (ItT t it 0) ∧ SqT X.K H' t zs ∧ t ≠ it ∧ t ≠ q ∧ q ≠ it ∧ H' q = some (.lst []) ∧ H' a = some (.ins C dx fs) ∧ zs.length ≤ 1000 ∧
      ∀ H'', (∀ b, b ≠ it → b ≠ q → H'' b = H' b) → H'' q = some (.lst zs) → H'' it ≠ none → Q (.ref q) H'') EI) :
    wpAny (model X.prog X.w) X.A.in1.in1 (Builtin.List.listExtendWith (.ref q) (.ref a) .none)
      (fun fin s' => match fin with | .done f => wants (fun r s₂ => r = .none ∧ EP X pins σ Q (.ref q) s₂) X.xe (.ok f) s' | .again c' => c'.quiet = true ∧ codeAny (model X.prog X.w) X.A.in1 c' (wants (fun r s₂ => r = .none ∧ EP X pins σ Q (.ref q) s₂) X.xe) s') (fun e s' => wants (fun r s₂ => r = .none ∧ EP X pins σ Q (.ref q) s₂) X.xe (.error e) s') s := by
  have hne : q ≠ a := ne_of hqq ha2 (fun z => nomatch z)
  obtain ⟨mA, J, _⟩ := ins_get I2.hok ha2
  obtain ⟨od, J, _⟩ := J.look
  obtain ⟨m0, hF⟩ := I2.fr
  unfold Builtin.List.listExtendWith
  refine wpAny_bind (J.type.here ?_)
  have h1 : Builtin.List.listSameRef (.ref q) (.ref a) = false := by simp [Builtin.List.listSameRef, hne]
  have h2 : (Value.ref C == Value.type "list") = false := rfl
  have h3 : (Value.ref C == Value.type "tuple") = false := rfl
  simp only [h1, h2, h3, Bool.or_false, Bool.false_eq_true, if_false]
  refine wpAny_bind (PySem.W.owit_iter hF I2.ok.mod.kin J hc.it hc.itF ?_)
  have e0 : Env0 X.prog X.w X.K X.mg X.base X.A.in1.in1 X.stack s Hq := by
    have e := I2.env0
    exact ⟨by rw [sb.fr]; exact e.frames, e.mod, e.bs, e.bsz, e.funs, e.frf, e.hok, e.bare⟩
  have hl := FI.len _ _ _ _ hsp
  have r2 : Vals [V.ref a] [Value.ref a] := .cons rfl .nil
  refine wpAny_call (codeAny_mono (FI.run X.A.in1.in1 X.stack s Hq ⟨[.ref a], []⟩ [.ref a] [.ref a] _ EI sb.room e0 (by
    have := bI s [.ref a] I2.kIn (by simpa using hl)
    simpa using this) r2 hsp) fun r s' hq' => ?_)
  cases r with
  | error e => exact xI pins σ Hq s e s' I2 hq'
  | ok fl =>
    cases fl with
    | next => exact False.elim hq'
    | brk => exact False.elim hq'
    | cont => exact False.elim hq'
    | ret u =>
      obtain ⟨v, H', I', rv, it, t, zs, ev, hit, hT, nti, ntq, nqi, hq2, ha', hz, q2⟩ := I2.after hq'
      subst ev
      cases rv
      unfold PySem.W.OwitIt
      have hty := (itT_get I' hit).typeIs (s := s')
      refine wpAny_specialOf hty F.slot_tuple_iterator_next.lookup ?_
      obtain ⟨mA', J', _⟩ := ins_get I'.hok ha'
      obtain ⟨od', J', _⟩ := J'.look
      refine wpAny_bind (wpAny_holding (hintK hc I'.kIn J' ?_))
      obtain ⟨z, its, k, r3, hl3, e3⟩ := I'.lstM hq2
      cases r3
      have hloop : ∀ s2, Inv X pins σ H' s2 → codeAny (model X.prog X.w) X.A.in1 (.builtin "list.extend.loop" ⟨[.ref q, .ref it, .none], []⟩) (wants (fun r s₂ => r = .none ∧ EP X pins σ Q (.ref q) s₂) X.xe) s2 := fun s2 I4 =>
        it_loop (A1 := X.A.in1) hA nqi nti hT ntq hz (fun H5 s5 I5 a1 a2 a3 => ⟨rfl, .ref q, H5, I5, rfl, q2 H5 a1 a2 a3⟩) _ 0 H' s2 rfl (Nat.zero_le _) I4 (fun _ _ _ => rfl) hq2 hit
      refine wpAny_ite_split (fun _ => ?_) (fun _ => wpAny_pure ⟨plainId_quiet PySem.F.plain_extend_loop _, hloop s' I'⟩)
      refine wpAny_bind (wpAny_rule ?_)
      refine wpAny_bind ?_
      show wpAny _ _ (updateSeq q (·.push .none) >>= fun _ => updateSeq q (·.pop)) _ _ _
      refine wpAny_bind (wpAny_updateSeq e3 rfl ?_)
      have I3 := I'.lset (f := (·.push Value.none)) (its' := [Value.none]) (ys := [.non]) (t' := s'.toks) hq2 e3 (by simp) (.cons rfl .nil) (by rw [List.length_singleton, sizeLine_eq]; decide)
      obtain ⟨z4, its4, k4, r4, hl4, e4⟩ := I3.lstM upd_same
      obtain ⟨u4, rfl, ru4⟩ := r4.one
      refine wpAny_updateSeq e4 rfl ?_ (by show 1 ≤ sizeLine; rw [sizeLine_eq]; decide) (by show 0 ≤ sizeLine + 1; exact Nat.zero_le _)
      refine wpAny_pure ⟨plainId_quiet PySem.F.plain_extend_loop _, hloop _ ?_⟩
      have I5 := I3.lset (f := (·.pop)) (its := [u4]) (its' := []) (ys := []) (t' := s'.toks) upd_same e4 (by rfl) .nil (Nat.zero_le _)
      rw [upd_upd] at I5
      have hH : upd H' q (.lst []) = H' := by
        funext b
        by_cases hb : b = q
        · rw [hb, upd_same, hq2]
        · rw [upd_ne hb]
      rw [hH] at I5
      exact I5
theorem call_listIt (hc : ItK X.K C fi) (FI : FnOk X.prog X.w X.K X.mg X.base CI n fi fdI psI spI) (bI : Binds X.K fdI psI []) (xI : Passes CI X EI) (hr : Room (n + 2) X.A) : CallR X (.type "list") (rListIt X.K C spI EI) := by
  intro pins s σ H xs us Q I rv h
  obtain ⟨a, dx, fs, rfl, ha, hq⟩ := h
  obtain ⟨u, rfl, ru⟩ := rv.one
  cases ru
  have sb : Sub X n X.A.in1.in1 := (Sub.in1 (Sub.in1 (⟨hr, rfl⟩ : Sub X (n + 2) X.A)))
  refine callType_codes (Q₁ := fun obj s₁ => obj = .ref s.heap.objs.size ∧ s₁ = { s with heap := s.heap.push { cls := .type "list", data := .seq #[] } }) PySem.F.called_list (PySem.F.typeCall_list_1 _) PySem.F.entry_list_init
    (code_list_new _ ⟨rfl, rfl⟩) fun obj s₁ h₁ => ?_
  obtain ⟨rfl, rfl⟩ := h₁
  have hS : (s.heap.push { cls := .type "list", data := .seq #[] }).get? s.heap.objs.size = some { cls := .type "list", data := .seq #[] } := Heap.get?_push_size _ rfl
  refine ⟨⟨_, hS, rfl⟩, PySem.F.args_list_init_2 _ _, ?_⟩
  have fr : H s.heap.objs.size = none := I.hok.fresh (Nat.le_refl _)
  have hsp := hq _ fr
  have I1 : Inv X pins σ (upd H s.heap.objs.size (.lst [])) { s with heap := s.heap.push { cls := .type "list", data := .seq #[] } } := I.lnew (its := []) (t' := s.toks) .nil (Nat.zero_le _)
  show wpAny _ _ (do let old ← Builtin.List.listItems (.ref s.heap.objs.size); Builtin.List.listUpdate (.ref s.heap.objs.size) (fun _ => #[]); letGo old.toList.reverse; Builtin.List.listExtendWith (.ref s.heap.objs.size) (.ref a) .none) _ _ _
  refine wpAny_bind ?_
  unfold Builtin.List.listItems
  refine wpAny_bind (wpAny_seqItems hS rfl (wpAny_pure ?_))
  show wpAny _ _ (updateSeq s.heap.objs.size (fun _ => #[]) >>= fun _ => letGo (#[] : Array Value).toList.reverse >>= fun _ => Builtin.List.listExtendWith (.ref s.heap.objs.size) (.ref a) .none) _ _ _
  refine wpAny_bind (wpAny_updateSeq hS rfl ?_)
  have I2 := I1.lset (f := fun _ => #[]) (its := []) (its' := []) (ys := []) (t' := s.toks) upd_same hS rfl .nil (Nat.zero_le _)
  rw [upd_upd] at I2
  refine wpAny_bind (wpAny_letGo ?_)
  have ha2 : upd H s.heap.objs.size (.lst []) a = some (.ins C dx fs) := by rw [upd_ne (ne_of_none ha fr)]; exact ha
  exact extend_it sb hr.hd hc FI bI xI I2 upd_same ha2 hsp
end
end D

namespace D
open PySem PySem.Spec PyProof.Rows L2
/-! ### texts as rows of signs -/
abbrev sg (z : Str) : List Nat := z.cps.toList
theorem sg_len (z : Str) : (sg z).length = z.length := Array.length_toList
theorem sg_ext {a b : Str} (h : sg a = sg b) : a = b := by
  cases a
  cases b
  congr 1
  exact Array.toList_inj.mp h
theorem sg_app (a b : Str) : sg (a ++ b) = sg a ++ sg b := Array.toList_append
theorem sg_one (c : Nat) : sg ⟨#[c]⟩ = [c] := rfl
theorem sg_cut (z : Str) (k : Nat) : sg (cutS z none (some (k : Int))) = (sg z).take k := by
  unfold cutS
  show ((z.cps.toList.drop 0).take (HT.sIx z.length z.length (some (k : Int)) - 0)) = _
  rw [HT.sIx_nat, List.drop_zero, Nat.sub_zero, ← sg_len]
  by_cases c : k ≤ (sg z).length
  · rw [Nat.min_eq_left c]
  · rw [Nat.min_eq_right (by omega), List.take_of_length_le (Nat.le_refl _), List.take_of_length_le (by omega)]
theorem sg_from (z : Str) (k : Nat) : sg (cutS z (some (k : Int)) none) = (sg z).drop k := by
  unfold cutS
  show ((z.cps.toList.drop (HT.sIx z.length 0 (some (k : Int)))).take (HT.sIx z.length z.length none - HT.sIx z.length 0 (some (k : Int)))) = _
  rw [HT.sIx_nat, HT.sIx_none, ← sg_len]
  by_cases c : k ≤ (sg z).length
  · rw [Nat.min_eq_left c, List.take_of_length_le (by rw [List.length_drop]; exact Nat.le_refl _)]
  · rw [Nat.min_eq_right (by omega), List.drop_of_length_le (Nat.le_refl _), List.drop_of_length_le (by omega)]
    simp
theorem sg_join0 : ∀ ys : List Str, sg (Str.join (Str.ofString "") ys) = (ys.map sg).flatten
  | [] => rfl
  | [y] => by
    show sg y = _
    simp
  | x :: y :: r => by
    show sg (x ++ (Str.ofString "") ++ Str.join (Str.ofString "") (y :: r)) = _
    rw [sg_app, sg_app, sg_join0 (y :: r), show sg (Str.ofString "") = [] from by decide +kernel]
    simp
end D

namespace D
open PySem PySem.Spec PyProof.Rows L2
/-! ### errors whose suites call defs -/
section
variable {X : Cx} {e : Expr} {es : List Expr} {ta : TA} {p pos : Pos}
/-- the making of an own error, outside of a suite, for the ways out that tell its context -/
theorem pmk_oexN {CX : CXT} {x : Str} {C fI : Addr} {k : Nat} {fd : FuncData} {ps : List Str} {sp : Sp} {ds : List Value} {dvs : List V} (T : OexC X.K C) (iC : PySem.W.findIn X.K (.ref C) "__init__" = some (some (.ref fI))) (tI : PySem.W.typeIn X.K (.ref fI) = some (.type "function"))
    (F1 : FnOk X.prog X.w X.K X.mg X.base CX k fI fd ps sp) (hr : Room (k + 1) X.A) (hb : Binds X.K fd ps ds) (hd : Vals dvs ds) (hx : Passes CX X (fun _ _ _ => False)) (hg : Gl X x) (hm : X.mg x = some (.ref C)) (ha : PA X (e :: es) ta)
    (hdb : (x == ("__debug__" : Str)) = false := by decide) (he : starEach (e :: es) X.env = (false, eval e X.env) :: starEach es X.env := by rfl) (hpl : (backTo pos (starEach es X.env)).any (·.1) = false := by rfl) :
    L2N.PMk X (.Call (.Name x p) (e :: es) [] pos) (tMkO C sp dvs ta) := by
  intro pins s σ H Q I h
  obtain ⟨nm, q, N, bs, bm, sn, sub, ab, col, dd, k0, k1, k2, k3, k5, hC, hbm⟩ := T.cls
  refine wpAny_Call_Name_kw (ld_glob I hg hm ?_ hdb)
  refine PySem.W.callWith_K (h₀ := X.base) I.ok.mod.kin T.kC (thn (ha.run pos pins s σ H _ I h) fun us s1 ⟨vs, H1, I1, r1, hz, q1⟩ => ⟨I1.kIn, ?_⟩) he hpl
  show wpAny _ _ (call (.ref C) us) _ _ _
  obtain ⟨hp, g, dr, tk, os⟩ := s1
  have hsz : hp.objs.size ≤ hp.objs.size + 1 := Nat.le_succ _
  have hn : H1 (hp.objs.size + 1) = none := I1.hok.fresh hsz
  have hq := q1 (hp.objs.size + 1) hn
  have kk : ∀ b o, hp.get? b = some o → ((hp.push (PySem.W.kdv_tup us)).push (PySem.HandSPX.excO C hp.objs.size)).get? b = some o := fun b o e => Heap.get?_push_of_some _ (Heap.get?_push_of_some _ e)
  have hget : ((hp.push (PySem.W.kdv_tup us)).push (PySem.HandSPX.excO C hp.objs.size)).get? (hp.objs.size + 1) = some (PySem.HandSPX.excO C hp.objs.size) := by heap_get
  have I2 : Inv X pins σ (upd H1 (hp.objs.size + 1) (exo (hp.objs.size + 1) C none)) ⟨(hp.push (PySem.W.kdv_tup us)).push (PySem.HandSPX.excO C hp.objs.size), g, dr, tk, os⟩ :=
    I1.laid (t' := tk) (a := hp.objs.size + 1) (o := exo (hp.objs.size + 1) C none) (h' := (hp.push (PySem.W.kdv_tup us)).push (PySem.HandSPX.excO C hp.objs.size)) kk hsz (exo_ok hget)
  have r2 : Vals (V.ref (hp.objs.size + 1) :: (vs ++ dvs)) (Value.ref (hp.objs.size + 1) :: (us ++ ds)) := .cons rfl (r1.append hd)
  have hl : (Value.ref (hp.objs.size + 1) :: us ++ ds).length = ps.length := by
    have e := r2.length
    rw [F1.len _ _ _ _ hq] at e
    exact e.symm
  have hus : us.length ≤ sizeLine := by
    rw [← Paired.length r1, sizeLine_eq]
    omega
  refine wpAny_call (PySem.HandSPX.call_own F.excBase_ValueError (fun Y => PySem.HandSPX.refsVE_contains Y bm hbm) (I1.kIn _ _ hC) (PySem.W.looks_findIn I1.kIn iC) (fun self => PySem.W.bind_fn I1.kIn self tI) hus
    (codeAny_mono (F1.run _ X.stack _ _ ⟨Value.ref (hp.objs.size + 1) :: us, []⟩ (Value.ref (hp.objs.size + 1) :: (us ++ ds)) _ _ (fun _ _ _ => False) (hr.make C us []) (I2.env0.make C us []) (hb _ (Value.ref (hp.objs.size + 1) :: us) I2.kIn hl) r2 hq) fun r s' hq' => ?_))
  cases r with
  | error er => exact hx pins σ _ _ er s' I2 hq'
  | ok fl =>
    cases fl with
    | ret u =>
      obtain ⟨v, H2, os2, bare2, un2, hok2, rv, ev, d, fs, ea, ed, hd1, q2⟩ := hq'
      subst ev
      obtain ⟨h2, g2, d2, t2, os'⟩ := s'
      obtain ⟨t0, G, J, kG, ge, hoe, na⟩ := mk_end0 (d2 := d2) (t2 := t2) I1 hsz kk un2 hok2 os2 bare2 ea ed hd1
      refine ⟨rv, ⟨hp.objs.size + 1, _, _, ⟨G, g2, d2, t2, os'⟩, _, .ref C, some d, rfl, J, kG, ge, hoe, ⟨rfl, rfl, fun vs hv => ?_⟩, rfl, rfl, na, rfl, bare2, raises_own T.exC T.tyC, q2⟩⟩
      cases hv
      rfl
    | next => exact False.elim hq'
    | brk => exact False.elim hq'
    | cont => exact False.elim hq'
end
section
variable {P : Program} {w : World} {K : PySem.W.Frag} {mg : Str → Option Value} {base : Heap}
/-- as Fun.okX, for the ways out that tell the error's context -/
theorem Fun.okXN {x qual : Str} {st : Stmt} {f : Addr} {fd : FuncData} {N ps : List Str} {k : Nat} {sp : Sp} (F : Fun K x qual st f fd) (S : FnScope N ps (defScope st)) (len : ∀ vs H Q E, sp vs H Q E → vs.length = ps.length)
    (hbody : ∀ (cdv : Value) (A : Around) (outer : List Env) (s : Shared) (H : Hp) (vs : List V) (Q : VK) (E : XK), Room k (A.deeper (envOfC qual (defScope st) s.heap.objs.size f cdv)) → sp vs H Q E →
      ∃ t, PSs (cxOf (L2N.CX P w) P w K mg base N qual (defScope st) f cdv A outer s H E) (defBody st) t ∧ t { nx := fun _ H' => Q .non H', rt := Q } (start N vs) H) : FnOk P w K mg base (L2N.CX P w) (k + 1) f fd ps sp := by
  obtain ⟨oc, od, kV, doc, pm, an, cdv, ct, osl, rfl, lk, hcd⟩ := F.ex
  exact fn_of lk hcd S len fun A outer s H vs Q E hr hsp => hbody cdv A outer s H vs Q E hr hsp
theorem takes0N {X : Cx} : L2N.Takes X (fun _ _ _ _ => False) := fun _ _ x => by
  obtain ⟨_, _, _, _, _, _, _, _, _, _, _, _, _, _, _, _, z⟩ := x
  exact z.elim
/-- as Fun.ok, for a def that is called in an except suite -/
theorem Fun.okH {x qual : Str} {st : Stmt} {f : Addr} {fd : FuncData} {N ps : List Str} {k : Nat} {sp : Sp} (F : Fun K x qual st f fd) (S : FnScope N ps (defScope st)) (len : ∀ vs H Q E, sp vs H Q E → vs.length = ps.length)
    (hbody : ∀ (cdv : Value) (A : Around) (outer : List Env) (s : Shared) (H : Hp) (vs : List V) (Q : VK) (E : XK) (p : Addr × Obj), L2H.RoomH k (A.deeper (envOfC qual (defScope st) s.heap.objs.size f cdv)) → sp vs H Q E →
      ∃ t, PSs (L2H.cxH CX0 P w K mg base N qual (defScope st) f cdv A outer s H E p) (defBody st) t ∧ t { nx := fun _ H' => Q .non H', rt := Q } (start N vs) H) : L2H.FnH P w K mg base CX0 (k + 1) f fd ps sp := by
  obtain ⟨oc, od, kV, doc, pm, an, cdv, ct, osl, rfl, lk, hcd⟩ := F.ex
  exact L2H.fn_ofH lk hcd S len fun A outer s H vs Q E p hot hr hsp => hbody cdv A outer s H vs Q E p hr hsp
theorem hot_suite {X : Cx} {a : Addr} {oe : Obj} {cls : Value} {d : Option Addr} {pn : List (Addr × Obj)} (hz : L2N.Zn cls d oe) (hf : ∃ vs, oe.data = .fields vs) : L2H.HotC (X.suite a ((a, oe) :: pn)) := by
  obtain ⟨vs, hv⟩ := hf
  exact ⟨(a, oe), ⟨rfl, vs, hv, hz.2.2 vs hv⟩, List.mem_cons_self⟩
theorem room_suite {k j : Nat} {A : Around} (r : Room k A) (h : j ≤ k) (v : Option Value) : L2H.RoomH j (A.mark v) := L2H.RoomH.mono ⟨r.dp, r.un⟩ h
theorem passH {X : Cx} {E : L2.St → XK} : ∀ σ, PassesAt CX0 X σ (E σ) := fun _ _ _ _ _ _ _ h => h.elim
end
end D

/-! defs that show data as text: no guard of a repr stands open where they are called -/
namespace D
open PySem PySem.Spec PyProof.Rows L2
section
variable {P : Program} {w : World} {K : PySem.W.Frag} {mg : Str → Option Value} {base : Heap} {CX : CXT} {k : Nat} {f : Addr} {fd : FuncData} {ps : List Str} {sp : Sp}
/-- as FnOk, called where no guard stands open -/
structure FnG (P : Program) (w : World) (K : PySem.W.Frag) (mg : Str → Option Value) (base : Heap) (CX : CXT) (k : Nat) (f : Addr) (fd : FuncData) (ps : List Str) (sp : Sp) : Prop where
  ln : ∀ vs H Q E, sp vs H Q E → vs.length = ps.length
  go : ∀ (A : Around) (fr : List Env) (s : Shared) (H : Hp) (args : Args) (us : List Value) (vs : List V) (Q : VK) (E : XK), A.guards = some [] → Room k A → Env0 P w K mg base A fr s H → BindsTo s fd args (ps.zip us) → Vals vs us → sp vs H Q E → codeAny (model P w) A (.call (.ref f) args) (CR CX fr P w H s Q E) s
theorem FnG.of (F : FnOk P w K mg base CX k f fd ps sp) : FnG P w K mg base CX k f fd ps sp := ⟨F.len, fun A fr s H args us vs Q E _ hr he hb hv hs => F.run A fr s H args us vs Q E hr he hb hv hs⟩
theorem FnG.bodyG {name qual : Str} {pr : Arguments} {body : List Stmt} {sc : Scope} {dV kV doc pm c ct oc : Value} {an od : Option Addr} {osl : Array (Option Value)} {N : List Str}
    (lk : K.lookup f = some ⟨oc, od, .func (PySem.W.fnOf name qual pr body sc dV kV doc pm an c ct), osl⟩) (hc : PySem.W.codeIn K c qual = true) (S : FnScope N ps sc) (ln : ∀ vs H Q E, sp vs H Q E → vs.length = ps.length)
    (hb : ∀ (A : Around) (fr : List Env) (s : Shared) (H : Hp) (vs : List V) (Q : VK) (E : XK), (A.deeper (envOfC qual sc s.heap.objs.size f c)).guards = some [] → Room k (A.deeper (envOfC qual sc s.heap.objs.size f c)) → sp vs H Q E →
      ∃ t, PSs (cxOf CX P w K mg base N qual sc f c A fr s H E) body t ∧ t { nx := fun _ H' => Q .non H', rt := Q } (start N vs) H) : FnG P w K mg base CX (k + 1) f (PySem.W.fnOf name qual pr body sc dV kV doc pm an c ct) ps sp := by
  refine ⟨ln, fun A fr s H args us vs Q E gd hr e0 bd rv hs => ?_⟩
  have n1 := ln _ _ _ _ hs
  have kin : K.In s.heap := e0.mod.kin.keeps fun x o e => (e0.bs x o e).1
  have nl : s.heap.NoLimit := e0.mod.nolimit.keeps fun x o e => (e0.bs x o e).1
  have kd : ∀ y ∈ ps.zip us, sc.names.lookup y.1 = some .local ∨ (sc.names.lookup y.1 = some .cell ∧ ((cellsFrom (s.heap.objs.size + 1) sc.names []).lookup y.1).isSome = true) := by
    rintro ⟨m, v⟩ hy
    exact (S.par m (List.of_mem_zip hy).1).imp id fun z => ⟨z, PySem.W.cellsFrom_some _ _ _ (.inl z)⟩
  refine codeAny_call_function hr.depth (kin _ _ lk) rfl S.co S.gen rfl (PySem.W.codeRec_of kin hc) (bd _ _ _ _ (wpAny_newFunctionEnv_cells S.kind kd fun ev he s1 x => ?_))
  cases he
  refine ⟨nl.keeps x.toInCall.keep, codeAny_func ?_⟩
  obtain ⟨t, ht, hq⟩ := hb A fr s H vs Q E gd (hr.deeper _) hs
  refine wpAny_mono (ht.run [] s1 (start N vs) H _ (inv_start S hr.hd e0 n1 rv x) hq) (fun fl s' z => ?_) fun e s' z => z
  cases fl with
  | ret u =>
    obtain ⟨v, σ', H', J, r, q⟩ := z
    exact ⟨v, H', J.os, J.bare, J.base, J.hok, r, q⟩
  | next =>
    obtain ⟨σ', H', J, q⟩ := z
    exact ⟨V.non, H', J.os, J.bare, J.base, J.hok, rfl, q⟩
  | brk =>
    obtain ⟨_, _, _, z⟩ := z
    exact False.elim z
  | cont =>
    obtain ⟨_, _, _, z⟩ := z
    exact False.elim z
theorem Fun.okG {x qual : Str} {st : Stmt} {N : List Str} (F : Fun K x qual st f fd) (S : FnScope N ps (defScope st)) (ln : ∀ vs H Q E, sp vs H Q E → vs.length = ps.length)
    (hb : ∀ (c : Value) (A : Around) (fr : List Env) (s : Shared) (H : Hp) (vs : List V) (Q : VK) (E : XK), (A.deeper (envOfC qual (defScope st) s.heap.objs.size f c)).guards = some [] → Room k (A.deeper (envOfC qual (defScope st) s.heap.objs.size f c)) → sp vs H Q E →
      ∃ t, PSs (cxOf CX0 P w K mg base N qual (defScope st) f c A fr s H E).nox (defBody st) t ∧ t { nx := fun _ H' => Q .non H', rt := Q } (start N vs) H) : FnG P w K mg base CX0 (k + 1) f fd ps sp := by
  obtain ⟨oc, od, kV, doc, pm, an, c, ct, osl, rfl, lk, hc⟩ := F.ex
  refine FnG.bodyG lk hc S ln fun A fr s H vs Q E gd hr hs => ?_
  obtain ⟨t, h, q⟩ := hb c A fr s H vs Q E gd hr hs
  exact ⟨t, h.nox, q⟩
end
section
variable {X : Cx} {CX : CXT} {k : Nat} {f : Addr} {fd : FuncData} {ps : List Str} {sp : Sp} {E : XK} {x : Str} {p pos : Pos} {e : Expr} {es : List Expr} {t : TA}
theorem run_fnG {pins : List (Addr × Obj)} {σ : L2.St} {H : Hp} {s : Shared} {Q : VK} {us : List Value} {vs : List V} (F : FnG X.prog X.w X.K X.mg X.base CX k f fd ps sp) (gd : X.A.guards = some []) (hr : Room k X.A) (hb : Binds X.K fd ps []) (hx : Passes CX X E)
    (I : Inv X pins σ H s) (r : Vals vs us) (h : sp vs H Q E) : wpAny (model X.prog X.w) X.A (call (.ref f) us) (EP X pins σ Q) X.xe s := by
  have hl : (us ++ ([] : List Value)).length = ps.length := by rw [List.append_nil, ← r.length]; exact F.ln _ _ _ _ h
  have bd := hb s us I.kIn hl
  rw [List.append_nil] at bd
  refine wpAny_call (codeAny_mono (F.go X.A X.stack s H ⟨us, []⟩ us vs Q E gd hr I.env0 bd r h) fun z s' hq => ?_)
  cases z with
  | error er => exact hx pins σ H s er s' I hq
  | ok fl =>
    cases fl with
    | ret u => exact I.after hq
    | next => exact hq.elim
    | brk => exact hq.elim
    | cont => exact hq.elim
theorem pe_callG (F : FnG X.prog X.w X.K X.mg X.base CX k f fd ps sp) (gd : X.A.guards = some []) (hr : Room k X.A) (hg : Gl X x) (hm : X.mg x = some (.ref f)) (hk : PySem.W.keepIn X.K (.ref f) = true) (hb : Binds X.K fd ps []) (hx : Passes CX X E) (ha : PA X (e :: es) t)
    (hdb : (x == ("__debug__" : Str)) = false := by decide) (he : starEach (e :: es) X.env = (false, eval e X.env) :: starEach es X.env := by rfl) (hpl : (backTo pos (starEach es X.env)).any (·.1) = false := by rfl) : PE X (.Call (.Name x p) (e :: es) [] pos) (tCall sp [] E t) := by
  refine ⟨fun pins s σ H Q I h => wpAny_Call_Name_kw (ld_glob I hg hm ?_ hdb)⟩
  refine PySem.W.callWith_K (h₀ := X.base) I.ok.mod.kin hk (thn (ha.run pos pins s σ H _ I h) fun us s1 ⟨vs, H1, I1, r, q⟩ => ⟨I1.kIn, ?_⟩) he hpl
  have q0 : sp (vs ++ []) H1 Q E := q
  rw [List.append_nil] at q0
  exact run_fnG F gd hr hb hx I1 r q0
theorem pe_call0G (F : FnG X.prog X.w X.K X.mg X.base CX k f fd ps sp) (gd : X.A.guards = some []) (hr : Room k X.A) (hg : Gl X x) (hm : X.mg x = some (.ref f)) (hk : PySem.W.keepIn X.K (.ref f) = true) (hb : Binds X.K fd ps []) (hx : Passes CX X E)
    (hdb : (x == ("__debug__" : Str)) = false := by decide) : PE X (.Call (.Name x p) [] [] pos) (tCall sp [] E tNil) :=
  ⟨fun pins s σ H Q I h => wpAny_Call_Name_kw (ld_glob I hg hm (PySem.W.callWith_K0 I.kIn hk (run_fnG (us := []) (vs := []) F gd hr hb hx I .nil h)) hdb)⟩
/-- repr of data -/
theorem call_reprD (gd : X.A.guards = some []) (hu : X.A.units + 200 < cLine) : CallR X (.builtin "repr") (fun xs H Q => ∃ a d, xs = [.ref a] ∧ Dp X.K H (.ref a) d ∧ d.showable = true ∧ d.hasDict = false ∧ d.depth ≤ 64 ∧ d.shown.length ≤ sizeLine ∧ Q (.str d.shown) H) := by
  intro pins s σ H xs us Q I r h
  obtain ⟨a, d, rfl, hd, h1, h2, h3, h4, q⟩ := h
  obtain ⟨u, rfl, ru⟩ := vals1 r
  obtain ⟨as, rd⟩ := Dp.reads I d _ _ hd ru
  cases ru
  exact repr_of_reads' rd h1 (fun z => by rw [h2] at z; cases z) gd (by omega) (fun b o e => e) (fun h' u tk hk => ⟨.str d.shown, H, I.kept hk, ⟨u, rfl⟩, q⟩) h4
end
end D
/-! ### all kinds -/
namespace D
open PySem PySem.Spec PyProof.Rows L2
section
variable {X : Cx}
/-- repr of data of any kind -/
theorem call_reprV (gd : X.A.guards = some []) (hu : X.A.units + 200 < cLine) : CallR X (.builtin "repr") (fun vs H Q => ∃ v d, vs = [v] ∧ Dp X.K H v d ∧ d.showable = true ∧ d.hasDict = false ∧ d.depth ≤ 64 ∧ d.shown.length ≤ sizeLine ∧ Q (.str d.shown) H) := by
  rintro pins s σ H vs us Q I r ⟨v, d, rfl, hd, h1, h2, h3, h4, q⟩
  cases hd with
  | lst h k => exact call_reprD gd hu pins s σ H _ us Q I r ⟨_, _, rfl, .lst h k, h1, h2, h3, h4, q⟩
  | tup h k => exact call_reprD gd hu pins s σ H _ us Q I r ⟨_, _, rfl, .tup h k, h1, h2, h3, h4, q⟩
  | non =>
    obtain ⟨u, rfl, ru⟩ := vals1 r
    cases (show u = Value.none from ru)
    rw [PyData.shown_none] at q
    exact PySem.P.repr_of_none ⟨.str _, H, I.tok _, ⟨_, rfl⟩, q⟩
  | bl b =>
    obtain ⟨u, rfl, ru⟩ := vals1 r
    cases (show u = Value.bool b from ru)
    rw [PyData.shown_bool] at q
    exact PySem.P.repr_of_bool ⟨.str _, H, I.tok _, ⟨_, rfl⟩, q⟩
  | int i =>
    obtain ⟨u, rfl, t, rfl⟩ := vals1 r
    rw [PyData.shown_int] at q
    exact PySem.P.repr_of_int (of_decide_eq_true h1) ⟨.str _, H, I.tok _, ⟨_, rfl⟩, q⟩
  | str y =>
    obtain ⟨u, rfl, t, rfl⟩ := vals1 r
    rw [PyData.shown_str] at q h4
    exact PySem.P.repr_of_str ⟨.str _, H, I.tok _, ⟨_, rfl⟩, q⟩ h4
end
end D
namespace D
open PySem PySem.Spec PyProof.Rows L2
/-- join, its row's part of the module named -/
theorem pe_joinK {X : Cx} {K : PySem.W.Frag} {o e : Expr} {to te : TE} {apos pos : Pos} (h : X.K = K) (ho : PE X o to) (he : PE X e te) (hs : starEach [e] X.env = [(false, eval e X.env)] := by rfl) (hb : attributeBase o "join" X.env (eval o X.env) = eval o X.env := by rfl) (hl : (apos.endLine == pos.line) = true := by rfl) :
    PE X (.Call (.Attribute o "join" apos) [e] [] pos) (tM1 (fun x xs H Q => ∃ a p, ∃ ys : List Str, x = .str a ∧ xs = [.ref p] ∧ (SqL K H p (ys.map V.str) ∨ SqT K H p (ys.map V.str)) ∧ (ys.map (·.length)).sum + ys.length * a.length ≤ 16777216 ∧ Q (.str (Txt.join a ys)) H) to te) := by
  subst h
  exact pe_join ho he hs hb hl
end D
/-! ### the law's own call: no guard stands open there -/
namespace D
open PySem PySem.Spec PyProof.Rows L2
theorem un200 {A : Around} {k : Nat} (r : Room k A) : A.units + 200 < cLine := by
  have z := r.un
  omega
section
variable {P : Program} {w : World} {K : PySem.W.Frag} {mg mb : Str → Option Value} {CX : CXT} {k : Nat} {fa a : Addr} {fd : FuncData} {x : Str} {sp : Sp} {z : Shared} {us : List Value} {ns : List Int}
theorem top_run (kx : K.In z.heap) (h1 : z.heap.Ns mainGlobals mg) (h2 : z.heap.Ns builtinsNs mb) (h3 : ∀ y : Str, y ≠ "__name__" → mb y = bootBuiltins y) (h4 : z.heap.NoLimit) (h5 : z.gens = #[]) (ha : z.heap.get? a = some { cls := .type "list", data := .seq us.toArray })
    (hr : Room k callerA) (F : ∀ base : Heap, K.In base → base.Ns mainGlobals mg → FnG P w K mg base CX k fa fd [x] sp) (bd : ∀ (s : Shared) (u : Value), BindsTo s fd ⟨[u], []⟩ [(x, u)]) (cx : ∀ H e s', CX [] H z (fun _ _ _ => False) e s' → False)
    {H : Hp} (only : Only H) (hsp : sp [.ref a] H (fun v _ => v = .bl true) fun _ _ _ => False) (hok : HOk P w H z.heap) (own : ∀ b, H b ≠ none → b = a ∧ K.lookup b = none) :
    codeAny (model P w) callerA (.call (.ref fa) ⟨[.ref a], []⟩) (fun r s' => r = .ok (.ret (.bool true)) ∧ OldK z.heap s'.heap ∧ s'.os = z.os ∧ AllBare s'.gens) z := by
  have out : ∀ {b : Addr} {o : Obj} {es : Array DictEntry} {n : Nat}, z.heap.get? b = some o → o.data = .dict es n → H b = none := fun {b o es n} e d => by
    by_cases q : H b = none
    · exact q
    · obtain ⟨rfl, _⟩ := own b q
      rw [ha] at e
      cases e
      cases (show Data.seq us.toArray _ = Data.dict es n from d)
  have ns' : ∀ {b : Addr} {m : Str → Option Value}, z.heap.Ns b m → (hidT z.heap H).Ns b m := fun {b m} h => by
    obtain ⟨o, es, n, e, d, r⟩ := h
    exact ⟨o, es, n, hidT_get e (out e d), d, r⟩
  have kb : K.In (hidT z.heap H) := fun b o e => by
    refine hidT_get (kx b o e) ?_
    by_cases q : H b = none
    · exact q
    · rw [(own b q).2] at e
      cases e
  obtain ⟨mc, l1, l2⟩ := h4
  have md : Mod K mg (hidT z.heap H) := ⟨kb, ns' h1, ⟨mb, ns' h2, h3⟩, mc, ns' l1, l2⟩
  have ev : Env0 P w K mg (hidT z.heap H) callerA [] z H := ⟨rfl, md, fun _ _ e => of_hidT e, by rw [hidT_size]; exact Nat.le_refl _, trivial, fun b m => (by cases m), hok, .of_eq h5⟩
  have run := (F _ kb (ns' h1)).go callerA [] z H ⟨[.ref a], []⟩ [.ref a] [.ref a] (fun v _ => v = .bl true) (fun _ _ _ => False) rfl hr ev (bd z (.ref a)) (.cons rfl .nil) hsp
  refine codeAny_mono run fun r s' c => ?_
  rcases r with er | fl
  · exact absurd c (cx H er s')
  · cases fl with
    | next => exact c.elim
    | brk => exact c.elim
    | cont => exact c.elim
    | ret u =>
      obtain ⟨v, H2, o1, b1, un, ok2, rv, ev⟩ := c
      cases (show v = V.bl true from ev)
      cases (show u = Value.bool true from rv)
      refine ⟨rfl, OldK.of_keep fun b o e => ?_, o1, b1⟩
      cases q : H b with
      | none => exact un.keep b o e q (fun m => by cases m) (fun m => by cases m)
      | some t =>
        rcases only b with y | ⟨ob, xs, y⟩
        · rw [q] at y; cases y
        · obtain ⟨e1, _⟩ := hok b _ y
          obtain ⟨e2, _⟩ := ok2 b _ (un.frzs b ob _ y)
          rw [e] at e1
          cases e1
          exact e2
end
theorem walk_ofG {l : PySem.W.OpenLaw} {n k : Nat} {q : Program} {loose : List Str} {XP : (Str → Option Value) → Heap → Prop} {YP : World → Heap → Prop} {d : DefRec} {K : Params → PySem.W.Frag} {sp : PySem.W.Frag → Sp} {x : Str}
    (hn : l.most = some n) (hn2 : n ≤ sizeLine) (hdf : d.params.defaults = []) (hr : Room k callerA) (hY : ∀ (w : World) (h : Heap), YP w h → (K w.params).In h)
    (F : ∀ (w : World) (mg : Str → Option Value) (fa : Addr) (h : Heap), (K w.params).In h → h.Ns mainGlobals mg → mg d.name = some (.ref fa) →
      ∃ fd : FuncData, (∀ (s : Shared) (u : Value), BindsTo s fd ⟨[u], []⟩ [(x, u)]) ∧ ∀ base : Heap, (K w.params).In base → base.Ns mainGlobals mg → FnG l.prog w (K w.params) mg base CX0 k fa fd [x] (sp (K w.params)))
    (hsp : ∀ (K : PySem.W.Frag) (H : Hp) (a : Addr) (ns : List Int), ns.length ≤ n → SqL K H a (ns.map V.int) → sp K [.ref a] H (fun v _ => v = .bl true) fun _ _ _ => False) :
    PySem.W.WalkO q loose XP YP l.row.toRowW d [] (fun f vs => PySem.call f vs) := by
  refine Att.attach_call hn hdf fun w s0 z mg mb fa o pm cd dc a us ns G Y ho hd hcd hm hob hi hle hg => ?_
  have kx := hY w _ Y
  obtain ⟨fd, bd, hF⟩ := F w mg fa _ kx G.T.g hm
  have lv := vals_ints hi
  have le1 : (ns.map V.int).length ≤ sizeLine := by
    rw [List.length_map]
    omega
  cases hk : (K w.params).lookup a with
  | some u =>
    have e := kx a u hk
    rw [hob] at e
    cases e
    have hS : SqL (K w.params) (fun _ => none) a (ns.map V.int) := .inr ⟨_, us.toArray, _, hk, rfl, rfl, rfl, by rw [List.size_toArray, ← lv.length]; exact le1, by simpa using lv⟩
    exact top_run kx G.T.g G.T.b G.T.builtins G.T.nolimit hg hob hr hF bd (fun _ _ _ c => c) (fun _ => .inl rfl) (hsp _ _ _ _ hle hS) (fun b t c => by cases (show (none : Option HO) = some t from c)) fun b c => absurd rfl c
  | none =>
    obtain ⟨H, eH⟩ : ∃ H : Hp, H = upd (fun _ => none) a (.frz { cls := .type "list", data := .seq us.toArray } (.lst (ns.map V.int))) := ⟨_, rfl⟩
    have ea : H a = some (.frz { cls := .type "list", data := .seq us.toArray } (.lst (ns.map V.int))) := by rw [eH]; exact upd_same
    have en : ∀ b, b ≠ a → H b = none := fun b c => by rw [eH]; exact upd_ne c
    refine top_run kx G.T.g G.T.b G.T.builtins G.T.nolimit hg hob hr hF bd (fun _ _ _ c => c) (H := H) (fun b => ?_) (hsp _ _ _ _ hle (.inl (.inr ⟨_, ea⟩))) (fun b t c => ?_) fun b c => ?_
    · by_cases e : b = a
      · exact .inr ⟨_, _, by rw [e]; exact ea⟩
      · exact .inl (en b e)
    · by_cases e : b = a
      · rw [e] at c
        rw [ea] at c
        cases c
        rw [e]
        exact ⟨hob, le1, us, _, lv, hob⟩
      · rw [en b e] at c
        cases c
    · by_cases e : b = a
      · rw [e]
        exact ⟨rfl, hk⟩
      · exact absurd (en b e) c
end D

namespace D
open PySem PySem.Spec PyProof.Rows L2
/-! ### defs that take any number of arguments -/
section
variable {P : Program} {w : World} {K : PySem.W.Frag} {mg : Str → Option Value} {base : Heap}
/-- what such a def promises: what is left over is a new tuple -/
def spStar (n : Nat) (sp : Sp) : Sp := fun vs H Q E => ∃ ws rest, vs = ws ++ rest ∧ ws.length = n ∧ rest.length ≤ sizeLine ∧ ∀ p, H p = Option.none → sp (ws ++ [V.ref p]) (upd H p (.tup rest)) Q E
theorem Fun.okS {x qual : Str} {st : Stmt} {f : Addr} {fd : FuncData} {N ps : List Str} {pv : Str} {k : Nat} {sp : Sp} (F : Fun K x qual st f fd) (S : FnScope N (ps ++ [pv]) (defScope st))
    (hb : ∀ (kV doc pm : Value) (an : Option Addr) (cdv ct : Value) (us rest : List Value), us.length = ps.length → bindArgs (PySem.W.fnOf x qual (defArgs st) (defBody st) (defScope st) .none kV doc pm an cdv ct) ⟨us ++ rest, []⟩ = (newTuple rest >>= fun t => pure (ps.zip us ++ [(pv, t)])))
    (body : ∀ (c : Value) (A : Around) (fr : List Env) (s : Shared) (H : Hp) (vs : List V) (Q : VK) (E : XK), Room k (A.deeper (envOfC qual (defScope st) s.heap.objs.size f c)) → sp vs H Q E →
      ∃ t, PSs (cxOf CX0 P w K mg base N qual (defScope st) f c A fr s H E) (defBody st) t ∧ t { nx := fun _ H' => Q .non H', rt := Q } (start N vs) H) : FnR P w K mg base CX0 (k + 1) f (spStar ps.length sp) := by
  obtain ⟨oc, od, kV, doc, pm, an, c, ct, osl, rfl, lk, hc⟩ := F.ex
  exact StX.fn_star lk hc S StX.cxUp_none (hb kV doc pm an c ct) fun A fr s H vs Q E hr hs => body c A fr s H vs Q E hr hs
end
section
variable {X : Cx} {CX : CXT} {k : Nat} {f : Addr} {sp : Sp} {E : XK} {x : Str} {p pos : Pos} {e : Expr} {es : List Expr} {t : TA}
theorem pe_callR (F : FnR X.prog X.w X.K X.mg X.base CX k f sp) (hr : Room k X.A) (hg : Gl X x) (hm : X.mg x = some (.ref f)) (hk : PySem.W.keepIn X.K (.ref f) = true) (hx : Passes CX X E) (ha : PA X (e :: es) t)
    (hdb : (x == ("__debug__" : Str)) = false := by decide) (he : starEach (e :: es) X.env = (false, eval e X.env) :: starEach es X.env := by rfl) (hpl : (backTo pos (starEach es X.env)).any (·.1) = false := by rfl) : PE X (.Call (.Name x p) (e :: es) [] pos) (tCall sp [] E t) := by
  refine ⟨fun pins s σ H Q I h => wpAny_Call_Name_kw (ld_glob I hg hm ?_ hdb)⟩
  refine PySem.W.callWith_K (h₀ := X.base) I.ok.mod.kin hk (thn (ha.run pos pins s σ H _ I h) fun us s1 ⟨vs, H1, I1, r, q⟩ => ⟨I1.kIn, ?_⟩) he hpl
  have q0 : sp (vs ++ []) H1 Q E := q
  rw [List.append_nil] at q0
  exact wpAny_call (run_fnR F hr hx I1 r q0)
theorem pe_callR0 (F : FnR X.prog X.w X.K X.mg X.base CX k f sp) (hr : Room k X.A) (hg : Gl X x) (hm : X.mg x = some (.ref f)) (hk : PySem.W.keepIn X.K (.ref f) = true) (hx : Passes CX X E)
    (hdb : (x == ("__debug__" : Str)) = false := by decide) : PE X (.Call (.Name x p) [] [] pos) (tCall sp [] E tNil) :=
  ⟨fun pins s σ H Q I h => wpAny_Call_Name_kw (ld_glob I hg hm (PySem.W.callWith_K0 I.kIn hk (wpAny_call (run_fnR (us := []) (vs := []) F hr hx I .nil h))) hdb)⟩
end
end D

namespace D
open PySem PySem.Spec PyProof.Rows L2
/-! ### data that may be compared and shown -/
structure Gd (B n : Nat) (d : PyData) : Prop where
  lay : d.canLay0 = true
  deep : d.depth ≤ n
  short : d.leavesShort 13 = true
  show' : d.showable = true
  nod : d.hasDict = false
  bulk : d.bulk ≤ B
theorem Gd.le {B n B' n' : Nat} {d : PyData} (h : Gd B n d) (hB : B ≤ B') (hn : n ≤ n') : Gd B' n' d := ⟨h.lay, Nat.le_trans h.deep hn, h.short, h.show', h.nod, Nat.le_trans h.bulk hB⟩
theorem log40 {n : Nat} (h : n < 10 ^ 12) : n.log2 < 1920 := by
  rcases Nat.eq_zero_or_pos n with z | z
  · subst z
    decide
  · have := (Nat.log2_lt (by omega)).mpr (Nat.lt_of_lt_of_le h (by decide : 10 ^ 12 ≤ 2 ^ 40))
    omega
theorem Gd.int {i : Int} (h : i.natAbs < 10 ^ 12) : Gd 0 0 (.int i) := ⟨by simp [PyData.canLay0], Nat.le_refl _, decide_eq_true (PyData.shown_int_le h), decide_eq_true (log40 h), rfl, Nat.le_refl _⟩
theorem Gd.str {x : Str} {B : Nat} (h : ∀ c ∈ x.cps.toList, c < 0x110000) (hl : x.length ≤ B) : Gd B 0 (.str x) := ⟨by
  simp only [PyData.canLay0, PyData.strOk]
  rw [← Array.all_toList]
  exact List.all_eq_true.mpr fun c hc => decide_eq_true (h c hc), Nat.le_refl _, List.all_eq_true.mpr fun c hc => decide_eq_true (Nat.lt_of_lt_of_le (h c hc) (by decide)), rfl, rfl, hl⟩
theorem Gd.non : Gd 0 0 .none := ⟨by simp [PyData.canLay0], Nat.le_refl _, rfl, rfl, rfl, Nat.le_refl _⟩
/-- rows of such data: B bounds the items together -/
structure GdAll (B n : Nat) (ds : List PyData) : Prop where
  lay : PyData.canLayAll0 ds = true
  deep : PyData.depthAll ds ≤ n
  short : PyData.leavesShortAll 13 ds = true
  show' : PyData.showableAll ds = true
  nod : PyData.hasDictAll ds = false
  bulk : PyData.bulkAll ds ≤ B
theorem GdAll.nil {n : Nat} : GdAll 0 n [] := ⟨rfl, Nat.zero_le _, rfl, rfl, rfl, Nat.le_refl _⟩
theorem GdAll.cons {B C n : Nat} {d : PyData} {ds : List PyData} (h : Gd B n d) (g : GdAll C n ds) : GdAll (B + 1 + C) n (d :: ds) := by
  refine ⟨?_, ?_, ?_, ?_, ?_, ?_⟩
  · simp only [PyData.canLayAll0, h.lay, g.lay, Bool.and_self]
  · have := h.deep
    have := g.deep
    simp only [PyData.depthAll]
    omega
  · simp only [PyData.leavesShortAll, h.short, g.short, Bool.and_self]
  · simp only [PyData.showableAll, h.show', g.show', Bool.and_self]
  · simp only [PyData.hasDictAll, h.nod, g.nod, Bool.or_self]
  · have := h.bulk
    have := g.bulk
    simp only [PyData.bulkAll]
    omega
theorem GdAll.le {B n B' n' : Nat} {d : List PyData} (h : GdAll B n d) (hB : B ≤ B') (hn : n ≤ n') : GdAll B' n' d := ⟨h.lay, Nat.le_trans h.deep hn, h.short, h.show', h.nod, Nat.le_trans h.bulk hB⟩
theorem GdAll.all {B n : Nat} : ∀ {ds : List PyData}, (∀ d ∈ ds, Gd B n d) → GdAll (ds.length * (B + 1)) n ds
  | [], _ => GdAll.nil.le (Nat.zero_le _) (Nat.le_refl _)
  | d :: r, h => ((GdAll.all fun z hz => h z (List.mem_cons_of_mem _ hz)).cons (h d List.mem_cons_self)).le (by rw [List.length_cons, Nat.succ_mul]; omega) (Nat.le_refl _)
theorem GdAll.tup {B n : Nat} {ds : List PyData} (h : GdAll B n ds) : Gd B (n + 1) (.tuple ds) := by
  refine ⟨?_, ?_, ?_, ?_, ?_, ?_⟩
  · simp only [PyData.canLay0, h.lay]
  · have := h.deep
    simp only [PyData.depth]
    omega
  · simp only [PyData.leavesShort, h.short]
  · simp only [PyData.showable, h.show']
  · simp only [PyData.hasDict, h.nod]
  · exact h.bulk
theorem GdAll.lst {B n : Nat} {ds : List PyData} (h : GdAll B n ds) : Gd B (n + 1) (.list ds) := by
  refine ⟨?_, ?_, ?_, ?_, ?_, ?_⟩
  · simp only [PyData.canLay0, h.lay]
  · have := h.deep
    simp only [PyData.depth]
    omega
  · simp only [PyData.leavesShort, h.short]
  · simp only [PyData.showable, h.show']
  · simp only [PyData.hasDict, h.nod]
  · exact h.bulk
theorem Gd.shaped {B n : Nat} {d : PyData} (h : Gd B n d) (hn : n ≤ 40) : SeqAt.shaped d = true := by
  refine Bool.and_eq_true_iff.mpr ⟨h.lay, decide_eq_true ?_⟩
  have := h.deep
  omega
theorem Gd.refl {B n : Nat} {d : PyData} (h : Gd B n d) : PyData.eqv d d = true := SeqAt.eqv_refl d h.lay
theorem Gd.showing {B n : Nat} {d : PyData} (h : Gd B n d) (hn : n ≤ 40) (hB : B ≤ 1000000) : d.showable = true ∧ d.hasDict = false ∧ d.depth ≤ 64 ∧ d.shown.length ≤ sizeLine := by
  have h1 := PyData.shown_le_bulk 13 (by decide) d h.short
  have := h.deep
  have := h.bulk
  refine ⟨h.show', h.nod, by omega, ?_⟩
  rw [sizeLine_eq]
  omega
/-! ### shapes -/
inductive Lf where
  | text (f : PyData)
  | button (w : PyData)
  | put (c : PyData) (fs : List PyData)
  | each (f m k c : PyData) (fs : List PyData)
inductive Sh where
  | leaf (l : Lf)
  | whn (f : PyData) (a b : Sh)
  | line (r : Bool) (ps : List Sh)
def sText : Str := Str.ofString "text"
def sButton : Str := Str.ofString "button"
def sPut : Str := Str.ofString "put"
def sEach : Str := Str.ofString "each"
def sWhen : Str := Str.ofString "when"
def sLine (r : Bool) : Str := if r = true then Str.ofString "row" else Str.ofString "col"
def Lf.enc : Lf → PyData
  | .text f => .tuple [.str sText, f]
  | .button w => .tuple [.str sButton, w]
  | .put c fs => .tuple [.str sPut, c, .tuple fs]
  | .each f m k c fs => .tuple [.str sEach, f, m, k, c, .tuple fs]
mutual
def Sh.enc : Sh → PyData
  | .leaf l => l.enc
  | .whn f a b => .tuple [.str sWhen, f, a.enc, b.enc]
  | .line r ps => .tuple [.str (sLine r), .tuple (Sh.encAll ps)]
def Sh.encAll : List Sh → List PyData
  | [] => []
  | p :: r => p.enc :: Sh.encAll r
end
mutual
def Sh.dep : Sh → Nat
  | .leaf _ => 1
  | .whn _ a b => Nat.max a.dep b.dep + 1
  | .line _ ps => Sh.depAll ps + 1
def Sh.depAll : List Sh → Nat
  | [] => 0
  | p :: r => Nat.max p.dep (Sh.depAll r)
end
mutual
def Sh.subs : Sh → List Sh
  | .leaf l => [.leaf l]
  | .whn f a b => .whn f a b :: (a.subs ++ (b.subs ++ []))
  | .line r ps => .line r ps :: Sh.subsAll ps
def Sh.subsAll : List Sh → List Sh
  | [] => []
  | p :: r => p.subs ++ Sh.subsAll r
end
def Sh.inner : Sh → List Sh
  | .leaf _ => []
  | .whn _ a b => [a, b]
  | .line _ ps => ps
theorem encAll_map : ∀ ps : List Sh, Sh.encAll ps = ps.map Sh.enc
  | [] => by rw [Sh.encAll, List.map_nil]
  | p :: r => by rw [Sh.encAll, encAll_map r, List.map_cons]
theorem subsAll_map : ∀ ps : List Sh, Sh.subsAll ps = (ps.map Sh.subs).flatten
  | [] => by rw [Sh.subsAll, List.map_nil, List.flatten_nil]
  | p :: r => by rw [Sh.subsAll, subsAll_map r, List.map_cons, List.flatten_cons]
theorem depAll_mem : ∀ {ps : List Sh} {p : Sh}, p ∈ ps → p.dep ≤ Sh.depAll ps
  | q :: r, p, h => by
    rw [Sh.depAll]
    rcases List.mem_cons.mp h with rfl | h
    · exact Nat.le_max_left _ _
    · exact Nat.le_trans (depAll_mem h) (Nat.le_max_right _ _)
theorem depAll_le : ∀ {ps : List Sh} {n : Nat}, (∀ p ∈ ps, p.dep ≤ n) → Sh.depAll ps ≤ n
  | [], n, _ => by rw [Sh.depAll]; exact Nat.zero_le _
  | q :: r, n, h => by
    rw [Sh.depAll]
    exact Nat.max_le.mpr ⟨h q List.mem_cons_self, depAll_le fun p hp => h p (List.mem_cons_of_mem _ hp)⟩
theorem dep_inner {s p : Sh} (h : p ∈ s.inner) : p.dep < s.dep := by
  cases s with
  | leaf l => cases h
  | whn f a b =>
    simp only [Sh.inner, List.mem_cons, List.not_mem_nil, or_false] at h
    rw [Sh.dep]
    rcases h with rfl | rfl
    · exact Nat.lt_succ_of_le (Nat.le_max_left _ _)
    · exact Nat.lt_succ_of_le (Nat.le_max_right _ _)
  | line r ps =>
    rw [Sh.dep]
    exact Nat.lt_succ_of_le (depAll_mem h)
theorem dep_pos (s : Sh) : 0 < s.dep := by
  cases s <;> rw [Sh.dep] <;> omega
theorem subs_eq (s : Sh) : s.subs = s :: (s.inner.map Sh.subs).flatten := by
  cases s with
  | leaf l => rw [Sh.subs]; rfl
  | whn f a b => rw [Sh.subs]; rfl
  | line r ps => rw [Sh.subs, subsAll_map]; rfl
theorem dep_eq (s : Sh) : s.dep = Sh.depAll s.inner + 1 := by
  cases s with
  | leaf l => rw [Sh.dep]; rfl
  | whn f a b =>
    rw [Sh.dep]
    simp only [Sh.inner, Sh.depAll, Nat.max_eq_left (Nat.zero_le _)]
  | line r ps => rw [Sh.dep]; rfl
/-- the parts of a shape stand behind it, in a row -/
theorem subs_slice : ∀ (n : Nat) (s : Sh), s.dep ≤ n → ∀ (i : Nat) (t : Sh), s.subs[i]? = some t → (s.subs.drop i).take t.subs.length = t.subs := by
  intro n
  induction n with
  | zero => intro s h; exact absurd (dep_pos s) (by omega)
  | succ n ih =>
    intro s hs i t hi
    rw [subs_eq s] at hi ⊢
    cases i with
    | zero =>
      cases hi
      rw [List.drop_zero, ← subs_eq]
      exact List.take_of_length_le (Nat.le_refl _)
    | succ i =>
      rw [List.getElem?_cons_succ] at hi
      rw [List.drop_succ_cons]
      have hd : ∀ p ∈ s.inner, p.dep ≤ n := fun p hp => by
        have := dep_inner hp
        omega
      revert hi hd
      generalize s.inner = ps
      intro hi hd
      induction ps generalizing i with
      | nil => simp at hi
      | cons p r ihp =>
        rw [List.map_cons, List.flatten_cons] at hi ⊢
        by_cases c : i < p.subs.length
        · rw [List.getElem?_append_left c] at hi
          have e := ih p (hd p List.mem_cons_self) i t hi
          have l1 : t.subs.length ≤ (p.subs.drop i).length := by
            have := congrArg List.length e
            rw [List.length_take] at this
            omega
          rw [List.drop_append_of_le_length (by omega), List.take_append_of_le_length l1]
          exact e
        · rw [List.getElem?_append_right (by omega)] at hi
          rw [List.drop_append, List.drop_of_length_le (by omega), List.nil_append]
          exact ihp _ hi fun q hq => hd q (List.mem_cons_of_mem _ hq)
/-- a shape that was drawn -/
def Lf.ok : Lf → Prop
  | .text f => Gd 150 3 f
  | .button w => Gd 8 0 w
  | .put c fs => Gd 8 0 c ∧ fs.length ≤ 3 ∧ ∀ f ∈ fs, Gd 50 2 f
  | .each f m k c fs => Gd 50 2 f ∧ Gd 24 2 m ∧ Gd 50 2 k ∧ Gd 8 0 c ∧ fs.length ≤ 3 ∧ ∀ f ∈ fs, Gd 50 2 f
def okLen (n : Nat) : Prop := n ≤ 8 ∨ n = 11
mutual
def Sh.ok : Sh → Prop
  | .leaf l => l.ok
  | .whn f a b => Gd 150 3 f ∧ a.ok ∧ b.ok
  | .line _ ps => okLen ps.length ∧ Sh.okAll ps
def Sh.okAll : List Sh → Prop
  | [] => True
  | p :: r => p.ok ∧ Sh.okAll r
end
theorem okAll_iff : ∀ {ps : List Sh}, Sh.okAll ps ↔ ∀ p ∈ ps, p.ok
  | [] => by rw [Sh.okAll]; exact ⟨fun _ _ h => (nomatch h), fun _ => trivial⟩
  | q :: r => by
    rw [Sh.okAll, okAll_iff (ps := r)]
    simp
theorem ok_inner {s p : Sh} (h : s.ok) (hp : p ∈ s.inner) : p.ok := by
  cases s with
  | leaf l => cases hp
  | whn f a b =>
    rw [Sh.ok] at h
    simp only [Sh.inner, List.mem_cons, List.not_mem_nil, or_false] at hp
    rcases hp with rfl | rfl
    · exact h.2.1
    · exact h.2.2
  | line r ps =>
    rw [Sh.ok, okAll_iff] at h
    exact h.2 p hp
theorem gstr (x : String) (B : Nat) (h : ((Str.ofString x).cps.toList.all fun c => decide (c < 0x110000)) = true) (hl : (Str.ofString x).length ≤ B) : Gd B 0 (.str (Str.ofString x)) := Gd.str (fun c hc => of_decide_eq_true (List.all_eq_true.mp h c hc)) hl
theorem Gd.up {B n : Nat} {d : PyData} (h : Gd B 0 d) : Gd B n d := h.le (Nat.le_refl _) (Nat.zero_le _)
theorem Lf.gd {l : Lf} (h : l.ok) : Gd 310 4 l.enc := by
  cases l with
  | text f => exact ((((GdAll.nil).cons (show Gd 150 3 f from h)).cons (gstr "text" 10 (by decide +kernel) (by decide +kernel)).up).tup).le (by omega) (Nat.le_refl _)
  | button w => exact ((((GdAll.nil (n := 0)).cons (show Gd 8 0 w from h)).cons (gstr "button" 10 (by decide +kernel) (by decide +kernel))).tup).le (by omega) (by omega)
  | put c fs =>
    obtain ⟨h1, h2, h3⟩ := h
    have hf := (GdAll.all h3).tup
    refine ((((GdAll.nil.cons hf).cons h1.up).cons (gstr "put" 10 (by decide +kernel) (by decide +kernel)).up).tup).le ?_ (Nat.le_refl _)
    omega
  | each f m k c fs =>
    obtain ⟨g1, g2, g3, h1, h2, h3⟩ := h
    have hf := (GdAll.all h3).tup
    refine (((((((GdAll.nil.cons hf).cons h1.up).cons (g3.le (Nat.le_refl _) (by omega))).cons (g2.le (Nat.le_refl _) (by omega))).cons (g1.le (Nat.le_refl _) (by omega))).cons (gstr "each" 10 (by decide +kernel) (by decide +kernel)).up).tup).le ?_ (Nat.le_refl _)
    omega
def Sh.cnt (s : Sh) : Nat := s.subs.length
theorem cnt_eq (s : Sh) : s.cnt = (s.inner.map Sh.cnt).sum + 1 := by
  unfold Sh.cnt
  rw [subs_eq, List.length_cons, List.length_flatten, List.map_map]
  rfl
theorem cnt_pos (s : Sh) : 0 < s.cnt := by rw [cnt_eq]; omega
theorem GdAll.shs {n B : Nat} : ∀ {ps : List Sh}, (∀ p ∈ ps, Gd (310 * p.cnt) n p.enc) → GdAll (310 * (ps.map Sh.cnt).sum + ps.length) n (ps.map Sh.enc)
  | [], _ => GdAll.nil.le (Nat.zero_le _) (Nat.le_refl _)
  | p :: r, h => ((GdAll.shs (B := B) fun z hz => h z (List.mem_cons_of_mem _ hz)).cons (h p List.mem_cons_self)).le (by simp only [List.map_cons, List.sum_cons, List.length_cons]; omega) (Nat.le_refl _)
theorem Sh.gd : ∀ (n : Nat) (s : Sh), s.dep ≤ n → s.ok → Gd (310 * s.cnt) (2 * n + 4) s.enc := by
  intro n
  induction n with
  | zero => intro s h; exact absurd (dep_pos s) (by omega)
  | succ n ih =>
    intro s hs ho
    have hi : ∀ p ∈ s.inner, Gd (310 * p.cnt) (2 * n + 4) p.enc := fun p hp => ih p (by have := dep_inner hp; omega) (ok_inner ho hp)
    have hc := cnt_eq s
    cases s with
    | leaf l =>
      rw [Sh.ok] at ho
      have hp := cnt_pos (.leaf l)
      exact (Lf.gd ho).le (by omega) (by omega)
    | whn f a b =>
      rw [Sh.ok] at ho
      have ga := hi a (by simp [Sh.inner])
      have gb := hi b (by simp [Sh.inner])
      rw [Sh.enc]
      refine (((((GdAll.nil.cons gb).cons ga).cons (ho.1.le (Nat.le_refl _) (by omega))).cons (gstr "when" 10 (by decide +kernel) (by decide +kernel)).up).tup).le ?_ (by omega)
      rw [hc]
      simp only [Sh.inner, List.map_cons, List.map_nil, List.sum_cons, List.sum_nil]
      omega
    | line r ps =>
      rw [Sh.ok] at ho
      have hl : ps.length ≤ 11 := by rcases ho.1 with z | z <;> omega
      have g := (GdAll.shs (B := 0) hi).tup
      have gs : Gd 10 0 (.str (sLine r)) := by
        unfold sLine
        cases r
        · exact gstr "col" 10 (by decide +kernel) (by decide +kernel)
        · exact gstr "row" 10 (by decide +kernel) (by decide +kernel)
      rw [Sh.enc, encAll_map]
      refine (((GdAll.nil.cons g).cons gs.up).tup).le ?_ (by omega)
      rw [hc]
      simp only [Sh.inner] at g ⊢
      omega
end D

/-! making an instance where its __init__ may raise, within a try or a def that lets the error out -/
namespace D
open PySem PySem.Spec PyProof.Rows L2
section
variable {X : Cx} {CX : CXT} {k : Nat} {f C : Addr} {fd : FuncData} {ps : List Str} {sp : Sp} {dvs : List V} {ds : List Value} {x : Str} {p pos : Pos} {e : Expr} {es : List Expr} {t : TA}
def tMakeS (C : Addr) (sp : Sp) (dvs : List V) (E : L2.St → XK) (t : TA) : TE := fun σ H Q => t σ H fun vs H1 => ∀ x dx, H1 x = none → H1 dx = none → dx ≠ x →
  sp (.ref x :: (vs ++ dvs)) (upd (upd H1 dx (.own x)) x (.ins C dx [])) (fun v H2 => v = .non ∧ Q (.ref x) H2) (E σ)
theorem run_makeS {E : XK} {pins : List (Addr × Obj)} {σ : L2.St} {H : Hp} {s : Shared} {Q : VK} {us : List Value} {vs : List V} (M : L2.Mk X.K C f) (F : FnOk X.prog X.w X.K X.mg X.base CX k f fd ps sp) (hr : Room (k + 1) X.A) (hb : Binds X.K fd ps ds) (hd : Vals dvs ds)
    (hx : PassesAt CX X σ E) (I : Inv X pins σ H s) (r : Vals vs us)
    (h : ∀ x dx, H x = none → H dx = none → dx ≠ x → sp (.ref x :: (vs ++ dvs)) (upd (upd H dx (.own x)) x (.ins C dx [])) (fun v H2 => v = .non ∧ Q (.ref x) H2) E) :
    wpAny (model X.prog X.w) X.A (call (.ref C) us) (EP X pins σ Q) X.xe s := by
  have hq := h (s.heap.objs.size + 1) s.heap.objs.size (I.hok.fresh (Nat.le_succ _)) (I.hok.fresh (Nat.le_refl _)) (Nat.ne_of_lt (Nat.lt_succ_self _))
  have I2 := Inv.made (C := C) I
  have r2 : Vals (V.ref (s.heap.objs.size + 1) :: (vs ++ dvs)) (Value.ref (s.heap.objs.size + 1) :: (us ++ ds)) := .cons rfl (r.append hd)
  have hl : (Value.ref (s.heap.objs.size + 1) :: us ++ ds).length = ps.length := by
    have e := r2.length
    rw [F.len _ _ _ _ hq] at e
    exact e.symm
  refine wpAny_call (make_map (f := f) I.kIn M.makes M.init (beq_iff_eq.mp M.fn) (codeAny_mono (F.run _ X.stack _ _ ⟨Value.ref (s.heap.objs.size + 1) :: us, []⟩ (Value.ref (s.heap.objs.size + 1) :: (us ++ ds)) _ _ E (hr.make C us [])
    (I2.env0.make C us []) (hb _ (Value.ref (s.heap.objs.size + 1) :: us) I2.kIn hl) r2 hq) fun r s' hq' => ?_))
  cases r with
  | error e => exact hx pins _ _ e s' I2 hq'
  | ok fl =>
    cases fl with
    | ret u =>
      obtain ⟨v, H', I3, rv, ev, q3⟩ := I2.after hq'
      subst ev
      exact ⟨rv, ⟨V.ref (s.heap.objs.size + 1), H', I3, rfl, q3⟩⟩
    | next => exact False.elim hq'
    | brk => exact False.elim hq'
    | cont => exact False.elim hq'
theorem pe_makeS {E : L2.St → XK} (M : L2.Mk X.K C f) (F : FnOk X.prog X.w X.K X.mg X.base CX k f fd ps sp) (hr : Room (k + 1) X.A) (hg : Gl X x) (hm : X.mg x = some (.ref C)) (hb : Binds X.K fd ps ds) (hd : Vals dvs ds) (hx : ∀ σ, PassesAt CX X σ (E σ))
    (ha : PA X (e :: es) t) (hdb : (x == ("__debug__" : Str)) = false := by decide) (he : starEach (e :: es) X.env = (false, eval e X.env) :: starEach es X.env := by rfl) (hpl : (backTo pos (starEach es X.env)).any (·.1) = false := by rfl) :
    PE X (.Call (.Name x p) (e :: es) [] pos) (tMakeS C sp dvs E t) := by
  refine ⟨fun pins s σ H Q I h => ?_⟩
  refine wpAny_Call_Name_kw (ld_glob I hg hm ?_ hdb)
  refine PySem.W.callWith_K (h₀ := X.base) I.ok.mod.kin M.kp (thn (ha.run pos pins s σ H _ I h) fun us s1 ⟨vs, H1, I1, r, q⟩ => ⟨I1.kIn, ?_⟩) he hpl
  exact run_makeS M F hr hb hd (hx σ) I1 r q
end
section
variable {X : Cx} {K : PySem.W.Frag}
/-- repr, its row's part of the module named: within a suite -/
theorem call_reprVK (hK : X.K = K) (gd : X.A.guards = some []) (hu : X.A.units + 200 < cLine) : CallR X (.builtin "repr") (fun vs H Q => ∃ v d, vs = [v] ∧ Dp K H v d ∧ d.showable = true ∧ d.hasDict = false ∧ d.depth ≤ 64 ∧ d.shown.length ≤ sizeLine ∧ Q (.str d.shown) H) := by
  subst hK
  exact call_reprV gd hu
end
section
variable {X : Cx} {K : PySem.W.Frag}
/-- t != u, two tuples of the same plain items, whatever their texts hold -/
def rNeSm (K : PySem.W.Frag) : R2 := fun x y H Q => ∃ a b xs, x = .ref a ∧ y = .ref b ∧ SqT K H a xs ∧ SqT K H b xs ∧ xs.all flatB = true ∧ Q (.bl false) H
theorem op_neSm (hK : X.K = K) (hu : X.A.units < cLine) : OpR X (compareOp .NotEq) (rNeSm K) := by
  subst hK
  intro pins s σ H x y v u Q I rx ry h
  obtain ⟨a, b, xs, rfl, rfl, ha, hb, hf, q⟩ := h
  cases (show v = Value.ref a from rx)
  cases (show u = Value.ref b from ry)
  obtain ⟨us, r1, p1, _⟩ := I.tuple ha
  obtain ⟨ws, r2, p2, _⟩ := I.tuple hb
  have l1 := r1.length
  have l2 := r2.length
  have k := SeqAt.RcNeAt.tuples (A := X.A) (e := fun _ => true) p1 p2 hu (fun j h1 h2 => by
    have hj1 : j < us.length := by simpa using h1
    have hj2 : j < ws.length := by simpa using h2
    have hx : xs[j]? = some (xs[j]'(by omega)) := List.getElem?_eq_getElem _
    have e1 := r1.get hx
    have e2 := r2.get hx
    obtain ⟨u1, g1, q1⟩ := e1
    obtain ⟨u2, g2, q2⟩ := e2
    rw [List.getElem?_eq_getElem hj1] at g1
    rw [List.getElem?_eq_getElem hj2] at g2
    cases g1
    cases g2
    have := eqAt_same (A := X.A.in1) (s := s) q1 q2 (List.all_eq_true.mp hf _ (List.getElem_mem _))
    simpa using this) X.prog X.w X.xe (fun z s' => EP X pins σ Q z s')
  refine k ?_
  have e : (!((List.range (min us.toArray.size ws.toArray.size)).all (fun _ => true) && us.toArray.size == ws.toArray.size)) = false := by
    have h1 : ((List.range (min us.toArray.size ws.toArray.size)).all fun _ => true) = true := List.all_eq_true.mpr fun _ _ => rfl
    rw [h1, List.size_toArray, List.size_toArray, ← l1, ← l2]
    simp
  rw [e]
  exact ⟨.bl false, H, I, rfl, q⟩
end
end D

/-! a bag and a row of data that stand together: what a law has drawn so far -/
namespace D
open PySem PySem.Spec PyProof.Rows L2
theorem RpAll.nth {M : Ms} {H : Hp} {vs : List V} {ds : List PyData} {v : V} {d : PyData} (h : RpAll M H vs ds) (i : Nat) (hv : vs[i]? = some v) (hd : ds[i]? = some d) : Rp M H v d := by
  obtain ⟨d', e, r⟩ := h.get hv
  rw [hd] at e
  cases e
  exact r
structure Ds (K : PySem.W.Frag) (M : Ms) (b : Addr) (H : Hp) (vs : List V) (ds : List PyData) : Prop where
  bag : Bag K M H b
  ok : Mk M H
  all : RpAll M H vs ds
namespace Ds
variable {K : PySem.W.Frag} {M : Ms} {b : Addr} {H H' : Hp} {vs us : List V} {ds es : List PyData} {v : V} {d : PyData} {p : Addr}
theorem same (E : Ds K M b H vs ds) (s : Same H H') : Ds K M b H' vs ds := ⟨E.bag.same s, E.ok.gr (Gr.same s), E.all.sx (Sx.same s)⟩
theorem push (E : Ds K M b H vs ds) (r : Rp M H v d) : Ds K M b H (v :: vs) (d :: ds) := ⟨E.bag, E.ok, .cons r E.all⟩
theorem step (E : Ds K M b H vs ds) (s : Sx (one b) H H') (g : Gr H H') (B : Bag K M H' b) : Ds K M b H' vs ds := ⟨B, E.ok.gr g, E.all.sx (s.le (one_le E.bag.w))⟩
theorem draw (E : Ds K M b H vs ds) (s : Sx (one b) H H') (g : Gr H H') (B : Bag K M H' b) (r : Rp M H' v d) : Ds K M b H' (v :: vs) (d :: ds) := (E.step s g B).push r
theorem pick (E : Ds K M b H vs ds) (hA : At b H H') (B : Bag K M H' b) : Ds K M b H' vs ds := E.step hA.sx (At.gr hA B.there) B
theorem tup (E : Ds K M b H vs ds) (hp : H p = none) (r : RpAll M H us es) : Ds K M b (upd H p (.tup us)) (.ref p :: vs) (.tuple es :: ds) := (E.same (same_new hp)).push (Rp.newT E.ok hp r)
theorem lst (E : Ds K M b H vs ds) (hp : H p = none) (r : RpAll M H us es) : Ds K M b (upd H p (.lst us)) (.ref p :: vs) (.list es :: ds) := (E.same (same_new hp)).push (Rp.newL E.ok hp r)
theorem new (E : Ds K M b H vs ds) (hp : H p = none) {o : HO} : Ds K M b (upd H p o) vs ds := E.same (same_new hp)
theorem at' (E : Ds K M b H vs ds) (i : Nat) (hv : vs[i]? = some v) (hd : ds[i]? = some d) : Rp M H v d := E.all.nth i hv hd
theorem tail (E : Ds K M b H (v :: vs) (d :: ds)) : Ds K M b H vs ds := ⟨E.bag, E.ok, by
  cases E.all with
  | cons _ r => exact r⟩
theorem cut (E : Ds K M b H vs ds) (n : Nat) : Ds K M b H (vs.take n) (ds.take n) := ⟨E.bag, E.ok, E.all.take n⟩
end Ds
end D

namespace D
open PySem PySem.Spec PyProof.Rows L2
local macro_rules | `(tactic| walk_at "st") => `(tactic| first | exact SqT.of (by assumption) | exact Or.inl (by assumption) | exact SqT.of upd_same | fail "st")
local macro_rules | `(tactic| walk_at "ixt") => `(tactic| refine ⟨_, _, _, _, rfl, rfl, (by walk_at "st" : SqT _ _ _ _), by rfl, ?_⟩)
local macro_rules | `(tactic| walk_at "sq") => `(tactic| first | exact SqL.of (by assumption) | assumption | exact Or.inl (by assumption) | exact SqL.of upd_same | fail "sq")
local macro_rules | `(tactic| walk_at "ix") => `(tactic| refine ⟨_, _, _, _, rfl, rfl, (by walk_at "sq" : SqL _ _ _ _), by rfl, ?_⟩)
local macro_rules | `(tactic| walk_at "set") => `(tactic| refine ⟨_, _, _, _, rfl, rfl, by first | assumption | exact upd_same, by rfl, ?_⟩)
local macro_rules | `(tactic| walk_at "len") => `(tactic| refine ⟨_, _, rfl, Or.inl (by walk_at "sq" : SqL _ _ _ _), ?_⟩)
local macro_rules | `(tactic| walk_at "g") => `(tactic| repeat (first | refine ⟨_, rfl, ?_⟩ | refine ⟨_, _, rfl, rfl, ?_⟩ | refine ⟨Or.inr (by decide), ?_⟩ | refine ⟨Or.inl (by decide), ?_⟩ | refine ⟨(by decide : (0 : Int) < _), ?_⟩ | refine ⟨(⟨by decide, by decide⟩ : CDiv _ _), ?_⟩ | refine ⟨(⟨by decide, by decide, by decide⟩ : CPow _ _), ?_⟩ | refine Or.inl ⟨_, rfl, ?_⟩ | refine ⟨rfl, ?_⟩ | walk_at "ix" | walk_at "ixt" | walk_at "len" | fail "g"))
local macro_rules | `(tactic| walk_at "if") => `(tactic| refine ite2 (fun e => ?_) (fun e => ?_))
def topS (i : Nat) : Stmt := PySem.Challenge.pw_drawnanew_k25_row_refusals.main.body.getD i (.Pass ⟨0, 0, 0, 0⟩)
abbrev s_BadForm___init__ : Stmt := inClass (topS 2) 0
theorem sc_BadForm___init__ : FnScope ["self", "part"] ["self", "part"] (defScope s_BadForm___init__) := ⟨rfl, rfl, rfl, by decide +kernel, rfl, by decide +kernel, by decide +kernel⟩
abbrev s_NoName___init__ : Stmt := inClass (topS 3) 0
theorem sc_NoName___init__ : FnScope ["self", "name"] ["self", "name"] (defScope s_NoName___init__) := ⟨rfl, rfl, rfl, by decide +kernel, rfl, by decide +kernel, by decide +kernel⟩
abbrev s_BadRow___init__ : Stmt := inClass (topS 4) 0
theorem sc_BadRow___init__ : FnScope ["self", "row"] ["self", "row"] (defScope s_BadRow___init__) := ⟨rfl, rfl, rfl, by decide +kernel, rfl, by decide +kernel, by decide +kernel⟩
abbrev s_NoItem___init__ : Stmt := inClass (topS 5) 0
theorem sc_NoItem___init__ : FnScope ["self", "item"] ["self", "item"] (defScope s_NoItem___init__) := ⟨rfl, rfl, rfl, by decide +kernel, rfl, by decide +kernel, by decide +kernel⟩
abbrev s_is_whole : Stmt := topS 10
theorem sc_is_whole : FnScope ["thing"] ["thing"] (defScope s_is_whole) := ⟨rfl, rfl, rfl, by decide +kernel, rfl, by decide +kernel, by decide +kernel⟩
abbrev s_is_value : Stmt := topS 11
theorem sc_is_value : FnScope ["thing"] ["thing"] (defScope s_is_value) := ⟨rfl, rfl, rfl, by decide +kernel, rfl, by decide +kernel, by decide +kernel⟩
abbrev s_is_name : Stmt := topS 12
theorem sc_is_name : FnScope ["thing", "sign"] ["thing"] (defScope s_is_name) := ⟨rfl, rfl, rfl, by decide +kernel, rfl, by decide +kernel, by decide +kernel⟩
abbrev s_inner_forms : Stmt := topS 13
theorem sc_inner_forms : FnScope ["form"] ["form"] (defScope s_inner_forms) := ⟨rfl, rfl, rfl, by decide +kernel, rfl, by decide +kernel, by decide +kernel⟩
abbrev s__well_made : Stmt := topS 14
theorem sc__well_made : FnScope ["part"] ["part"] (defScope s__well_made) := ⟨rfl, rfl, rfl, by decide +kernel, rfl, by decide +kernel, by decide +kernel⟩
abbrev s_check_form : Stmt := topS 15
theorem sc_check_form : FnScope ["parts", "deepest", "waiting", "part", "level", "inner", "form"] ["parts"] (defScope s_check_form) := ⟨rfl, rfl, rfl, by decide +kernel, rfl, by decide +kernel, by decide +kernel⟩
abbrev s_value_of : Stmt := topS 16
theorem sc_value_of : FnScope ["form", "values", "word", "first", "second"] ["form", "values"] (defScope s_value_of) := ⟨rfl, rfl, rfl, by decide +kernel, rfl, by decide +kernel, by decide +kernel⟩
abbrev s_names_in : Stmt := topS 17
theorem sc_names_in : FnScope ["form", "names", "inner", "name"] ["form"] (defScope s_names_in) := ⟨rfl, rfl, rfl, by decide +kernel, rfl, by decide +kernel, by decide +kernel⟩
abbrev s_is_row : Stmt := topS 20
theorem sc_is_row : FnScope ["thing", "item"] ["thing"] (defScope s_is_row) := ⟨rfl, rfl, rfl, by decide +kernel, rfl, by decide +kernel, by decide +kernel⟩
abbrev s_check_rows : Stmt := topS 21
theorem sc_check_rows : FnScope ["rows", "row"] ["rows"] (defScope s_check_rows) := ⟨rfl, rfl, rfl, by decide +kernel, rfl, by decide +kernel, by decide +kernel⟩
abbrev s__key_value : Stmt := topS 22
theorem sc__key_value : FnScope ["parts", "item", "at"] ["parts", "item", "at"] (defScope s__key_value) := ⟨rfl, rfl, rfl, by decide +kernel, rfl, by decide +kernel, by decide +kernel⟩
abbrev s_Key___init__ : Stmt := inClass (topS 23) 0
theorem sc_Key___init__ : FnScope ["self", "form", "name"] ["self", "form"] (defScope s_Key___init__) := ⟨rfl, rfl, rfl, by decide +kernel, rfl, by decide +kernel, by decide +kernel⟩
abbrev s_Key_parts : Stmt := inClass (topS 23) 1
theorem sc_Key_parts : FnScope ["self"] ["self"] (defScope s_Key_parts) := ⟨rfl, rfl, rfl, by decide +kernel, rfl, by decide +kernel, by decide +kernel⟩
abbrev s_Key___call__ : Stmt := inClass (topS 23) 2
theorem sc_Key___call__ : FnScope ["self", "item", "at"] ["self", "item", "at"] (defScope s_Key___call__) := ⟨rfl, rfl, rfl, by decide +kernel, rfl, by decide +kernel, by decide +kernel⟩
abbrev s_Key___le__ : Stmt := inClass (topS 23) 3
theorem sc_Key___le__ : FnScope ["self", "other", "values", "told", "item", "at", "first", "second"] ["self", "other"] (defScope s_Key___le__) := ⟨rfl, rfl, rfl, by decide +kernel, rfl, by decide +kernel, by decide +kernel⟩
abbrev s_Key_idents : Stmt := inClass (topS 23) 4
theorem sc_Key_idents : FnScope ["self", "row"] ["self", "row"] (defScope s_Key_idents) := ⟨rfl, rfl, rfl, by decide +kernel, rfl, by decide +kernel, by decide +kernel⟩
abbrev s__idents : Stmt := topS 24
theorem sc__idents : FnScope ["key", "row", "values", "at", "item", "value"] ["key", "row"] (defScope s__idents) := ⟨rfl, rfl, rfl, by decide +kernel, rfl, by decide +kernel, by decide +kernel⟩
abbrev s__matches : Stmt := topS 25
theorem sc__matches : FnScope ["before", "behind", "places", "place", "ident"] ["before", "behind"] (defScope s__matches) := ⟨rfl, rfl, rfl, by decide +kernel, rfl, by decide +kernel, by decide +kernel⟩
abbrev s__slipped : Stmt := topS 26
theorem sc__slipped : FnScope ["matches", "old", "new", "place", "at"] ["matches", "old", "new"] (defScope s__slipped) := ⟨rfl, rfl, rfl, by decide +kernel, rfl, by decide +kernel, by decide +kernel⟩
abbrev s__lost : Stmt := topS 27
theorem sc__lost : FnScope ["matches", "old", "new", "at", "item"] ["matches", "old", "new"] (defScope s__lost) := ⟨rfl, rfl, rfl, by decide +kernel, rfl, by decide +kernel, by decide +kernel⟩
abbrev s_matched : Stmt := topS 28
theorem sc_matched : FnScope ["key", "old", "new"] ["key", "old", "new"] (defScope s_matched) := ⟨rfl, rfl, rfl, by decide +kernel, rfl, by decide +kernel, by decide +kernel⟩
abbrev s_slips : Stmt := topS 29
theorem sc_slips : FnScope ["key", "old", "new"] ["key", "old", "new"] (defScope s_slips) := ⟨rfl, rfl, rfl, by decide +kernel, rfl, by decide +kernel, by decide +kernel⟩
abbrev s_losses : Stmt := topS 30
theorem sc_losses : FnScope ["key", "old", "new"] ["key", "old", "new"] (defScope s_losses) := ⟨rfl, rfl, rfl, by decide +kernel, rfl, by decide +kernel, by decide +kernel⟩
abbrev s__first_parted : Stmt := topS 31
theorem sc__first_parted : FnScope ["pairs", "idents", "old", "new", "matches"] ["pairs", "idents"] (defScope s__first_parted) := ⟨rfl, rfl, rfl, by decide +kernel, rfl, by decide +kernel, by decide +kernel⟩
abbrev s_faithful : Stmt := topS 32
theorem sc_faithful : FnScope ["key", "menu", "pairs", "old", "new", "row"] ["key", "menu"] (defScope s_faithful) := ⟨rfl, rfl, rfl, by decide +kernel, rfl, by decide +kernel, by decide +kernel⟩
abbrev s__is_beneath : Stmt := topS 33
theorem sc__is_beneath : FnScope ["first", "second"] ["first", "second"] (defScope s__is_beneath) := ⟨rfl, rfl, rfl, by decide +kernel, rfl, by decide +kernel, by decide +kernel⟩
abbrev s_coarsest : Stmt := topS 34
theorem sc_coarsest : FnScope ["keys", "menu", "places", "place", "key", "other"] ["keys", "menu"] (defScope s_coarsest) := ⟨rfl, rfl, rfl, by decide +kernel, rfl, by decide +kernel, by decide +kernel⟩
abbrev s__law_mixed : Stmt := topS 36
theorem sc__law_mixed : FnScope ["_law_number", "_law_turn", "_law_first", "_law_second"] ["_law_number", "_law_turn"] (defScope s__law_mixed) := ⟨rfl, rfl, rfl, by decide +kernel, rfl, by decide +kernel, by decide +kernel⟩
abbrev s__law_bag : Stmt := topS 37
theorem sc__law_bag : FnScope ["_law_script", "_law_cell", "_law_numbers", "_law_seed", "_law_at"] ["_law_script"] (defScope s__law_bag) := ⟨rfl, rfl, rfl, by decide +kernel, rfl, by decide +kernel, by decide +kernel⟩
abbrev s__law_pick : Stmt := topS 38
theorem sc__law_pick : FnScope ["_law_bag_here", "_law_many", "_law_turn", "_law_cell", "_law_worth"] ["_law_bag_here", "_law_many"] (defScope s__law_pick) := ⟨rfl, rfl, rfl, by decide +kernel, rfl, by decide +kernel, by decide +kernel⟩
abbrev s__law_choice : Stmt := topS 39
theorem sc__law_choice : FnScope ["_law_bag_here", "_law_things"] ["_law_bag_here", "_law_things"] (defScope s__law_choice) := ⟨rfl, rfl, rfl, by decide +kernel, rfl, by decide +kernel, by decide +kernel⟩
abbrev s__law_mingled : Stmt := topS 40
theorem sc__law_mingled : FnScope ["_law_bag_here", "_law_things", "_law_left", "_law_out", "_law_step"] ["_law_bag_here", "_law_things"] (defScope s__law_mingled) := ⟨rfl, rfl, rfl, by decide +kernel, rfl, by decide +kernel, by decide +kernel⟩
abbrev s__law_form : Stmt := topS 41
theorem sc__law_form : FnScope ["_law_bag_here", "_law_readable", "_law_levels", "_law_way", "_law_first", "_law_second"] ["_law_bag_here", "_law_readable", "_law_levels"] (defScope s__law_form) := ⟨rfl, rfl, rfl, by decide +kernel, rfl, by decide +kernel, by decide +kernel⟩
abbrev s__law_row : Stmt := topS 42
theorem sc__law_row : FnScope ["_law_bag_here", "_law_most", "_law_items"] ["_law_bag_here", "_law_most"] (defScope s__law_row) := ⟨rfl, rfl, rfl, by decide +kernel, rfl, by decide +kernel, by decide +kernel⟩
abbrev s__law_new_name : Stmt := topS 43
theorem sc__law_new_name : FnScope ["_law_bag_here", "_law_used", "_law_letters", "_law_told", "_law_near", "_law_at", "_law_tails", "_law_step", "_law_k", "_law_tail"] ["_law_bag_here", "_law_used"] (defScope s__law_new_name) := ⟨rfl, rfl, rfl, by decide +kernel, rfl, by decide +kernel, by decide +kernel⟩
abbrev s__law_read : Stmt := topS 44
theorem sc__law_read : FnScope ["_law_form_here", "_law_out", "_law_part", "_law_told"] ["_law_form_here"] (defScope s__law_read) := ⟨rfl, rfl, rfl, by decide +kernel, rfl, by decide +kernel, by decide +kernel⟩
abbrev s__law_any_key : Stmt := topS 45
theorem sc__law_any_key : FnScope ["_law_bag_here", "_law_way", "_law_worth", "_law_spot", "_law_item"] ["_law_bag_here"] (defScope s__law_any_key) := ⟨rfl, rfl, rfl, by decide +kernel, rfl, by decide +kernel, by decide +kernel⟩
abbrev s__law_odd_part : Stmt := topS 46
theorem sc__law_odd_part : FnScope ["_law_bag_here", "_law_good", "_law_odd"] ["_law_bag_here", "_law_good"] (defScope s__law_odd_part) := ⟨rfl, rfl, rfl, by decide +kernel, rfl, by decide +kernel, by decide +kernel⟩
abbrev s__law_spoilt : Stmt := topS 47
theorem sc__law_spoilt : FnScope ["_law_bag_here", "_law_form_here", "_law_odd", "_law_at"] ["_law_bag_here", "_law_form_here", "_law_odd"] (defScope s__law_spoilt) := ⟨rfl, rfl, rfl, by decide +kernel, rfl, by decide +kernel, by decide +kernel⟩
abbrev s__law_tower : Stmt := topS 48
theorem sc__law_tower : FnScope ["_law_bag_here", "_law_levels", "_law_readable", "_law_form_here", "_law_step", "_law_leaf", "_law_ways"] ["_law_bag_here", "_law_levels", "_law_readable"] (defScope s__law_tower) := ⟨rfl, rfl, rfl, by decide +kernel, rfl, by decide +kernel, by decide +kernel⟩
abbrev s__law_key_told : Stmt := topS 49
theorem sc__law_key_told : FnScope ["_law_form_here", "_law_key", "e"] ["_law_form_here"] (defScope s__law_key_told) := ⟨rfl, rfl, rfl, by decide +kernel, rfl, by decide +kernel, by decide +kernel⟩
abbrev s__law_forms_refused : Stmt := topS 50
theorem sc__law_forms_refused : FnScope ["_law_bag_here", "_law_used", "_law_foreign", "_law_good", "_law_odd", "_law_spoilt_here", "_law_mixed_here", "_law_strange", "_law_due", "_law_level", "_law_high", "_law_behind", "_law_wanted", "_law_form_here", "_law_result", "_law_told"] ["_law_bag_here"] (defScope s__law_forms_refused) := ⟨rfl, rfl, rfl, by decide +kernel, rfl, by decide +kernel, by decide +kernel⟩
abbrev s__law_some_row : Stmt := topS 51
theorem sc__law_some_row : FnScope ["_law_bag_here", "_law_way"] ["_law_bag_here"] (defScope s__law_some_row) := ⟨rfl, rfl, rfl, by decide +kernel, rfl, by decide +kernel, by decide +kernel⟩
abbrev s__law_bad_row : Stmt := topS 52
theorem sc__law_bad_row : FnScope ["_law_bag_here", "_law_row_here", "_law_way", "_law_items", "_law_odd"] ["_law_bag_here", "_law_row_here"] (defScope s__law_bad_row) := ⟨rfl, rfl, rfl, by decide +kernel, rfl, by decide +kernel, by decide +kernel⟩
abbrev s__law_called : Stmt := topS 53
theorem sc__law_called : FnScope ["_law_which", "_law_key", "_law_many", "_law_rows"] ["_law_which", "_law_key", "_law_many", "_law_rows"] (defScope s__law_called) := ⟨rfl, rfl, rfl, by decide +kernel, rfl, by decide +kernel, by decide +kernel⟩
abbrev s__law_row_told : Stmt := topS 54
theorem sc__law_row_told : FnScope ["_law_which", "_law_key", "_law_many", "_law_rows", "e"] ["_law_which", "_law_key", "_law_many", "_law_rows"] (defScope s__law_row_told) := ⟨rfl, rfl, rfl, by decide +kernel, rfl, by decide +kernel, by decide +kernel⟩
abbrev s_law : Stmt := topS 55
theorem sc_law : FnScope ["_law_script", "_law_bag_here", "_law_key", "_law_many", "_law_which", "_law_count", "_law_rows", "_law_bad", "_law_at", "_law_step"] ["_law_script"] (defScope s_law) := ⟨rfl, rfl, rfl, by decide +kernel, rfl, by decide +kernel, by decide +kernel⟩

structure Txt (K : PySem.W.Frag) (mg : Str → Option Value) where
  f_is_whole : Addr
  d_is_whole : FuncData
  F_is_whole : Fun K "is_whole" "is_whole" s_is_whole f_is_whole d_is_whole
  b_is_whole : Binds K d_is_whole ["thing"] []
  g_is_whole : mg "is_whole" = some (.ref f_is_whole)
  f_is_value : Addr
  d_is_value : FuncData
  F_is_value : Fun K "is_value" "is_value" s_is_value f_is_value d_is_value
  b_is_value : Binds K d_is_value ["thing"] []
  g_is_value : mg "is_value" = some (.ref f_is_value)
  f_is_name : Addr
  d_is_name : FuncData
  F_is_name : Fun K "is_name" "is_name" s_is_name f_is_name d_is_name
  b_is_name : Binds K d_is_name ["thing"] []
  g_is_name : mg "is_name" = some (.ref f_is_name)
  f_inner_forms : Addr
  d_inner_forms : FuncData
  F_inner_forms : Fun K "inner_forms" "inner_forms" s_inner_forms f_inner_forms d_inner_forms
  b_inner_forms : Binds K d_inner_forms ["form"] []
  g_inner_forms : mg "inner_forms" = some (.ref f_inner_forms)
  f__well_made : Addr
  d__well_made : FuncData
  F__well_made : Fun K "_well_made" "_well_made" s__well_made f__well_made d__well_made
  b__well_made : Binds K d__well_made ["part"] []
  g__well_made : mg "_well_made" = some (.ref f__well_made)
  f_check_form : Addr
  d_check_form : FuncData
  F_check_form : Fun K "check_form" "check_form" s_check_form f_check_form d_check_form
  b_check_form : Binds K d_check_form ["parts"] []
  g_check_form : mg "check_form" = some (.ref f_check_form)
  f_value_of : Addr
  d_value_of : FuncData
  F_value_of : Fun K "value_of" "value_of" s_value_of f_value_of d_value_of
  b_value_of : Binds K d_value_of ["form", "values"] []
  g_value_of : mg "value_of" = some (.ref f_value_of)
  f_names_in : Addr
  d_names_in : FuncData
  F_names_in : Fun K "names_in" "names_in" s_names_in f_names_in d_names_in
  b_names_in : Binds K d_names_in ["form"] []
  g_names_in : mg "names_in" = some (.ref f_names_in)
  f_is_row : Addr
  d_is_row : FuncData
  F_is_row : Fun K "is_row" "is_row" s_is_row f_is_row d_is_row
  b_is_row : Binds K d_is_row ["thing"] []
  g_is_row : mg "is_row" = some (.ref f_is_row)
  f_check_rows : Addr
  d_check_rows : FuncData
  F_check_rows : Fun K "check_rows" "check_rows" s_check_rows f_check_rows d_check_rows
  b_check_rows : Binds K d_check_rows ["rows"] []
  g_check_rows : mg "check_rows" = some (.ref f_check_rows)
  f__key_value : Addr
  d__key_value : FuncData
  F__key_value : Fun K "_key_value" "_key_value" s__key_value f__key_value d__key_value
  b__key_value : Binds K d__key_value ["parts", "item", "at"] []
  g__key_value : mg "_key_value" = some (.ref f__key_value)
  f__idents : Addr
  d__idents : FuncData
  F__idents : Fun K "_idents" "_idents" s__idents f__idents d__idents
  b__idents : Binds K d__idents ["key", "row"] []
  g__idents : mg "_idents" = some (.ref f__idents)
  f__matches : Addr
  d__matches : FuncData
  F__matches : Fun K "_matches" "_matches" s__matches f__matches d__matches
  b__matches : Binds K d__matches ["before", "behind"] []
  g__matches : mg "_matches" = some (.ref f__matches)
  f__slipped : Addr
  d__slipped : FuncData
  F__slipped : Fun K "_slipped" "_slipped" s__slipped f__slipped d__slipped
  b__slipped : Binds K d__slipped ["matches", "old", "new"] []
  g__slipped : mg "_slipped" = some (.ref f__slipped)
  f__lost : Addr
  d__lost : FuncData
  F__lost : Fun K "_lost" "_lost" s__lost f__lost d__lost
  b__lost : Binds K d__lost ["matches", "old", "new"] []
  g__lost : mg "_lost" = some (.ref f__lost)
  f_matched : Addr
  d_matched : FuncData
  F_matched : Fun K "matched" "matched" s_matched f_matched d_matched
  b_matched : Binds K d_matched ["key", "old", "new"] []
  g_matched : mg "matched" = some (.ref f_matched)
  f_slips : Addr
  d_slips : FuncData
  F_slips : Fun K "slips" "slips" s_slips f_slips d_slips
  b_slips : Binds K d_slips ["key", "old", "new"] []
  g_slips : mg "slips" = some (.ref f_slips)
  f_losses : Addr
  d_losses : FuncData
  F_losses : Fun K "losses" "losses" s_losses f_losses d_losses
  b_losses : Binds K d_losses ["key", "old", "new"] []
  g_losses : mg "losses" = some (.ref f_losses)
  f__first_parted : Addr
  d__first_parted : FuncData
  F__first_parted : Fun K "_first_parted" "_first_parted" s__first_parted f__first_parted d__first_parted
  b__first_parted : Binds K d__first_parted ["pairs", "idents"] []
  g__first_parted : mg "_first_parted" = some (.ref f__first_parted)
  f_faithful : Addr
  d_faithful : FuncData
  F_faithful : Fun K "faithful" "faithful" s_faithful f_faithful d_faithful
  b_faithful : Binds K d_faithful ["key", "menu"] []
  g_faithful : mg "faithful" = some (.ref f_faithful)
  f__is_beneath : Addr
  d__is_beneath : FuncData
  F__is_beneath : Fun K "_is_beneath" "_is_beneath" s__is_beneath f__is_beneath d__is_beneath
  b__is_beneath : Binds K d__is_beneath ["first", "second"] []
  g__is_beneath : mg "_is_beneath" = some (.ref f__is_beneath)
  f_coarsest : Addr
  d_coarsest : FuncData
  F_coarsest : Fun K "coarsest" "coarsest" s_coarsest f_coarsest d_coarsest
  b_coarsest : Binds K d_coarsest ["keys", "menu"] []
  g_coarsest : mg "coarsest" = some (.ref f_coarsest)
  f__law_mixed : Addr
  d__law_mixed : FuncData
  F__law_mixed : Fun K "_law_mixed" "_law_mixed" s__law_mixed f__law_mixed d__law_mixed
  b__law_mixed : Binds K d__law_mixed ["_law_number", "_law_turn"] []
  g__law_mixed : mg "_law_mixed" = some (.ref f__law_mixed)
  f__law_bag : Addr
  d__law_bag : FuncData
  F__law_bag : Fun K "_law_bag" "_law_bag" s__law_bag f__law_bag d__law_bag
  b__law_bag : Binds K d__law_bag ["_law_script"] []
  g__law_bag : mg "_law_bag" = some (.ref f__law_bag)
  f__law_pick : Addr
  d__law_pick : FuncData
  F__law_pick : Fun K "_law_pick" "_law_pick" s__law_pick f__law_pick d__law_pick
  b__law_pick : Binds K d__law_pick ["_law_bag_here", "_law_many"] []
  g__law_pick : mg "_law_pick" = some (.ref f__law_pick)
  f__law_choice : Addr
  d__law_choice : FuncData
  F__law_choice : Fun K "_law_choice" "_law_choice" s__law_choice f__law_choice d__law_choice
  b__law_choice : Binds K d__law_choice ["_law_bag_here", "_law_things"] []
  g__law_choice : mg "_law_choice" = some (.ref f__law_choice)
  f__law_mingled : Addr
  d__law_mingled : FuncData
  F__law_mingled : Fun K "_law_mingled" "_law_mingled" s__law_mingled f__law_mingled d__law_mingled
  b__law_mingled : Binds K d__law_mingled ["_law_bag_here", "_law_things"] []
  g__law_mingled : mg "_law_mingled" = some (.ref f__law_mingled)
  f__law_form : Addr
  d__law_form : FuncData
  F__law_form : Fun K "_law_form" "_law_form" s__law_form f__law_form d__law_form
  b__law_form : Binds K d__law_form ["_law_bag_here", "_law_readable", "_law_levels"] []
  g__law_form : mg "_law_form" = some (.ref f__law_form)
  f__law_row : Addr
  d__law_row : FuncData
  F__law_row : Fun K "_law_row" "_law_row" s__law_row f__law_row d__law_row
  b__law_row : Binds K d__law_row ["_law_bag_here", "_law_most"] []
  g__law_row : mg "_law_row" = some (.ref f__law_row)
  f__law_new_name : Addr
  d__law_new_name : FuncData
  F__law_new_name : Fun K "_law_new_name" "_law_new_name" s__law_new_name f__law_new_name d__law_new_name
  b__law_new_name : Binds K d__law_new_name ["_law_bag_here", "_law_used"] []
  g__law_new_name : mg "_law_new_name" = some (.ref f__law_new_name)
  f__law_read : Addr
  d__law_read : FuncData
  F__law_read : Fun K "_law_read" "_law_read" s__law_read f__law_read d__law_read
  b__law_read : Binds K d__law_read ["_law_form_here"] []
  g__law_read : mg "_law_read" = some (.ref f__law_read)
  f__law_any_key : Addr
  d__law_any_key : FuncData
  F__law_any_key : Fun K "_law_any_key" "_law_any_key" s__law_any_key f__law_any_key d__law_any_key
  b__law_any_key : Binds K d__law_any_key ["_law_bag_here"] []
  g__law_any_key : mg "_law_any_key" = some (.ref f__law_any_key)
  f__law_odd_part : Addr
  d__law_odd_part : FuncData
  F__law_odd_part : Fun K "_law_odd_part" "_law_odd_part" s__law_odd_part f__law_odd_part d__law_odd_part
  b__law_odd_part : Binds K d__law_odd_part ["_law_bag_here", "_law_good"] []
  g__law_odd_part : mg "_law_odd_part" = some (.ref f__law_odd_part)
  f__law_spoilt : Addr
  d__law_spoilt : FuncData
  F__law_spoilt : Fun K "_law_spoilt" "_law_spoilt" s__law_spoilt f__law_spoilt d__law_spoilt
  b__law_spoilt : Binds K d__law_spoilt ["_law_bag_here", "_law_form_here", "_law_odd"] []
  g__law_spoilt : mg "_law_spoilt" = some (.ref f__law_spoilt)
  f__law_tower : Addr
  d__law_tower : FuncData
  F__law_tower : Fun K "_law_tower" "_law_tower" s__law_tower f__law_tower d__law_tower
  b__law_tower : Binds K d__law_tower ["_law_bag_here", "_law_levels", "_law_readable"] []
  g__law_tower : mg "_law_tower" = some (.ref f__law_tower)
  f__law_key_told : Addr
  d__law_key_told : FuncData
  F__law_key_told : Fun K "_law_key_told" "_law_key_told" s__law_key_told f__law_key_told d__law_key_told
  b__law_key_told : Binds K d__law_key_told ["_law_form_here"] []
  g__law_key_told : mg "_law_key_told" = some (.ref f__law_key_told)
  f__law_forms_refused : Addr
  d__law_forms_refused : FuncData
  F__law_forms_refused : Fun K "_law_forms_refused" "_law_forms_refused" s__law_forms_refused f__law_forms_refused d__law_forms_refused
  b__law_forms_refused : Binds K d__law_forms_refused ["_law_bag_here"] []
  g__law_forms_refused : mg "_law_forms_refused" = some (.ref f__law_forms_refused)
  f__law_some_row : Addr
  d__law_some_row : FuncData
  F__law_some_row : Fun K "_law_some_row" "_law_some_row" s__law_some_row f__law_some_row d__law_some_row
  b__law_some_row : Binds K d__law_some_row ["_law_bag_here"] []
  g__law_some_row : mg "_law_some_row" = some (.ref f__law_some_row)
  f__law_bad_row : Addr
  d__law_bad_row : FuncData
  F__law_bad_row : Fun K "_law_bad_row" "_law_bad_row" s__law_bad_row f__law_bad_row d__law_bad_row
  b__law_bad_row : Binds K d__law_bad_row ["_law_bag_here", "_law_row_here"] []
  g__law_bad_row : mg "_law_bad_row" = some (.ref f__law_bad_row)
  f__law_called : Addr
  d__law_called : FuncData
  F__law_called : Fun K "_law_called" "_law_called" s__law_called f__law_called d__law_called
  b__law_called : Binds K d__law_called ["_law_which", "_law_key", "_law_many", "_law_rows"] []
  g__law_called : mg "_law_called" = some (.ref f__law_called)
  f__law_row_told : Addr
  d__law_row_told : FuncData
  F__law_row_told : Fun K "_law_row_told" "_law_row_told" s__law_row_told f__law_row_told d__law_row_told
  b__law_row_told : Binds K d__law_row_told ["_law_which", "_law_key", "_law_many", "_law_rows"] []
  g__law_row_told : mg "_law_row_told" = some (.ref f__law_row_told)
  f_law : Addr
  d_law : FuncData
  F_law : Fun K "law" "law" s_law f_law d_law
  b_law : Binds K d_law ["_law_script"] []
  g_law : mg "law" = some (.ref f_law)
  C_Key : Addr
  g_Key : mg "Key" = some (.ref C_Key)
  cl_Key : Cls K C_Key
  mk_Key : PySem.W.makesIn K C_Key = true
  kc_Key : PySem.W.keepIn K (.ref C_Key) = true
  nf_Key : PySem.W.notFirst K C_Key (.ref C_Key) = true
  in_Key : C8.InsC K C_Key
  nA_Key__parts : NoAttr K C_Key "_parts"
  f_Key___init__ : Addr
  d_Key___init__ : FuncData
  F_Key___init__ : Fun K "__init__" "Key.__init__" s_Key___init__ f_Key___init__ d_Key___init__
  b_Key___init__ : Binds K d_Key___init__ ["self", "form"] []
  a_Key___init__ : PySem.W.findIn K (.ref C_Key) "__init__" = some (some (.ref f_Key___init__))
  i_Key___init__ : PySem.W.isFn K (.ref f_Key___init__) = true
  n_Key___init__ : PySem.W.fnIn K f_Key___init__ = true
  f_Key_parts : Addr
  d_Key_parts : FuncData
  F_Key_parts : Fun K "parts" "Key.parts" s_Key_parts f_Key_parts d_Key_parts
  b_Key_parts : Binds K d_Key_parts ["self"] []
  p_Key_parts : Addr
  P_Key_parts : PropOf K C_Key "parts" p_Key_parts f_Key_parts
  f_Key___call__ : Addr
  d_Key___call__ : FuncData
  F_Key___call__ : Fun K "__call__" "Key.__call__" s_Key___call__ f_Key___call__ d_Key___call__
  b_Key___call__ : Binds K d_Key___call__ ["self", "item", "at"] []
  a_Key___call__ : PySem.W.findIn K (.ref C_Key) "__call__" = some (some (.ref f_Key___call__))
  i_Key___call__ : PySem.W.isFn K (.ref f_Key___call__) = true
  n_Key___call__ : PySem.W.fnIn K f_Key___call__ = true
  f_Key___le__ : Addr
  d_Key___le__ : FuncData
  F_Key___le__ : Fun K "__le__" "Key.__le__" s_Key___le__ f_Key___le__ d_Key___le__
  b_Key___le__ : Binds K d_Key___le__ ["self", "other"] []
  a_Key___le__ : PySem.W.findIn K (.ref C_Key) "__le__" = some (some (.ref f_Key___le__))
  i_Key___le__ : PySem.W.isFn K (.ref f_Key___le__) = true
  n_Key___le__ : PySem.W.fnIn K f_Key___le__ = true
  f_Key_idents : Addr
  d_Key_idents : FuncData
  F_Key_idents : Fun K "idents" "Key.idents" s_Key_idents f_Key_idents d_Key_idents
  b_Key_idents : Binds K d_Key_idents ["self", "row"] []
  a_Key_idents : PySem.W.findIn K (.ref C_Key) "idents" = some (some (.ref f_Key_idents))
  i_Key_idents : PySem.W.isFn K (.ref f_Key_idents) = true
  n_Key_idents : PySem.W.fnIn K f_Key_idents = true
  C_ScreenError : Addr
  g_ScreenError : mg "ScreenError" = some (.ref C_ScreenError)
  hd_ScreenError : PySem.W.hasDictIn K C_ScreenError = true
  ty_ScreenError : PySem.W.typeIn K (.ref C_ScreenError) = some (.type "type")
  be_ScreenError : PySem.W.subIn K (.ref C_ScreenError) (.type "BaseException") = some true
  vb_ScreenError : PySem.W.subIn K (.ref C_ScreenError) (.type "ValueError") = some true
  C_BadForm : Addr
  g_BadForm : mg "BadForm" = some (.ref C_BadForm)
  hd_BadForm : PySem.W.hasDictIn K C_BadForm = true
  ty_BadForm : PySem.W.typeIn K (.ref C_BadForm) = some (.type "type")
  be_BadForm : PySem.W.subIn K (.ref C_BadForm) (.type "BaseException") = some true
  vb_BadForm : PySem.W.subIn K (.ref C_BadForm) (.type "ValueError") = some true
  ox_BadForm : OexC K C_BadForm
  xf_BadForm : XfC K C_BadForm
  is_BadForm : ExcC K C_BadForm
  f_BadForm___init__ : Addr
  d_BadForm___init__ : FuncData
  F_BadForm___init__ : Fun K "__init__" "BadForm.__init__" s_BadForm___init__ f_BadForm___init__ d_BadForm___init__
  b_BadForm___init__ : Binds K d_BadForm___init__ ["self", "part"] []
  iC_BadForm : PySem.W.findIn K (.ref C_BadForm) "__init__" = some (some (.ref f_BadForm___init__))
  tI_BadForm : PySem.W.typeIn K (.ref f_BadForm___init__) = some (.type "function")
  nf_BadForm_part : PySem.W.findIn K (.ref C_BadForm) "part" = some none
  C_NoName : Addr
  g_NoName : mg "NoName" = some (.ref C_NoName)
  hd_NoName : PySem.W.hasDictIn K C_NoName = true
  ty_NoName : PySem.W.typeIn K (.ref C_NoName) = some (.type "type")
  be_NoName : PySem.W.subIn K (.ref C_NoName) (.type "BaseException") = some true
  vb_NoName : PySem.W.subIn K (.ref C_NoName) (.type "ValueError") = some true
  ox_NoName : OexC K C_NoName
  xf_NoName : XfC K C_NoName
  is_NoName : ExcC K C_NoName
  f_NoName___init__ : Addr
  d_NoName___init__ : FuncData
  F_NoName___init__ : Fun K "__init__" "NoName.__init__" s_NoName___init__ f_NoName___init__ d_NoName___init__
  b_NoName___init__ : Binds K d_NoName___init__ ["self", "name"] []
  iC_NoName : PySem.W.findIn K (.ref C_NoName) "__init__" = some (some (.ref f_NoName___init__))
  tI_NoName : PySem.W.typeIn K (.ref f_NoName___init__) = some (.type "function")
  nf_NoName_name : PySem.W.findIn K (.ref C_NoName) "name" = some none
  C_BadRow : Addr
  g_BadRow : mg "BadRow" = some (.ref C_BadRow)
  hd_BadRow : PySem.W.hasDictIn K C_BadRow = true
  ty_BadRow : PySem.W.typeIn K (.ref C_BadRow) = some (.type "type")
  be_BadRow : PySem.W.subIn K (.ref C_BadRow) (.type "BaseException") = some true
  vb_BadRow : PySem.W.subIn K (.ref C_BadRow) (.type "ValueError") = some true
  ox_BadRow : OexC K C_BadRow
  xf_BadRow : XfC K C_BadRow
  is_BadRow : ExcC K C_BadRow
  f_BadRow___init__ : Addr
  d_BadRow___init__ : FuncData
  F_BadRow___init__ : Fun K "__init__" "BadRow.__init__" s_BadRow___init__ f_BadRow___init__ d_BadRow___init__
  b_BadRow___init__ : Binds K d_BadRow___init__ ["self", "row"] []
  iC_BadRow : PySem.W.findIn K (.ref C_BadRow) "__init__" = some (some (.ref f_BadRow___init__))
  tI_BadRow : PySem.W.typeIn K (.ref f_BadRow___init__) = some (.type "function")
  nf_BadRow_row : PySem.W.findIn K (.ref C_BadRow) "row" = some none
  C_NoItem : Addr
  g_NoItem : mg "NoItem" = some (.ref C_NoItem)
  hd_NoItem : PySem.W.hasDictIn K C_NoItem = true
  ty_NoItem : PySem.W.typeIn K (.ref C_NoItem) = some (.type "type")
  be_NoItem : PySem.W.subIn K (.ref C_NoItem) (.type "BaseException") = some true
  vb_NoItem : PySem.W.subIn K (.ref C_NoItem) (.type "ValueError") = some true
  ox_NoItem : OexC K C_NoItem
  xf_NoItem : XfC K C_NoItem
  is_NoItem : ExcC K C_NoItem
  f_NoItem___init__ : Addr
  d_NoItem___init__ : FuncData
  F_NoItem___init__ : Fun K "__init__" "NoItem.__init__" s_NoItem___init__ f_NoItem___init__ d_NoItem___init__
  b_NoItem___init__ : Binds K d_NoItem___init__ ["self", "item"] []
  iC_NoItem : PySem.W.findIn K (.ref C_NoItem) "__init__" = some (some (.ref f_NoItem___init__))
  tI_NoItem : PySem.W.typeIn K (.ref f_NoItem___init__) = some (.type "function")
  nf_NoItem_item : PySem.W.findIn K (.ref C_NoItem) "item" = some none
  ne_BadForm_ScreenError : C_BadForm ≠ C_ScreenError
  s_BadForm_ScreenError : PySem.W.subIn K (.ref C_BadForm) (.ref C_ScreenError) = some true
  ne_BadForm_NoName : C_BadForm ≠ C_NoName
  s_BadForm_NoName : PySem.W.subIn K (.ref C_BadForm) (.ref C_NoName) = some false
  ne_BadForm_BadRow : C_BadForm ≠ C_BadRow
  s_BadForm_BadRow : PySem.W.subIn K (.ref C_BadForm) (.ref C_BadRow) = some false
  ne_BadForm_NoItem : C_BadForm ≠ C_NoItem
  s_BadForm_NoItem : PySem.W.subIn K (.ref C_BadForm) (.ref C_NoItem) = some false
  ne_NoName_ScreenError : C_NoName ≠ C_ScreenError
  s_NoName_ScreenError : PySem.W.subIn K (.ref C_NoName) (.ref C_ScreenError) = some true
  ne_NoName_BadForm : C_NoName ≠ C_BadForm
  s_NoName_BadForm : PySem.W.subIn K (.ref C_NoName) (.ref C_BadForm) = some false
  ne_NoName_BadRow : C_NoName ≠ C_BadRow
  s_NoName_BadRow : PySem.W.subIn K (.ref C_NoName) (.ref C_BadRow) = some false
  ne_NoName_NoItem : C_NoName ≠ C_NoItem
  s_NoName_NoItem : PySem.W.subIn K (.ref C_NoName) (.ref C_NoItem) = some false
  ne_BadRow_ScreenError : C_BadRow ≠ C_ScreenError
  s_BadRow_ScreenError : PySem.W.subIn K (.ref C_BadRow) (.ref C_ScreenError) = some true
  ne_BadRow_BadForm : C_BadRow ≠ C_BadForm
  s_BadRow_BadForm : PySem.W.subIn K (.ref C_BadRow) (.ref C_BadForm) = some false
  ne_BadRow_NoName : C_BadRow ≠ C_NoName
  s_BadRow_NoName : PySem.W.subIn K (.ref C_BadRow) (.ref C_NoName) = some false
  ne_BadRow_NoItem : C_BadRow ≠ C_NoItem
  s_BadRow_NoItem : PySem.W.subIn K (.ref C_BadRow) (.ref C_NoItem) = some false
  ne_NoItem_ScreenError : C_NoItem ≠ C_ScreenError
  s_NoItem_ScreenError : PySem.W.subIn K (.ref C_NoItem) (.ref C_ScreenError) = some true
  ne_NoItem_BadForm : C_NoItem ≠ C_BadForm
  s_NoItem_BadForm : PySem.W.subIn K (.ref C_NoItem) (.ref C_BadForm) = some false
  ne_NoItem_NoName : C_NoItem ≠ C_NoName
  s_NoItem_NoName : PySem.W.subIn K (.ref C_NoItem) (.ref C_NoName) = some false
  ne_NoItem_BadRow : C_NoItem ≠ C_BadRow
  s_NoItem_BadRow : PySem.W.subIn K (.ref C_NoItem) (.ref C_BadRow) = some false
  m_ValueError : mg "ValueError" = none
  m_abs : mg "abs" = none
  m_all : mg "all" = none
  m_any : mg "any" = none
  m_bool : mg "bool" = none
  m_enumerate : mg "enumerate" = none
  m_int : mg "int" = none
  m_isinstance : mg "isinstance" = none
  m_len : mg "len" = none
  m_list : mg "list" = none
  m_range : mg "range" = none
  m_repr : mg "repr" = none
  m_set : mg "set" = none
  m_str : mg "str" = none
  m_tuple : mg "tuple" = none
  t_MOST_LETTERS : Tok
  c_MOST_LETTERS : mg "MOST_LETTERS" = some (.int 8 t_MOST_LETTERS)
  t_MOST_LEVELS : Tok
  c_MOST_LEVELS : mg "MOST_LEVELS" = some (.int 5 t_MOST_LEVELS)
  t_MOST_ITEMS : Tok
  c_MOST_ITEMS : mg "MOST_ITEMS" = some (.int 5 t_MOST_ITEMS)
section
variable {P : Program} {w : World} {K : PySem.W.Frag} {mg : Str → Option Value} {base : Heap}
def sp_mixed : Sp := fun vs H Q _ => ∃ a t : Int, vs = [.int a, .int t] ∧ ∀ w : Int, 0 ≤ w → Q (.int w) H
theorem ok_mixed (T : Txt K mg) : FnOk P w K mg base CX0 1 T.f__law_mixed T.d__law_mixed ["_law_number", "_law_turn"] sp_mixed := by
  refine T.F__law_mixed.ok sc__law_mixed (fun vs H Q E h => ?_) (fun cdv A outer s H vs Q E hr h => ?_)
  · obtain ⟨a, t, rfl, _⟩ := h
    rfl
  · obtain ⟨a, t, rfl, q⟩ := h
    refine ⟨_, (pss_cons (ps_set (i := 2) sc__law_mixed.nd rfl (Or.inl rfl) (pe_op op_mod (pe_callTy call_int1 (by rfl) T.m_int (by decide +kernel) (pa_cons (pe_op op_add (pe_op op_mul (pe_op op_add (pv 0) pe_int) pe_int) (pe_op op_mul (pe_op op_add (pv 1) pe_int) pe_int)) pa_nil)) pe_int))
      (pss_cons (ps_set (i := 3) sc__law_mixed.nd rfl (Or.inl rfl) (pe_op op_mod (pe_callTy call_int1 (by rfl) T.m_int (by decide +kernel) (pa_cons (pe_op op_add (pe_op op_add (pe_op op_mul (pv 2) (pv 2)) (pe_op op_mul (pv 2) pe_int)) (pe_op op_mul (pe_op op_add (pv 1) pe_int) pe_int)) pa_nil)) pe_int))
      (pss_one (ps_ret (pe_op op_mod (pe_callTy call_int1 (by rfl) T.m_int (by decide +kernel) (pa_cons (pe_op op_add (pe_op op_add (pe_op op_fdiv (pv 3) pe_int) (pe_op op_mul (pv 3) pe_int)) (pv 1)) pa_nil)) pe_int))))), ?_⟩
    walk_at "g"
    have h0 := Int.emod_nonneg ((a + 1) * 48271 + (t + 1) * 1103515245) (by decide : (2147483647 : Int) ≠ 0)
    have h1 := Int.emod_lt_of_pos ((a + 1) * 48271 + (t + 1) * 1103515245) (by decide : (0 : Int) < 2147483647)
    refine ⟨Or.inr ⟨by omega, by omega⟩, ?_⟩
    walk_at "g"
    refine q _ (Int.emod_nonneg _ (by decide))
/-- the bag is made -/
def sp_bag (K : PySem.W.Frag) : Sp := fun vs H Q _ => ∃ (a : Addr) (ns : List Int), vs = [.ref a] ∧ SqL K H a (ns.map V.int) ∧ ns.length ≤ 63 ∧
  ∀ b H', Same H H' → H b = none → Bag K (one b) H' b → Q (.ref b) H'
theorem ok_bag (T : Txt K mg) : FnOk P w K mg base CX0 1 T.f__law_bag T.d__law_bag ["_law_script"] (sp_bag K) := by
  refine T.F__law_bag.ok sc__law_bag (fun vs H Q E h => ?_) (fun cdv A outer s H vs Q E hr h => ?_)
  · obtain ⟨a, t, rfl, _⟩ := h
    rfl
  · obtain ⟨a, ns, rfl, hS, hlen, q⟩ := h
    refine ⟨_, (pss_cons (ps_setLc (i := 2) (own := [("_law_cell", 1)]) (g := gName 1) (tt := tYes) (by rfl) sc__law_bag.nd rfl rfl (sw_true rfl rfl rfl (by decide +kernel)) (pi_listK (K := K) rfl (pv 0)) (blkOk_by (own := [("_law_cell", 1)]) (N := ["_law_script", "_law_cell", "_law_numbers", "_law_seed", "_law_at"]) (sc := defScope s__law_bag) (by decide +kernel)) (fun _ _ _ _ _ => (pg_name (i := 1) sc__law_bag.nd rfl (Or.inl rfl))) (fun _ _ _ _ _ => pts_nil) (fun _ _ _ _ _ => (pe_callTy call_int1 (by rfl) T.m_int (by decide +kernel) (pa_cons (pv 1) pa_nil))))
      (pss_cons (ps_set (i := 3) sc__law_bag.nd rfl (Or.inl rfl) (pe_callB (call_lenK (K := K) rfl) (by rfl) T.m_len PySem.boot_len (pa_cons (pv 2) pa_nil)))
      (pss_cons (ps_for PassesOwn.never rfl (pi_enumK (K := K) rfl (by rfl) T.m_enumerate (pa_cons (pe_slice (sl_listK (K := K) rfl) (pv 2) po_none (po_some pe_int)) pa_nil)) (pg_tupK (K := K) rfl rfl (pgs_cons (pg_name (i := 4) sc__law_bag.nd rfl (Or.inl rfl)) (pgs_cons (pg_name (i := 1) sc__law_bag.nd rfl (Or.inl rfl)) pgs_nil))) (pss_one (ps_set (i := 3) sc__law_bag.nd rfl (Or.inl rfl) (pe_op op_mod (pe_callTy call_int1 (by rfl) T.m_int (by decide +kernel) (pa_cons (pe_op op_add (pe_op op_add (pe_op op_mul (pv 3) pe_int) (pe_op op_mod (pe_callTy call_int1 (by rfl) T.m_int (by decide +kernel) (pa_cons (pe_callB call_abs (by rfl) T.m_abs (by decide +kernel) (pa_cons (pv 1) pa_nil)) pa_nil)) pe_int)) (pe_op op_mul_ib (pe_op op_add (pv 4) pe_int) (pe_cmpR op_lt (pv 1) pe_int (nomark _)))) pa_nil)) pe_int))))
      (pss_one (ps_ret (pe_lst (pa_cons (pv 2) (pa_cons pe_int (pa_cons pe_int (pa_cons pe_int (pa_cons (pv 3) pa_nil))))))))))), ?_⟩
    refine ⟨.ref a, rfl, a, rfl, ⟨_, hS⟩, fun n hn => ?_⟩
    refine lc_list (K := K) (a := a) (xs := ns.map V.int) (fun i H' => Same H H' ∧ H' n = some (.lst ((ns.take i).map V.int))) ⟨same_new hn, by rw [upd_same]; rfl⟩ (fun i H' _ h => h.1.seq hS) (fun i x H' hx h => ?_) (fun H' h => ?_)
    · rw [List.getElem?_map] at hx
      obtain ⟨z, hz, rfl⟩ := Option.map_eq_some_iff.mp hx
      refine ⟨rfl, ?_⟩
      refine ⟨_, rfl, ?_⟩
      refine Or.inl ⟨_, rfl, ?_⟩
      refine ⟨_, h.2, ?_, fun b o e => ?_, ?_⟩
      · rw [List.length_map, List.length_take]
        exact small1000 (by omega)
      · rw [upd_ne (ne_of_none e hn)]
        exact h.1 b o e
      · rw [upd_same, List.take_add_one, hz, List.map_append]
        rfl
    · have h2 : H' n = some (.lst (ns.map V.int)) := by
        have e := h.2
        rwa [List.length_map, List.take_length] at e
      refine ⟨_, rfl, n, _, rfl, .inl (SqL.of h2), ?_⟩
      refine ⟨_, rfl, 63, rfl, n, _, rfl, SqL.of h2, fun c hc => ?_⟩
      have hcut : cutV (ns.map V.int) none (some 63) = ns.map V.int := by
        unfold cutV
        rw [show HT.sIx (ns.map V.int).length 0 none = 0 from HT.sIx_none .., show HT.sIx (ns.map V.int).length (ns.map V.int).length (some 63) = min 63 (ns.map V.int).length from HT.sIx_nat _ _ 63, List.drop_zero, Nat.sub_zero]
        rw [List.length_map, Nat.min_eq_right hlen]
        exact List.take_of_length_le (by rw [List.length_map]; exact Nat.le_refl _)
      rw [hcut]
      have hn' : n ≠ c := ne_of_none h2 hc
      refine ⟨c, _, rfl, SqL.of upd_same, ?_⟩
      refine for_enum (a := c) (xs := ns.map V.int) (fun i σ H2 => (∃ y1 z y4, σ = [some (.ref a), y1, some (.ref n), some (.int z), y4]) ∧ Same H H2 ∧ H2 n = some (.lst (ns.map V.int)) ∧ H2 c = some (.lst (ns.map V.int))) ⟨⟨_, _, _, rfl⟩, fun b o e => ?_, ?_, ?_⟩ (fun i σ H2 _ p => SqL.of p.2.2.2) (fun i x T σ H2 hx hT p => ?_) (fun σ H2 p => ?_)
      · rw [upd_ne (fun z => ?_)]
        · exact h.1 b o e
        · subst z
          rw [h.1 b o e] at hc
          cases hc
      · rw [upd_ne hn']
        exact h2
      · exact upd_same
      · obtain ⟨⟨y1, z, y4, rfl⟩, hs, e2, e3⟩ := p
        rw [List.getElem?_map] at hx
        obtain ⟨v, hv, rfl⟩ := Option.map_eq_some_iff.mp hx
        refine ⟨T, _, rfl, SqT.of upd_same, rfl, _, _, rfl, _, _, rfl, rfl, ?_⟩
        walk_at "g"
        have nT : n ≠ T := ne_of_none e2 hT
        have cT : c ≠ T := ne_of_none e3 hT
        refine ⟨⟨_, _, _, rfl⟩, fun b o e => same_new hT b o (hs b o e), ?_, ?_⟩
        · rw [upd_ne nT]
          exact e2
        · rw [upd_ne cT]
          exact e3
      · obtain ⟨⟨y1, z, y4, rfl⟩, hs, e2, e3⟩ := p
        refine ⟨_, rfl, _, rfl, (by show 5 ≤ sizeLine; decide), fun b hb => ?_⟩
        refine q b _ (fun x o e => same_new hb x o (hs x o e)) (hs.free hb) ⟨rfl, n, ns, 0, 0, 0, z, upd_same, fun e => ?_, .inl ?_, by decide, by decide⟩
        · exact ne_of_none e2 hb e
        · rw [upd_ne (ne_of_none e2 hb)]
          exact e2
/-- a number is drawn -/
def sp_pick (K : PySem.W.Frag) : Sp := fun vs H Q _ => ∃ (b : Addr) (m : Int) (M : Ms), vs = [.ref b, .int m] ∧ Bag K M H b ∧ 0 < m ∧ m < 1073741824 ∧
  ∀ (w : Int) (H' : Hp), 0 ≤ w → w < m → At b H H' → Bag K M H' b → Q (.int w) H'
theorem At.bag {M : Ms} {H H' : Hp} {b n : Addr} {ns : List Int} {p r t s : Int} (w : M b) (hn : ¬ M n) (rd : Rd H n (.lst (ns.map V.int))) (h : At b H H') (e : H' b = some (.lst [.ref n, .int p, .int r, .int t, .int s])) (hp : 0 ≤ p) (hr : 0 ≤ r) : Bag K M H' b :=
  ⟨w, n, ns, p, r, t, s, e, hn, sx_rd h.sx (fun z => hn (by rw [show n = b from z]; exact w)) rd, hp, hr⟩
theorem At.trans {H H1 H2 : Hp} {b : Addr} (h : At b H H1) (h' : At b H1 H2) : At b H H2 := fun a n => (h' a n).trans (h a n)
theorem ok_pick (T : Txt K mg) : FnOk P w K mg base CX0 2 T.f__law_pick T.d__law_pick ["_law_bag_here", "_law_many"] (sp_pick K) := by
  have G__law_mixed := ok_mixed (P := P) (w := w) (base := base) T
  refine T.F__law_pick.ok sc__law_pick (fun vs H Q E h => ?_) (fun cdv A outer s H vs Q E hr h => ?_)
  · obtain ⟨_, _, _, rfl, _⟩ := h
    rfl
  · obtain ⟨b, m, M, rfl, ⟨wb, n, ns, p, r, t, sd, hb, hn, rd, hp, hr0⟩, hm, hm2, q⟩ := h
    refine ⟨_, (pss_cons (ps_set (i := 2) sc__law_pick.nd rfl (Or.inl rfl) (pe_ix (ix_listK (K := K) rfl) (pv 0) pe_int (fun _ _ => rfl)))
      (pss_cons (ps_asg (pe_op op_add (pv 2) pe_int) (pg_sub (pv 0) pe_int set_list))
      (pss_cons (ps_if (PW.pt (pw_and (pt_cmpR op_eq (pe_ix (ix_listK (K := K) rfl) (pv 0) pe_int (fun _ _ => rfl)) pe_int (nomark _)) (pw_and1 (pt_cmpR op_lt (pe_ix (ix_listK (K := K) rfl) (pv 0) pe_int (fun _ _ => rfl)) (pe_callB (call_lenK (K := K) rfl) (by rfl) T.m_len PySem.boot_len (pa_cons (pe_ix (ix_listK (K := K) rfl) (pv 0) pe_int (fun _ _ => rfl)) pa_nil)) (nomark _))))) (pss_cons (ps_set (i := 3) sc__law_pick.nd rfl (Or.inl rfl) (pe_ix (ix_listK (K := K) rfl) (pe_ix (ix_listK (K := K) rfl) (pv 0) pe_int (fun _ _ => rfl)) (pe_ix (ix_listK (K := K) rfl) (pv 0) pe_int (fun _ _ => rfl)) (fun _ _ => rfl)))
      (pss_cons (ps_asg (pe_op op_add (pe_ix (ix_listK (K := K) rfl) (pv 0) pe_int (fun _ _ => rfl)) pe_int) (pg_sub (pv 0) pe_int set_list))
      (pss_cons (ps_if (pt_cmpR op_lt (pe_callB call_abs (by rfl) T.m_abs (by decide +kernel) (pa_cons (pv 3) pa_nil)) (pe_op op_pow pe_int pe_int) (nomark _)) (pss_one (ps_ret (pe_op op_mod (pe_callTy call_int1 (by rfl) T.m_int (by decide +kernel) (pa_cons (pe_call G__law_mixed (hr.mono (by omega)) (by rfl) T.g__law_mixed T.F__law_mixed.kp T.b__law_mixed .nil pass0 (pa_cons (pe_op op_add_ib (pe_op op_mul pe_int (pe_callB call_abs (by rfl) T.m_abs (by decide +kernel) (pa_cons (pv 3) pa_nil))) (pe_cmpR op_lt (pv 3) pe_int (nomark _))) (pa_cons (pv 2) pa_nil))) pa_nil)) (pv 1)))) pss_nil)
      (pss_one (ps_asg (pe_callB call_abs (by rfl) T.m_abs (by decide +kernel) (pa_cons (pv 3) pa_nil)) (pg_sub (pv 0) pe_int set_list)))))) pss_nil)
      (pss_cons (ps_if (pt_cmpR op_eq (pe_ix (ix_listK (K := K) rfl) (pv 0) pe_int (fun _ _ => rfl)) pe_int (nomark _)) (pss_one (ps_ret (pe_op op_mod (pe_callTy call_int1 (by rfl) T.m_int (by decide +kernel) (pa_cons (pe_call G__law_mixed (hr.mono (by omega)) (by rfl) T.g__law_mixed T.F__law_mixed.kp T.b__law_mixed .nil pass0 (pa_cons (pe_ix (ix_listK (K := K) rfl) (pv 0) pe_int (fun _ _ => rfl)) (pa_cons (pv 2) pa_nil))) pa_nil)) (pv 1)))) pss_nil)
      (pss_cons (ps_set (i := 4) sc__law_pick.nd rfl (Or.inl rfl) (pe_op op_mod (pe_callTy call_int1 (by rfl) T.m_int (by decide +kernel) (pa_cons (pe_ix (ix_listK (K := K) rfl) (pv 0) pe_int (fun _ _ => rfl)) pa_nil)) (pv 1)))
      (pss_cons (ps_asg (pe_op op_fdiv (pe_ix (ix_listK (K := K) rfl) (pv 0) pe_int (fun _ _ => rfl)) (pv 1)) (pg_sub (pv 0) pe_int set_list))
      (pss_one (ps_ret (pv 4))))))))), ?_⟩
    -- turn
    walk_at "g"
    walk_at "set"
    generalize e1 : upd H b _ = H1
    have a1 : At b H H1 := by rw [← e1]; exact At.upd
    have b1 : H1 b = some (.lst [.ref n, .int p, .int r, .int (t + 1), .int sd]) := by rw [← e1, upd_same]; rfl
    have rd1 : Rd H1 n (.lst (ns.map V.int)) := sx_rd a1.sx (fun z => hn (by rw [show n = b from z]; exact wb)) rd
    clear e1
    have fin : ∀ (w : Int) (H' : Hp) (p' r' t' : Int), At b H H' → H' b = some (.lst [.ref n, .int p', .int r', .int t', .int sd]) → 0 ≤ p' → 0 ≤ r' → Q (.int (w % m)) H' := fun w H' p' r' t' ha e h1 h2 =>
      q _ _ (Int.emod_nonneg _ (by omega)) (Int.emod_lt_of_pos _ hm) ha (ha.bag wb hn rd e h1 h2)
    with_reducible refine seq_join (fun σ H' => ∃ y3 p' r', σ = [some (.ref b), some (.int m), some (.int t), y3, none] ∧ At b H H' ∧ H' b = some (.lst [.ref n, .int p', .int r', .int (t + 1), .int sd]) ∧ 0 ≤ p' ∧ 0 ≤ r') (fun hN => ?_) (fun σ H' c => ?_)
    · have hN0 := hN _ _ ⟨none, p, r, rfl, a1, b1, hp, hr0⟩
      walk_at "g"
      walk_at "if"
      · walk_at "g"
        walk_at "if"
        · rename_i ep
          have ep' : p < ((ns.map V.int).length : Int) := of_decide_eq_true ep
          obtain ⟨j, rfl⟩ : ∃ j : Nat, p = (j : Int) := ⟨p.toNat, by omega⟩
          have hj : j < ns.length := by
            rw [List.length_map] at ep'
            omega
          have hcell : (ns.map V.int)[j]? = some (.int ns[j]) := by
            rw [List.getElem?_map, List.getElem?_eq_getElem hj]
            rfl
          walk_at "g"
          refine ⟨n, _, _, _, rfl, rfl, Or.inl rd1, atI_nat hcell, ?_⟩
          walk_at "g"
          walk_at "set"
          generalize e2 : upd H1 b _ = H2
          have a2 : At b H H2 := by rw [← e2]; exact a1.trans At.upd
          have b2 : H2 b = some (.lst [.ref n, .int ((j : Int) + 1), .int r, .int (t + 1), .int sd]) := by rw [← e2, upd_same]; rfl
          clear e2
          generalize ns[j] = c
          walk_at "g"
          walk_at "if"
          · walk_at "g"
            refine ⟨_, _, rfl, fun z hz => ?_⟩
            walk_at "g"
            refine ⟨hm, ?_⟩
            exact fin _ _ _ _ _ a2 b2 (by omega) hr0
          · walk_at "g"
            walk_at "set"
            exact hN _ _ ⟨_, _, _, rfl, a2.trans At.upd, upd_same, by omega, by split <;> omega⟩
        · exact hN0
      · exact hN0
    · obtain ⟨y3, p', r', rfl, a2, b2, hp2, hr2⟩ := c
      walk_at "g"
      walk_at "if"
      · walk_at "g"
        refine ⟨_, _, rfl, fun z hz => ?_⟩
        walk_at "g"
        refine ⟨hm, ?_⟩
        exact fin _ _ _ _ _ a2 b2 hp2 hr2
      · walk_at "g"
        refine ⟨hm, ?_⟩
        walk_at "g"
        refine ⟨⟨hm, hm2⟩, ?_⟩
        walk_at "g"
        walk_at "set"
        walk_at "g"
        exact fin _ _ _ _ _ (a2.trans At.upd) upd_same hp2 (Int.ediv_nonneg hr2 (by omega))
/-- one thing of a list is chosen -/
def sp_choice (K : PySem.W.Frag) : Sp := fun vs H Q _ => ∃ (b a : Addr) (xs : List V) (M : Ms), vs = [.ref b, .ref a] ∧ Bag K M H b ∧ SqL K H a xs ∧ a ≠ b ∧ 0 < xs.length ∧ xs.length < 1000000 ∧
  ∀ (v : V) (H' : Hp), v ∈ xs → At b H H' → Bag K M H' b → Q v H'
theorem at_pos {α : Type} {xs : List α} {w : Int} (h0 : 0 ≤ w) (h1 : w < (xs.length : Int)) : ∃ v, atI xs w = some v ∧ v ∈ xs ∧ xs[w.toNat]? = some v := by
  obtain ⟨j, rfl⟩ : ∃ j : Nat, w = (j : Int) := ⟨w.toNat, by omega⟩
  have hj : j < xs.length := by omega
  exact ⟨xs[j], atI_nat (List.getElem?_eq_getElem hj), List.getElem_mem hj, List.getElem?_eq_getElem hj⟩
theorem ok_choice (T : Txt K mg) : FnOk P w K mg base CX0 3 T.f__law_choice T.d__law_choice ["_law_bag_here", "_law_things"] (sp_choice K) := by
  have G__law_pick := ok_pick (P := P) (w := w) (base := base) T
  refine T.F__law_choice.ok sc__law_choice (fun vs H Q E h => ?_) (fun cdv A outer s H vs Q E hr h => ?_)
  · obtain ⟨_, _, _, _, rfl, _⟩ := h
    rfl
  · obtain ⟨b, a, xs, M, rfl, hB, hS, hab, hl, hl2, q⟩ := h
    refine ⟨_, (pss_one (ps_ret (pe_ix (ix_listK (K := K) rfl) (pv 1) (pe_call G__law_pick (hr.mono (by omega)) (by rfl) T.g__law_pick T.F__law_pick.kp T.b__law_pick .nil pass0 (pa_cons (pv 0) (pa_cons (pe_callB (call_lenK (K := K) rfl) (by rfl) T.m_len PySem.boot_len (pa_cons (pv 1) pa_nil)) pa_nil))) (fun _ _ => rfl)))), ?_⟩
    walk_at "g"
    refine ⟨b, _, M, rfl, hB, by omega, by omega, fun w H' h0 h1 hA hB' => ?_⟩
    have hS' := sx_l hA.sx (fun z : a = b => hab z) hS
    obtain ⟨v, hv, hm, _⟩ := at_pos h0 h1
    exact ⟨_, _, _, _, rfl, rfl, hS', hv, q v H' hm hA hB'⟩
/-- a list is mingled -/
def sp_mingled (K : PySem.W.Frag) : Sp := fun vs H Q _ => ∃ (b : Addr) (a : V) (ds : List PyData) (M : Ms), vs = [.ref b, a] ∧ Bag K M H b ∧ Mk M H ∧ Rp M H a (.list ds) ∧ ds.length < 1000000 ∧
  Dr K M b H (fun d => ∃ es, d = .list es ∧ es.Perm ds) Q
theorem erase_perm {α : Type} : ∀ (l : List α) (j : Nat) (d : α), l[j]? = some d → (d :: l.eraseIdx j).Perm l
  | [], j, d, h => by simp at h
  | x :: r, 0, d, h => by
    have e := Option.some.inj h
    subst e
    exact .refl _
  | x :: r, j + 1, d, h => by
    have ih := erase_perm r j d h
    show (d :: x :: r.eraseIdx j).Perm (x :: r)
    exact (List.Perm.swap x d _).trans (ih.cons x)
theorem ok_mingled (T : Txt K mg) : FnOk P w K mg base CX0 3 T.f__law_mingled T.d__law_mingled ["_law_bag_here", "_law_things"] (sp_mingled K) := by
  have G__law_pick := ok_pick (P := P) (w := w) (base := base) T
  refine T.F__law_mingled.ok sc__law_mingled (fun vs H Q E h => ?_) (fun cdv A outer s H vs Q E hr h => ?_)
  · obtain ⟨_, _, _, _, rfl, _⟩ := h
    rfl
  · obtain ⟨b, a, ds, M, rfl, hB, hM, hR, hl, q⟩ := h
    cases hR with
    | @lst a xs _ na hS hA =>
    have el := hA.length
    refine ⟨_, (pss_cons (ps_set (i := 2) sc__law_mingled.nd rfl (Or.inl rfl) (pe_callTy (call_listK (K := K) rfl) (by rfl) T.m_list (by decide +kernel) (pa_cons (pv 1) pa_nil)))
      (pss_cons (ps_set (i := 3) sc__law_mingled.nd rfl (Or.inl rfl) (pe_lst pa_nil))
      (pss_cons (ps_for PassesOwn.never rfl (pi_range1 (by rfl) T.m_range (pa_cons (pe_callB (call_lenK (K := K) rfl) (by rfl) T.m_len PySem.boot_len (pa_cons (pv 1) pa_nil)) pa_nil)) (pg_name (i := 4) sc__law_mingled.nd rfl (Or.inl rfl)) (pss_one (ps_expr (pe_bmK2 (K := K) rfl PySem.F.plainAttrs_list PySem.F.slot_list_append PySem.F.type_list_append mt_append (pv 3) (pa_cons (pe_bmK2 (K := K) rfl PySem.F.plainAttrs_list PySem.F.slot_list_pop PySem.F.type_list_pop mt_popAt (pv 2) (pa_cons (pe_call G__law_pick (hr.mono (by omega)) (by rfl) T.g__law_pick T.F__law_pick.kp T.b__law_pick .nil pass0 (pa_cons (pv 0) (pa_cons (pe_callB (call_lenK (K := K) rfl) (by rfl) T.m_len PySem.boot_len (pa_cons (pv 2) pa_nil)) pa_nil))) pa_nil)) pa_nil)))))
      (pss_one (ps_ret (pv 3)))))), ?_⟩
    refine ⟨.ref a, rfl, a, xs, rfl, .inl (.inl hS), fun l nl => ?_⟩
    refine ⟨by show 0 ≤ sizeLine; exact Nat.zero_le _, fun o no => ?_⟩
    have lo : l ≠ o := ne_of_none upd_same no
    have Rl := hA.fresh nl
    generalize e1 : upd (upd H l _) o _ = H1
    have s1 : Same H H1 := fun c u e => by rw [← e1]; exact same_new no c u (same_new nl c u e)
    have l1 : H1 l = some (.lst xs) := by rw [← e1, upd_ne lo, upd_same]
    have o1 : H1 o = some (.lst []) := by rw [← e1, upd_same]
    have no0 : H o = none := by
      rw [upd_ne lo.symm] at no
      exact no
    clear e1
    refine ⟨.ref a, rfl, a, xs, rfl, .inl (s1.seq (.inl hS)), ?_⟩
    refine ⟨_, rfl, by omega, by omega, ?_⟩
    have hbl : b ≠ l := fun z => hB.there (by rw [z]; exact nl)
    have hbo : b ≠ o := fun z => hB.there (by rw [z]; exact no0)
    let N : Ms := also (also M l) o
    let F : Ms := also (also (one b) l) o
    have FN : ∀ c, F c → N c := fun c z => z.elim (fun z => z.elim (fun z => .inl (.inl (one_le hB.w c z))) fun z => .inl (.inr z)) .inr
    have hB1 : Bag K N H1 b := by
      have h1 := (hB.more nl).more no0
      exact h1.keep (N := fun _ => False) (fun c u _ e => s1 c u e) (fun z => z) (fun _ z => z.elim)
    have R1 : RpAll N H1 xs ds := (Rl.fresh no0).sx (Sx.same s1)
    refine for_range (lo := 0) (n := (xs.length : Int).toNat) (fun i σ H2 => (∃ y4, σ = [some (.ref b), some (.ref a), some (.ref l), some (.ref o), y4]) ∧ Sx F H H2 ∧ Gr H H2 ∧ Bag K N H2 b ∧
      ∃ ls os es fs, H2 l = some (.lst ls) ∧ H2 o = some (.lst os) ∧ RpAll N H2 ls es ∧ RpAll N H2 os fs ∧ ls.length + i = xs.length ∧ os.length = i ∧ (es ++ fs).Perm ds) ?_ (fun i σ H2 hi p => ?_) (fun σ H2 p => ?_)
    · exact ⟨⟨_, rfl⟩, Sx.same s1, Gr.same s1, hB1, xs, [], ds, [], l1, o1, R1, .nil, by omega, rfl, by rw [List.append_nil]⟩
    · obtain ⟨⟨y4, rfl⟩, s2, g2, hB2, ls, os, es, fs, l2, o2, Re, Rf, e1, e2, m1⟩ := p
      have hls : 0 < ls.length := by omega
      refine ⟨.ref o, rfl, .inl ⟨rfl, _, SqL.of o2⟩, .ref l, rfl, .inl ⟨rfl, _, SqL.of l2⟩, ?_⟩
      walk_at "g"
      refine ⟨b, _, N, rfl, hB2, by omega, by omega, fun w H3 h0 h1 hA3 hB3 => ?_⟩
      have l3 : H3 l = some (.lst ls) := (hA3 l hbl.symm).trans l2
      have o3 : H3 o = some (.lst os) := (hA3 o hbo.symm).trans o2
      obtain ⟨j, rfl⟩ : ∃ j : Nat, w = (j : Int) := ⟨w.toNat, by omega⟩
      have hj : j < ls.length := by omega
      have s3 : Sx F H2 H3 := hA3.sx.le fun c z => .inl (.inl z)
      have Re3 := Re.sx (s3.le FN)
      obtain ⟨d, hd, Rd⟩ := Re3.get (List.getElem?_eq_getElem hj)
      refine ⟨l, ls, (j : Int), j, ls[j], rfl, rfl, l3, by omega, by omega, ?_, List.getElem?_eq_getElem hj, ?_⟩
      · exact seqIx hj
      · have lno : o ≠ l := lo.symm
        have o4 : upd H3 l (.lst (ls.eraseIdx j)) o = some (.lst os) := by rw [upd_ne lno]; exact o3
        refine ⟨o, os, ls[j], rfl, rfl, o4, small1000000 (by omega), ?_⟩
        have s4 : Sx F H3 (upd (upd H3 l (.lst (ls.eraseIdx j))) o (.lst (os ++ [ls[j]]))) := (Sx.put (show F l from .inl (.inr rfl))).trans (Sx.put (show F o from .inr rfl))
        have em := Re3.length
        refine ⟨⟨_, rfl⟩, s2.trans (s3.trans s4), g2.trans ((At.gr hA3 hB3.there).trans (Gr.upd.trans Gr.upd)), ?_, ls.eraseIdx j, os ++ [ls[j]], es.eraseIdx j, fs ++ [d], ?_, upd_same, (Re3.eraseIdx j).sx (s4.le FN), ((Rf.sx (s3.le FN)).append (.one Rd)).sx (s4.le FN), ?_, ?_, ?_⟩
        · exact (hB3.keep (N := one l) (Sx.put rfl) hbl (fun c z => by rw [show c = l from z]; exact .inl (.inr rfl))).keep (N := one o) (Sx.put rfl) hbo (fun c z => by rw [show c = o from z]; exact .inr rfl)
        · rw [upd_ne lo, upd_same]
        · rw [List.length_eraseIdx_of_lt hj]
          omega
        · rw [List.length_append, e2]
          rfl
        · refine List.Perm.trans ?_ m1
          rw [← List.append_assoc]
          refine (List.perm_append_comm).trans ?_
          exact (List.Perm.append_right fs (erase_perm es j d hd))
    · obtain ⟨⟨y4, rfl⟩, s2, g2, hB2, ls, os, es, fs, l2, o2, Re, Rf, e1, e2, m1⟩ := p
      refine ⟨.ref o, rfl, q _ _ (.list fs) ((s2.cut no0).cut nl) g2 (hB2.less hB.w fun c z => .inl (.inl z)) (.lst (hM.out no0) (.inl o2) (Rf.less fun c z => .inl (.inl z))) ⟨fs, rfl, ?_⟩⟩
      have el0 := Re.length
      have z : es = [] := List.length_eq_zero_iff.mp (by omega)
      rw [z] at m1
      exact m1
end
end D


namespace D
open PySem PySem.Spec PyProof.Rows L2
local macro_rules | `(tactic| walk_at "st") => `(tactic| first | exact SqT.of (by assumption) | exact Or.inl (by assumption) | exact SqT.of upd_same | fail "st")
local macro_rules | `(tactic| walk_at "ixt") => `(tactic| refine ⟨_, _, _, _, rfl, rfl, (by walk_at "st" : SqT _ _ _ _), by rfl, ?_⟩)
local macro_rules | `(tactic| walk_at "sq") => `(tactic| first | exact SqL.of (by assumption) | assumption | exact Or.inl (by assumption) | exact SqL.of upd_same | fail "sq")
local macro_rules | `(tactic| walk_at "ix") => `(tactic| refine ⟨_, _, _, _, rfl, rfl, (by walk_at "sq" : SqL _ _ _ _), by rfl, ?_⟩)
local macro_rules | `(tactic| walk_at "set") => `(tactic| refine ⟨_, _, _, _, rfl, rfl, by first | assumption | exact upd_same, by rfl, ?_⟩)
local macro_rules | `(tactic| walk_at "len") => `(tactic| refine ⟨_, _, rfl, Or.inl (by walk_at "sq" : SqL _ _ _ _), ?_⟩)
local macro_rules | `(tactic| walk_at "g") => `(tactic| repeat (first | refine ⟨_, rfl, ?_⟩ | refine ⟨_, _, rfl, rfl, ?_⟩ | refine ⟨Or.inr (by decide), ?_⟩ | refine ⟨Or.inl (by decide), ?_⟩ | refine ⟨(by decide : (0 : Int) < _), ?_⟩ | refine ⟨(⟨by decide, by decide⟩ : CDiv _ _), ?_⟩ | refine ⟨(⟨by decide, by decide, by decide⟩ : CPow _ _), ?_⟩ | refine Or.inl ⟨_, rfl, ?_⟩ | refine ⟨rfl, ?_⟩ | walk_at "ix" | walk_at "ixt" | walk_at "len" | fail "g"))
local macro_rules | `(tactic| walk_at "if") => `(tactic| refine ite2 (fun e => ?_) (fun e => ?_))
section
variable {P : Program} {w : World} {K : PySem.W.Frag} {mg : Str → Option Value} {base : Heap}
def sp_value (d : Nat) : Sp := fun vs H Q _ => ∃ (v : V) (dd : Addr) (f : Fm) (M : Ms) (kvs : List (Key × V)) (ρ : Str → Int) (nm : Str → Prop), vs = [v, .ref dd] ∧ Rp M H v f.enc ∧ f.dep ≤ d ∧ f.ok nm ∧ H dd = some (.dK kvs) ∧
  (∀ x, nm x → valV kvs (.inr x) = some (.int (ρ x))) ∧ Q (.int (f.val ρ)) H
theorem ok_value_of (T : Txt K mg) : ∀ d, FnOk P w K mg base CX0 (d + 1) T.f_value_of T.d_value_of ["form", "values"] (sp_value d) := by
  intro d
  induction d with
  | zero =>
    refine T.F_value_of.ok sc_value_of (fun vs H Q E h => ?_) (fun cdv A outer s H vs Q E hr h => ?_)
    · obtain ⟨_, _, _, _, _, _, _, rfl, _⟩ := h
      rfl
    · obtain ⟨v, dd, f, M, kvs, ρ, nm, rfl, _, hd, _⟩ := h
      exact absurd f.dep_pos (by omega)
  | succ d ih =>
    have G_value_of := ih
    refine T.F_value_of.ok sc_value_of (fun vs H Q E h => ?_) (fun cdv A outer s H vs Q E hr h => ?_)
    · obtain ⟨_, _, _, _, _, _, _, rfl, _⟩ := h
      rfl
    · obtain ⟨v, dd, f, M, kvs, ρ, nm, rfl, hR, hd, ho, hdd, hρ, q⟩ := h
      obtain ⟨a, xs, rfl, na, ha, hx⟩ := hR.form
      refine ⟨_, (pss_cons (ps_set (i := 2) sc_value_of.nd rfl (Or.inl rfl) (pe_ix (ix_tupK (K := K) rfl) (pv 0) pe_int (fun _ _ => rfl)))
      (pss_cons (ps_if (pt_cmpR op_eq (pv 2) pe_str (nomark _)) (pss_one (ps_ret (pe_ix (ix_tupK (K := K) rfl) (pv 0) pe_int (fun _ _ => rfl)))) pss_nil)
      (pss_cons (ps_if (pt_cmpR op_eq (pv 2) pe_str (nomark _)) (pss_cons (ps_if (pt_cmp (pc_dnotin (hu_of hr) (pe_ix (ix_tupK (K := K) rfl) (pv 0) pe_int (fun _ _ => rfl)) (pv 1))) (pss_one ps_never) pss_nil)
      (pss_one (ps_ret (pe_dget (hu_of hr) (pv 1) (pe_ix (ix_tupK (K := K) rfl) (pv 0) pe_int (fun _ _ => rfl)) (fun _ _ => rfl))))) pss_nil)
      (pss_cons (ps_set (i := 3) sc_value_of.nd rfl (Or.inl rfl) (pe_call G_value_of (hr.mono (by omega)) (by rfl) T.g_value_of T.F_value_of.kp T.b_value_of .nil pass0 (pa_cons (pe_ix (ix_tupK (K := K) rfl) (pv 0) pe_int (fun _ _ => rfl)) (pa_cons (pv 1) pa_nil))))
      (pss_cons (ps_if (pt_cmpR op_eq (pv 2) pe_str (nomark _)) (pss_one (ps_ret (pe_call G_value_of (hr.mono (by omega)) (by rfl) T.g_value_of T.F_value_of.kp T.b_value_of .nil pass0 (pa_cons (pe_ifExp (pt_cmpR op_eq (pv 3) pe_int (nomark _)) (pe_ix (ix_tupK (K := K) rfl) (pv 0) pe_int (fun _ _ => rfl)) (pe_ix (ix_tupK (K := K) rfl) (pv 0) pe_int (fun _ _ => rfl))) (pa_cons (pv 1) pa_nil))))) pss_nil)
      (pss_cons (ps_set (i := 4) sc_value_of.nd rfl (Or.inl rfl) (pe_call G_value_of (hr.mono (by omega)) (by rfl) T.g_value_of T.F_value_of.kp T.b_value_of .nil pass0 (pa_cons (pe_ix (ix_tupK (K := K) rfl) (pv 0) pe_int (fun _ _ => rfl)) (pa_cons (pv 1) pa_nil))))
      (pss_cons (ps_if (pt_cmpR op_eq (pv 2) pe_str (nomark _)) (pss_one (ps_ret (pe_op op_mod (pe_op op_add (pv 3) (pv 4)) pe_int))) pss_nil)
      (pss_one (ps_ret (pe_ifExp (pt_cmpR op_eq (pv 3) (pv 4) (nomark _)) pe_int pe_int)))))))))), ?_⟩
      cases hx with
      | is n =>
        walk_at "g"
        exact q
      | get x =>
        have hx := hρ x ho
        walk_at "g"
        refine ⟨dd, _, rfl, DGet.k (k := Sum.inr x) hdd, ?_⟩
        rw [hx]
        walk_at "g"
        refine ⟨dd, _, rfl, DGet.k (k := Sum.inr x) hdd |> fun z => by rw [hx] at z; exact z, ?_⟩
        exact q
      | @sum f g u w r1 r2 =>
        have hd' : f.dep ≤ d ∧ g.dep ≤ d := by
          have : max f.dep g.dep + 1 ≤ d + 1 := hd
          omega
        walk_at "g"
        refine ⟨u, dd, f, M, kvs, ρ, nm, rfl, r1, hd'.1, ho.1, hdd, hρ, ?_⟩
        walk_at "g"
        refine ⟨w, dd, g, M, kvs, ρ, nm, rfl, r2, hd'.2, ho.2, hdd, hρ, ?_⟩
        walk_at "g"
        exact q
      | @same f g u w r1 r2 =>
        have hd' : f.dep ≤ d ∧ g.dep ≤ d := by
          have : max f.dep g.dep + 1 ≤ d + 1 := hd
          omega
        walk_at "g"
        refine ⟨u, dd, f, M, kvs, ρ, nm, rfl, r1, hd'.1, ho.1, hdd, hρ, ?_⟩
        walk_at "g"
        refine ⟨w, dd, g, M, kvs, ρ, nm, rfl, r2, hd'.2, ho.2, hdd, hρ, ?_⟩
        walk_at "g"
        walk_at "if"
        · rename_i e
          have e' : f.val ρ = g.val ρ := V.int.inj (of_decide_eq_true e)
          have ev : (Fm.same f g).val ρ = 1 := if_pos e'
          rw [ev] at q
          exact q
        · rename_i e
          have e' : ¬ f.val ρ = g.val ρ := fun z => e (decide_eq_true (by rw [z]))
          have ev : (Fm.same f g).val ρ = 0 := if_neg e'
          rw [ev] at q
          exact q
      | @pick f g k u w z r1 r2 r3 =>
        have hd' : f.dep ≤ d ∧ g.dep ≤ d ∧ k.dep ≤ d := by
          have : max f.dep (max g.dep k.dep) + 1 ≤ d + 1 := hd
          omega
        walk_at "g"
        refine ⟨u, dd, f, M, kvs, ρ, nm, rfl, r1, hd'.1, ho.1, hdd, hρ, ?_⟩
        walk_at "g"
        walk_at "if"
        · rename_i e
          have e' : f.val ρ = 0 := V.int.inj (of_decide_eq_true e)
          have ev : (Fm.pick f g k).val ρ = k.val ρ := if_pos e'
          rw [ev] at q
          walk_at "g"
          exact ⟨z, dd, k, M, kvs, ρ, nm, rfl, r3, hd'.2.2, ho.2.2, hdd, hρ, q⟩
        · rename_i e
          have e' : ¬ f.val ρ = 0 := fun z => e (decide_eq_true (by rw [z]))
          have ev : (Fm.pick f g k).val ρ = g.val ρ := if_neg e'
          rw [ev] at q
          walk_at "g"
          exact ⟨w, dd, g, M, kvs, ρ, nm, rfl, r2, hd'.2.1, ho.2.1, hdd, hρ, q⟩
end
end D

namespace D
open PySem PySem.Spec PyProof.Rows L2
local macro_rules | `(tactic| walk_at "st") => `(tactic| first | exact SqT.of (by assumption) | exact Or.inl (by assumption) | exact SqT.of upd_same | fail "st")
local macro_rules | `(tactic| walk_at "ixt") => `(tactic| refine ⟨_, _, _, _, rfl, rfl, (by walk_at "st" : SqT _ _ _ _), by rfl, ?_⟩)
local macro_rules | `(tactic| walk_at "sq") => `(tactic| first | exact SqL.of (by assumption) | assumption | exact Or.inl (by assumption) | exact SqL.of upd_same | fail "sq")
local macro_rules | `(tactic| walk_at "ix") => `(tactic| refine ⟨_, _, _, _, rfl, rfl, (by walk_at "sq" : SqL _ _ _ _), by rfl, ?_⟩)
local macro_rules | `(tactic| walk_at "set") => `(tactic| refine ⟨_, _, _, _, rfl, rfl, by first | assumption | exact upd_same, by rfl, ?_⟩)
local macro_rules | `(tactic| walk_at "len") => `(tactic| refine ⟨_, _, rfl, Or.inl (by walk_at "sq" : SqL _ _ _ _), ?_⟩)
local macro_rules | `(tactic| walk_at "g") => `(tactic| repeat (first | refine ⟨_, rfl, ?_⟩ | refine ⟨_, _, rfl, rfl, ?_⟩ | refine ⟨Or.inr (by decide), ?_⟩ | refine ⟨Or.inl (by decide), ?_⟩ | refine ⟨(by decide : (0 : Int) < _), ?_⟩ | refine ⟨(⟨by decide, by decide⟩ : CDiv _ _), ?_⟩ | refine ⟨(⟨by decide, by decide, by decide⟩ : CPow _ _), ?_⟩ | refine Or.inl ⟨_, rfl, ?_⟩ | refine ⟨rfl, ?_⟩ | walk_at "ix" | walk_at "ixt" | walk_at "len" | fail "g"))
local macro_rules | `(tactic| walk_at "if") => `(tactic| refine ite2 (fun e => ?_) (fun e => ?_))
section
variable {P : Program} {w : World} {K : PySem.W.Frag} {mg : Str → Option Value} {base : Heap}
/-- the table of the words with parts -/
structure TMany (K : PySem.W.Frag) (mg : Str → Option Value) (w : World) where
  p : Addr
  es : Array DictEntry
  n : Nat
  kd : KDict K w p es n
  g : mg "MANY_PARTS" = some (.ref p)
  is : PySem.W.nsIn K p sIs = some none
  get : PySem.W.nsIn K p sGet = some none
  sum : ∃ t, PySem.W.nsIn K p sSum = some (some (.int 2 t))
  same : ∃ t, PySem.W.nsIn K p sSame = some (some (.int 2 t))
  pick : ∃ t, PySem.W.nsIn K p sPick = some (some (.int 3 t))
def sp_whole : Sp := fun vs H Q _ => ∃ i : Int, vs = [.int i] ∧ Q (.bl true) H
theorem ok_is_whole (T : Txt K mg) : FnOk P w K mg base CX0 1 T.f_is_whole T.d_is_whole ["thing"] sp_whole := by
  refine T.F_is_whole.ok sc_is_whole (fun vs H Q E h => ?_) (fun cdv A outer s H vs Q E hr h => ?_)
  · obtain ⟨_, rfl, _⟩ := h
    rfl
  · obtain ⟨i, rfl, q⟩ := h
    refine ⟨_, (pss_one (ps_ret (pe_and (pe_callB (call_isi1K (K := K) rfl) (by rfl) T.m_isinstance (by decide +kernel) (pa_cons (pv 0) (pa_cons (pe_bltn (v := .ty "int") (u := .type "int") (by rfl) T.m_int (by decide +kernel) rfl) pa_nil))) (pe_one (pe_not (pe_callB (call_isi1K (K := K) rfl) (by rfl) T.m_isinstance (by decide +kernel) (pa_cons (pv 0) (pa_cons (pe_bltn (v := .ty "bool") (u := .type "bool") (by rfl) T.m_bool (by decide +kernel) rfl) pa_nil)))))))), ?_⟩
    walk_at "g"
    refine ⟨_, _, _, _, true, rfl, .ty _, .base (.int _), kit_ty (by decide +kernel), ?_⟩
    walk_at "g"
    refine ⟨_, _, _, _, false, rfl, .ty _, .base (.int _), kit_ty (by decide +kernel), ?_⟩
    walk_at "g"
    exact q
def sp_is_value : Sp := fun vs H Q _ => ∃ i : Int, vs = [.int i] ∧ 0 ≤ i ∧ i ≤ 9 ∧ Q (.bl true) H
theorem ok_is_value (T : Txt K mg) : FnOk P w K mg base CX0 2 T.f_is_value T.d_is_value ["thing"] sp_is_value := by
  have G_is_whole := ok_is_whole (P := P) (w := w) (base := base) T
  refine T.F_is_value.ok sc_is_value (fun vs H Q E h => ?_) (fun cdv A outer s H vs Q E hr h => ?_)
  · obtain ⟨_, rfl, _⟩ := h
    rfl
  · obtain ⟨i, rfl, h0, h9, q⟩ := h
    refine ⟨_, (pss_one (ps_ret (pe_and (pe_call G_is_whole (hr.mono (by omega)) (by rfl) T.g_is_whole T.F_is_whole.kp T.b_is_whole .nil pass0 (pa_cons (pv 0) pa_nil)) (pe_one (pe_chain op_le op_le pe_int (pv 0) pe_int))))), ?_⟩
    walk_at "g"
    rw [decide_eq_true h0]
    walk_at "g"
    show Q (V.bl (decide (i ≤ 9))) H
    rw [decide_eq_true h9]
    exact q
def sp_is_name : Sp := fun vs H Q _ => ∃ x : Str, vs = [.str x] ∧ isNm x ∧ ∀ H', Same H H' → Q (.bl true) H'
theorem ok_is_name (T : Txt K mg) : FnOk P w K mg base CX0 1 T.f_is_name T.d_is_name ["thing"] sp_is_name := by
  refine T.F_is_name.ok sc_is_name (fun vs H Q E h => ?_) (fun cdv A outer s H vs Q E hr h => ?_)
  · obtain ⟨_, rfl, _⟩ := h
    rfl
  · obtain ⟨x, rfl, hx, q⟩ := h
    refine ⟨_, (pss_cons (ps_if (PW.pt (pw_or (pt_not (pt_val (pe_callB (call_isi1K (K := K) rfl) (by rfl) T.m_isinstance (by decide +kernel) (pa_cons (pv 0) (pa_cons (pe_bltn (v := .ty "str") (u := .type "str") (by rfl) T.m_str (by decide +kernel) rfl) pa_nil))))) (pw_or1 (pt_not (pt_chain op_le op_le pe_int (pe_callB call_len_str (by rfl) T.m_len PySem.boot_len (pa_cons (pv 0) pa_nil)) (pe_glob (v := .int 8) rfl T.c_MOST_LETTERS ⟨_, rfl⟩)))))) (pss_one (ps_ret pe_bl)) pss_nil)
      (pss_one (ps_ret (pe_callB (cr_allK (K := K) rfl rfl) (by rfl) T.m_all (by decide +kernel) (pa_cons (pe_lc (own := [("sign", 1)]) (g := gName 1) (tt := tYes) (by rfl) sc_is_name.nd (pi_str (pv 0)) (blkOk_by (own := [("sign", 1)]) (N := ["thing", "sign"]) (sc := defScope s_is_name) (by decide +kernel)) (fun _ _ _ _ _ => (pg_name (i := 1) sc_is_name.nd rfl (Or.inl rfl))) (fun _ _ _ _ _ => pts_nil) (fun _ _ _ _ _ => (pe_chain op_le_str op_le_str pe_str (pv 1) pe_str))) pa_nil))))), ?_⟩
    walk_at "g"
    refine ⟨_, _, _, _, true, rfl, .ty _, .base (.str _), kit_ty (by decide +kernel), ?_⟩
    walk_at "g"
    have h8 := hx.2.1
    refine ⟨Nat.le_of_lt (small1000 (by omega)), ?_⟩
    walk_at "g"
    rw [decide_eq_true (show (1 : Int) ≤ (x.length : Int) by have := hx.1; omega)]
    walk_at "g"
    rw [decide_eq_true (show (x.length : Int) ≤ 8 by omega)]
    walk_at "g"
    intro D hD
    have hsz : x.cps.size = x.length := rfl
    refine lc_valsS (z := x) (ys := List.replicate x.length (V.bl true)) hD (by rw [List.length_replicate, hsz]) (by omega) (fun i c y H' C N hc hy hs hC => ?_) (fun H' hs hD' => ?_)
    · have ey : y = V.bl true := (List.mem_replicate.mp (List.mem_of_getElem? hy)).2
      subst ey
      have hm : c ∈ x.cps.toList := by
        rw [← Array.getElem?_toList] at hc
        exact List.mem_of_getElem? hc
      have hr := hx.2.2 c hm
      walk_at "g"
      rw [sign_lo hr.1]
      refine ⟨_, _, rfl, rfl, ?_⟩
      rw [sign_hi hr.2]
      exact hC
    · refine ⟨D, List.replicate x.length true, rfl, ?_, ?_⟩
      · rw [List.map_replicate]
        exact SqL.of hD'
      · rw [show (List.replicate x.length true).all id = true by rw [List.all_replicate]; simp]
        exact q _ hs
def sp_inner (U : TMany K mg w) : Sp := fun vs H Q _ => ∃ (v : V) (f : Fm) (M : Ms), vs = [v] ∧ Rp M H v f.enc ∧ Mk M H ∧ Pu M H (fun d => d = .tuple (f.subs.map Fm.enc)) Q
theorem ok_inner_forms (T : Txt K mg) (U : TMany K mg w) : FnOk P w K mg base CX0 1 T.f_inner_forms T.d_inner_forms ["form"] (sp_inner U) := by
  refine T.F_inner_forms.ok sc_inner_forms (fun vs H Q E h => ?_) (fun cdv A outer s H vs Q E hr h => ?_)
  · obtain ⟨_, _, _, rfl, _⟩ := h
    rfl
  · obtain ⟨v, f, M, rfl, hR, hM, q⟩ := h
    obtain ⟨a, xs, rfl, na, ha, hx⟩ := hR.form
    refine ⟨_, (pss_cons (ps_if (pt_cmpR (op_in_kd U.kd) (pe_ix (ix_tupK (K := K) rfl) (pv 0) pe_int (fun _ _ => rfl)) (pe_glob (v := .ref U.p) rfl U.g rfl) (by rfl)) (pss_one (ps_ret (pe_slice (sl_tupK (K := K) rfl) (pv 0) (po_some pe_int) po_none))) pss_nil)
      (pss_one (ps_ret (pe_tup pa_nil)))), ?_⟩
    have cut : ∀ (y : V) (r : List V) (es : List PyData), xs = y :: r → r ≠ [] → RpAll M H r es → es = f.subs.map Fm.enc → rSlA K (V.ref a) (some 1) none H Q := by
      rintro y r es rfl hr hR rfl
      refine ⟨a, _, rfl, .inl ha, fun z => ?_, fun _ p hp => ?_⟩
      · exfalso
        have z1 := z.1
        rw [show HT.sIx (y :: r).length 0 (some 1) = min 1 (y :: r).length from HT.sIx_nat _ _ 1] at z1
        rw [List.length_cons] at z1
        omega
      · rw [cut1]
        exact q _ _ _ (same_new hp) (.tup (hM.out hp) (.inl upd_same) (hR.sx (Sx.new hp))) rfl
    cases hx with
    | is n =>
      walk_at "g"
      refine ⟨sIs, none, rfl, rfl, U.is, ?_⟩
      walk_at "g"
      refine ⟨Nat.zero_le _, fun p hp => ?_⟩
      exact q _ _ _ (same_new hp) (.tup (hM.out hp) (.inl upd_same) .nil) rfl
    | get x =>
      walk_at "g"
      refine ⟨sGet, none, rfl, rfl, U.get, ?_⟩
      walk_at "g"
      refine ⟨Nat.zero_le _, fun p hp => ?_⟩
      exact q _ _ _ (same_new hp) (.tup (hM.out hp) (.inl upd_same) .nil) rfl
    | @sum f g u w r1 r2 =>
      obtain ⟨t, ht⟩ := U.sum
      walk_at "g"
      refine ⟨sSum, some (.int 2 t), rfl, rfl, ht, ?_⟩
      walk_at "g"
      exact cut _ _ _ rfl (by simp) (.cons r1 (.one r2)) rfl
    | @same f g u w r1 r2 =>
      obtain ⟨t, ht⟩ := U.same
      walk_at "g"
      refine ⟨sSame, some (.int 2 t), rfl, rfl, ht, ?_⟩
      walk_at "g"
      exact cut _ _ _ rfl (by simp) (.cons r1 (.one r2)) rfl
    | @pick f g k u w z r1 r2 r3 =>
      obtain ⟨t, ht⟩ := U.pick
      walk_at "g"
      refine ⟨sPick, some (.int 3 t), rfl, rfl, ht, ?_⟩
      walk_at "g"
      exact cut _ _ _ rfl (by simp) (.cons r1 (.cons r2 (.one r3))) rfl
def sp_well (U : TMany K mg w) : Sp := fun vs H Q _ => ∃ (v : V) (f : Fm) (M : Ms), vs = [v] ∧ Rp M H v f.enc ∧ f.ok isNm ∧ ∀ H', Same H H' → Q (.bl true) H'
theorem ok_well_made (T : Txt K mg) (U : TMany K mg w) : FnOk P w K mg base CX0 3 T.f__well_made T.d__well_made ["part"] (sp_well U) := by
  have G_is_value := ok_is_value (P := P) (w := w) (base := base) T
  have G_is_name := ok_is_name (P := P) (w := w) (base := base) T
  refine T.F__well_made.ok sc__well_made (fun vs H Q E h => ?_) (fun cdv A outer s H vs Q E hr h => ?_)
  · obtain ⟨_, _, _, rfl, _⟩ := h
    rfl
  · obtain ⟨v, f, M, rfl, hR, ho, q⟩ := h
    obtain ⟨a, xs, rfl, na, ha, hx⟩ := hR.form
    refine ⟨_, (pss_cons (ps_if (PW.pt (pw_or (pt_not (pt_val (pe_callB (call_isi1K (K := K) rfl) (by rfl) T.m_isinstance (by decide +kernel) (pa_cons (pv 0) (pa_cons (pe_bltn (v := .ty "tuple") (u := .type "tuple") (by rfl) T.m_tuple (by decide +kernel) rfl) pa_nil))))) (pw_or (pt_not (pt_truthK (K := K) rfl (pv 0) (by intro _; rfl))) (pw_or1 (pt_not (pt_val (pe_callB (call_isi1K (K := K) rfl) (by rfl) T.m_isinstance (by decide +kernel) (pa_cons (pe_ix (ix_tupK (K := K) rfl) (pv 0) pe_int (fun _ _ => rfl)) (pa_cons (pe_bltn (v := .ty "str") (u := .type "str") (by rfl) T.m_str (by decide +kernel) rfl) pa_nil))))))))) (pss_one (ps_ret pe_bl)) pss_nil)
      (pss_cons (ps_if (pt_cmpR op_eq (pe_ix (ix_tupK (K := K) rfl) (pv 0) pe_int (fun _ _ => rfl)) pe_str (nomark _)) (pss_one (ps_ret (pe_and (pe_cmpR op_eq (pe_callB (call_lenK (K := K) rfl) (by rfl) T.m_len PySem.boot_len (pa_cons (pv 0) pa_nil)) pe_int (nomark _)) (pe_one (pe_call G_is_value (hr.mono (by omega)) (by rfl) T.g_is_value T.F_is_value.kp T.b_is_value .nil pass0 (pa_cons (pe_ix (ix_tupK (K := K) rfl) (pv 0) pe_int (fun _ _ => rfl)) pa_nil)))))) pss_nil)
      (pss_cons (ps_if (pt_cmpR op_eq (pe_ix (ix_tupK (K := K) rfl) (pv 0) pe_int (fun _ _ => rfl)) pe_str (nomark _)) (pss_one (ps_ret (pe_and (pe_cmpR op_eq (pe_callB (call_lenK (K := K) rfl) (by rfl) T.m_len PySem.boot_len (pa_cons (pv 0) pa_nil)) pe_int (nomark _)) (pe_one (pe_call G_is_name (hr.mono (by omega)) (by rfl) T.g_is_name T.F_is_name.kp T.b_is_name .nil pass0 (pa_cons (pe_ix (ix_tupK (K := K) rfl) (pv 0) pe_int (fun _ _ => rfl)) pa_nil)))))) pss_nil)
      (pss_one (ps_ret (pe_and (pe_cmpR (op_in_kd U.kd) (pe_ix (ix_tupK (K := K) rfl) (pv 0) pe_int (fun _ _ => rfl)) (pe_glob (v := .ref U.p) rfl U.g rfl) (by rfl)) (pe_one (pe_cmpR op_eq (pe_callB (call_lenK (K := K) rfl) (by rfl) T.m_len PySem.boot_len (pa_cons (pv 0) pa_nil)) (pe_op op_add (pe_ix ix_kdict (pe_glob (v := .ref U.p) rfl U.g rfl) (pe_ix (ix_tupK (K := K) rfl) (pv 0) pe_int (fun _ _ => rfl)) (fun _ _ => rfl)) pe_int) (nomark _))))))))), ?_⟩
    walk_at "g"
    refine ⟨_, _, _, _, true, rfl, .ty _, rd_ty ha, kit_ty (by decide +kernel), ?_⟩
    cases hx with
    | is n =>
      walk_at "g"
      refine ⟨true, .inr (.inl ⟨_, .inl ha, rfl⟩), ?_⟩
      walk_at "g"
      refine ⟨_, _, _, _, true, rfl, .ty _, .base (.str _), kit_ty (by decide +kernel), ?_⟩
      walk_at "g"
      refine ⟨_, _, rfl, .inr (.inl ha), ?_⟩
      walk_at "g"
      exact ⟨ho.1, ho.2, q _ (Same.refl H)⟩
    | get x =>
      walk_at "g"
      refine ⟨true, .inr (.inl ⟨_, .inl ha, rfl⟩), ?_⟩
      walk_at "g"
      refine ⟨_, _, _, _, true, rfl, .ty _, .base (.str _), kit_ty (by decide +kernel), ?_⟩
      walk_at "g"
      refine ⟨_, _, rfl, .inr (.inl ha), ?_⟩
      walk_at "g"
      exact ⟨ho, q⟩
    | sum r1 r2 =>
      obtain ⟨t, ht⟩ := U.sum
      walk_at "g"
      refine ⟨true, .inr (.inl ⟨_, .inl ha, rfl⟩), ?_⟩
      walk_at "g"
      refine ⟨_, _, _, _, true, rfl, .ty _, .base (.str _), kit_ty (by decide +kernel), ?_⟩
      walk_at "g"
      refine ⟨_, _, rfl, rfl, ht, ?_⟩
      walk_at "g"
      refine ⟨_, _, rfl, .inr (.inl ha), ?_⟩
      walk_at "g"
      refine ⟨_, _, .int 2, rfl, rfl, ⟨_, _, _, U.kd.at_, U.kd.lit, ht, ⟨_, rfl⟩⟩, ?_⟩
      walk_at "g"
      exact q _ (Same.refl H)
    | same r1 r2 =>
      obtain ⟨t, ht⟩ := U.same
      walk_at "g"
      refine ⟨true, .inr (.inl ⟨_, .inl ha, rfl⟩), ?_⟩
      walk_at "g"
      refine ⟨_, _, _, _, true, rfl, .ty _, .base (.str _), kit_ty (by decide +kernel), ?_⟩
      walk_at "g"
      refine ⟨_, _, rfl, rfl, ht, ?_⟩
      walk_at "g"
      refine ⟨_, _, rfl, .inr (.inl ha), ?_⟩
      walk_at "g"
      refine ⟨_, _, .int 2, rfl, rfl, ⟨_, _, _, U.kd.at_, U.kd.lit, ht, ⟨_, rfl⟩⟩, ?_⟩
      walk_at "g"
      exact q _ (Same.refl H)
    | pick r1 r2 r3 =>
      obtain ⟨t, ht⟩ := U.pick
      walk_at "g"
      refine ⟨true, .inr (.inl ⟨_, .inl ha, rfl⟩), ?_⟩
      walk_at "g"
      refine ⟨_, _, _, _, true, rfl, .ty _, .base (.str _), kit_ty (by decide +kernel), ?_⟩
      walk_at "g"
      refine ⟨_, _, rfl, rfl, ht, ?_⟩
      walk_at "g"
      refine ⟨_, _, rfl, .inr (.inl ha), ?_⟩
      walk_at "g"
      refine ⟨_, _, .int 3, rfl, rfl, ⟨_, _, _, U.kd.at_, U.kd.lit, ht, ⟨_, rfl⟩⟩, ?_⟩
      walk_at "g"
      exact q _ (Same.refl H)
/-- sizes on the stack -/
def sp_check (U : TMany K mg w) : Sp := fun vs H Q _ => ∃ (v : V) (f : Fm) (M : Ms), vs = [v] ∧ Rp M H v f.enc ∧ Mk M H ∧ f.ok isNm ∧ f.dep ≤ 5 ∧ ∀ H', Same H H' → Q .non H'
theorem ok_check_form (T : Txt K mg) (U : TMany K mg w) : FnOk P w K mg base CX0 4 T.f_check_form T.d_check_form ["parts"] (sp_check U) := by
  have G__well_made := ok_well_made (P := P) (base := base) T U
  have G_inner_forms := ok_inner_forms (P := P) (base := base) T U
  refine T.F_check_form.ok sc_check_form (fun vs H Q E h => ?_) (fun cdv A outer s H vs Q E hr h => ?_)
  · obtain ⟨_, _, _, rfl, _⟩ := h
    rfl
  · obtain ⟨v, f, M, rfl, hR, hM, ho, hd, q⟩ := h
    refine ⟨_, (pss_cons (ps_set (i := 1) sc_check_form.nd rfl (Or.inl rfl) pe_int)
      (pss_cons (ps_set (i := 2) sc_check_form.nd rfl (Or.inl rfl) (pe_lst (pa_cons (pe_tup (pa_cons (pv 0) (pa_cons pe_int pa_nil))) pa_nil)))
      (pss_cons (ps_while PassesOwn.never (pt_truthK (K := K) rfl (pv 2) (by intro _; rfl)) (pss_cons (ps_asg (pe_bm0K2 (K := K) rfl PySem.F.plainAttrs_list PySem.F.slot_list_pop PySem.F.type_list_pop mt_pop (pv 2)) (pg_tupK (K := K) rfl rfl (pgs_cons (pg_name (i := 3) sc_check_form.nd rfl (Or.inl rfl)) (pgs_cons (pg_name (i := 4) sc_check_form.nd rfl (Or.inr rfl)) pgs_nil))))
      (pss_cons (ps_if (pt_not (pt_val (pe_call G__well_made (hr.mono (by omega)) (by rfl) T.g__well_made T.F__well_made.kp T.b__well_made .nil pass0 (pa_cons (pv 3) pa_nil)))) (pss_one ps_never) pss_nil)
      (pss_cons (ps_if (pt_cmpR op_gt (pv 4) (pv 1) (nomark _)) (pss_one (ps_set (i := 1) sc_check_form.nd rfl (Or.inl rfl) (pv 4))) pss_nil)
      (pss_cons (ps_setLc (i := 5) (own := [("form", 6)]) (g := gName 6) (tt := tYes) (by rfl) sc_check_form.nd rfl rfl (sw_true rfl rfl rfl (by decide +kernel)) (pi_tupK (K := K) rfl (pe_call G_inner_forms (hr.mono (by omega)) (by rfl) T.g_inner_forms T.F_inner_forms.kp T.b_inner_forms .nil pass0 (pa_cons (pv 3) pa_nil))) (blkOk_by (own := [("form", 6)]) (N := ["parts", "deepest", "waiting", "part", "level", "inner", "form"]) (sc := defScope s_check_form) (by decide +kernel)) (fun _ _ _ _ _ => (pg_name (i := 6) sc_check_form.nd rfl (Or.inl rfl))) (fun _ _ _ _ _ => pts_nil) (fun _ _ _ _ _ => (pe_tup (pa_cons (pv 6) (pa_cons (pe_op op_add (pv 4) pe_int) pa_nil)))))
      (pss_one (ps_expr (pe_bmK2 (K := K) rfl PySem.F.plainAttrs_list PySem.F.slot_list_extend PySem.F.type_list_extend mt_extend (pv 2) (pa_cons (pe_revL (pv 5)) pa_nil)))))))))
      (pss_one (ps_if (pt_cmpR op_gt (pv 1) (pe_glob (v := .int 5) rfl T.c_MOST_LEVELS ⟨_, rfl⟩) (nomark _)) (pss_one ps_never) pss_nil))))), ?_⟩
    walk_at "g"
    refine ⟨sz2, fun t ht => ?_⟩
    refine ⟨szK rfl, fun s ns => ?_⟩
    have ts : t ≠ s := ne_of_none upd_same ns
    have ns0 : H s = none := by
      rw [upd_ne ts.symm] at ns
      exact ns
    let N : Ms := also M s
    have hs0 : Same H (upd (upd H t (.tup [v, .int 1])) s (.lst [.ref t])) := fun c o e => same_new ns c o (same_new ht c o e)
    have hMN : Mk N (upd (upd H t (.tup [v, .int 1])) s (.lst [.ref t])) := (hM.gr (Gr.same hs0)).also upd_there
    refine ⟨fun m σ H' => ∃ y3 y4 y5 y6 dp ps xs, σ = [some v, some (.int dp), some (.ref s), y3, y4, y5, y6] ∧ dp ≤ 5 ∧ Same H H' ∧ Mk N H' ∧ H' s = some (.lst xs) ∧ RpAll N H' xs (ps.map lvD) ∧ (∀ p ∈ ps, p.1.ok isNm ∧ p.1.dep + p.2 ≤ 6 ∧ 1 ≤ p.2) ∧ szs ps ≤ 10000 ∧ m = szs ps, ⟨_, none, none, none, none, 0, [(f, 1)], _, rfl, by decide, hs0, hMN, upd_same, ?_, ?_, ?_, rfl⟩, fun m σ H' hW => ?_⟩
    · refine .one (.tup (fun z => z.elim (hM.out ht) ts) (.inl (by rw [upd_ne ts, upd_same]; rfl)) (.cons ?_ (.one (.int _))))
      exact (hR.fresh ns0).sx (Sx.same hs0)
    · intro p hp
      rw [List.mem_singleton.mp hp]
      exact ⟨ho, by show f.dep + 1 ≤ 6; omega, Nat.le_refl _⟩
    · have := Fm.size_le 5 f hd
      show ([(f, 1)].map fun p => p.1.size).sum ≤ 10000
      simp
      omega
    · obtain ⟨y3, y4, y5, y6, dp, ps, xs, rfl, hdp, hs, hMk, es, rs, hp, hsz, rfl⟩ := hW
      have lx := rs.length
      rw [List.length_map] at lx
      walk_at "g"
      refine ⟨!xs.isEmpty, .inl ⟨xs, SqL.of es, rfl⟩, ?_⟩
      walk_at "if"
      · rename_i e
        have hne : ps ≠ [] := fun z => by
          have : xs = [] := List.length_eq_zero_iff.mp (by rw [lx, z]; rfl)
          rw [this] at e
          cases e
        obtain ⟨qs, p, rfl⟩ : ∃ qs p, ps = qs ++ [p] := ⟨ps.dropLast, ps.getLast hne, (List.dropLast_concat_getLast hne).symm⟩
        rw [List.map_append] at rs
        obtain ⟨us, u, rfl, ru, rp⟩ := rs.last
        obtain ⟨pu, xu, rfl, nu, hu, rxu⟩ := Rp.tupN rp
        obtain ⟨w1, w2, rfl, r1, r2⟩ := rxu.inv2
        cases r2
        obtain ⟨fo, fd, fl⟩ := hp p (by simp)
        have hsz2 : szs qs + p.1.size ≤ 10000 := by
          rw [szs_app] at hsz
          exact hsz
        have hM1 : szs (qs ++ [p]) = szs qs + p.1.size := szs_app _ _
        generalize hm : szs (qs ++ [p]) = m at *
        refine ⟨fun σ2 H2 => ∃ y3 y4 y5 y6 dp ps xs, σ2 = [some v, some (.int dp), some (.ref s), y3, y4, y5, y6] ∧ dp ≤ 5 ∧ Same H H2 ∧ Mk N H2 ∧ H2 s = some (.lst xs) ∧ RpAll N H2 xs (ps.map lvD) ∧ (∀ p ∈ ps, p.1.ok isNm ∧ p.1.dep + p.2 ≤ 6 ∧ 1 ≤ p.2) ∧ szs ps < m, fun σ2 H2 h2 => ?_, ?_⟩
        · obtain ⟨y3, y4, y5, y6, dp, ps, xs, a1, a2, a3, a4, a5, a6, a7, a8⟩ := h2
          exact ⟨_, a8, y3, y4, y5, y6, dp, ps, xs, a1, a2, a3, a4, a5, a6, a7, by omega, rfl⟩
        walk_at "g"
        refine ⟨.inl ⟨rfl, _, SqL.of es⟩, s, _, .ref pu, rfl, rfl, es, ?_, ?_⟩
        · rw [List.length_append, List.length_singleton, Nat.add_sub_cancel, List.getElem?_append_right (Nat.le_refl _), Nat.sub_self]
          rfl
        rw [List.dropLast_concat]
        generalize q1 : upd H' s (.lst us) = H1
        have s1 : Sx N H' H1 := q1 ▸ Sx.put (.inr rfl)
        have e1 : H1 s = some (.lst us) := q1 ▸ upd_same
        have hs1 : Same H H1 := q1 ▸ same_put hs ns0
        have g1 : Gr H' H1 := q1 ▸ Gr.upd
        clear q1
        have hu1 := sx_rd s1 nu hu
        have r11 := r1.sx s1
        have hMk1 := hMk.gr g1
        refine ⟨pu, _, rfl, .inl hu1, rfl, _, _, rfl, _, _, rfl, rfl, ?_⟩
        with_reducible refine seq_join (fun σ3 H3 => σ3 = [some v, some (.int dp), some (.ref s), some w1, some (.int (p.2 : Int)), y5, y6] ∧ Same H1 H3) (fun hN => ?_) (fun σ3 H2 c => ?_)
        · walk_at "g"
          exact ⟨_, p.1, N, rfl, r11, fo, fun H2 s2 => ⟨_, rfl, hN _ _ ⟨rfl, s2⟩⟩⟩
        obtain ⟨rfl, s2⟩ := c
        have lev5 : (p.2 : Int) ≤ 5 := by have := p.1.dep_pos; omega
        with_reducible refine seq_join (fun σ3 H3 => ∃ dp', σ3 = [some v, some (.int dp'), some (.ref s), some w1, some (.int (p.2 : Int)), y5, y6] ∧ dp' ≤ 5 ∧ H3 = H2) (fun hN => ?_) (fun σ3 H3 c => ?_)
        · walk_at "g"
          walk_at "if"
          · exact ⟨_, rfl, hN _ _ ⟨_, rfl, lev5, rfl⟩⟩
          · exact hN _ _ ⟨_, rfl, hdp, rfl⟩
        · obtain ⟨dp', rfl, hdp', rfl⟩ := c
          walk_at "g"
          have r12 := r11.sx (Sx.same s2)
          have hMk2 := hMk1.gr (Gr.same s2)
          refine ⟨_, p.1, N, rfl, r12, hMk2, fun v3 H3 d3 s3 r3 e3 => ?_⟩
          subst e3
          obtain ⟨p3, x3, rfl, n3, h3, rx3⟩ := Rp.tupN r3
          have l3 := rx3.length
          rw [List.length_map] at l3
          have hMk3 := hMk2.gr (Gr.same s3)
          refine ⟨p3, rfl, ⟨_, .inl h3⟩, fun D hD => ?_⟩
          refine lc_dataT (xs := x3) (ys := (p.1.subs.map fun g => (g, p.2 + 1)).map lvD) N hMk3 hD (.inl h3) (by rw [List.length_map, List.length_map, l3]) (by have := subs_len p.1; omega) (fun i x y Ha C Nx hx hy hsa hm hC => ?_) (fun H4 s4 L4 => ?_)
          · obtain ⟨d, hd1, rd⟩ := rx3.get hx
            rw [List.getElem?_map] at hd1 hy
            rw [List.getElem?_map] at hy
            obtain ⟨g, hg, rfl⟩ := Option.map_eq_some_iff.mp hd1
            rw [hg] at hy
            cases hy
            refine ⟨rfl, ?_⟩
            walk_at "g"
            refine ⟨sz2, fun u hu => ?_⟩
            refine hC _ _ (same_new hu) (.tup (hm.out hu) (.inl upd_same) (.cons ?_ (.one ?_)))
            · exact (((rd.fresh hD).sx (Sx.same hsa)).sx (Sx.new hu))
            · exact .int _
          · obtain ⟨nD, ys, eD, rD⟩ := L4
            have lD := rD.length
            rw [List.length_map, List.length_map] at lD
            have s24 := s2.trans (s3.trans s4)
            have e4 := s24 _ _ e1
            refine ⟨.ref s, rfl, .inl ⟨rfl, _, SqL.of e4⟩, .ref D, rfl, D, ys, rfl, SqL.of eD, fun z hz => ?_⟩
            have sz : s ≠ z := ne_of_none e4 hz
            have lu := ru.length
            refine ⟨s, z, us, ys.reverse, rfl, rfl, by rw [upd_ne sz]; exact e4, upd_same, ?_, ?_⟩
            · have := szs_len qs
              rw [List.length_map] at lu
              have := subs_len p.1
              rw [List.length_reverse]
              exact Nat.le_of_lt (small1000000 (by omega))
            · have s5 : Sx N H4 (upd (upd H4 z (.lst ys.reverse)) s (.lst (us ++ ys.reverse))) := (Sx.new hz).trans (Sx.put (.inr rfl))
              have hs5 : Same H (upd (upd H4 z (.lst ys.reverse)) s (.lst (us ++ ys.reverse))) := same_put ((hs1.trans s24).trans (same_new hz)) ns0
              refine ⟨_, _, _, _, dp', qs ++ (p.1.subs.map fun g => (g, p.2 + 1)).reverse, us ++ ys.reverse, rfl, hdp', hs5, (hMk3.gr (Gr.same s4)).gr (Gr.upd.trans Gr.upd), upd_same, ?_, ?_, ?_⟩
              · rw [List.map_append, List.map_reverse]
                exact (((ru.sx s1).sx (Sx.same s24)).append rD.reverse).sx s5
              · intro r hr
                rcases List.mem_append.mp hr with hr | hr
                · exact hp r (List.mem_append_left _ hr)
                · rw [List.mem_reverse] at hr
                  obtain ⟨g, hg, rfl⟩ := List.mem_map.mp hr
                  have := subs_dep hg
                  exact ⟨subs_ok fo hg, by show g.dep + (p.2 + 1) ≤ 6; omega, by show 1 ≤ p.2 + 1; omega⟩
              · rw [szs_app, szs_rev]
                have := subs_size p.1 (p.2 + 1)
                omega
      · rename_i e
        walk_at "g"
        rw [decide_eq_false (show ¬ (5 : Int) < dp by omega)]
        exact q _ hs
end
end D

namespace D
open PySem PySem.Spec PyProof.Rows L2
local macro_rules | `(tactic| walk_at "st") => `(tactic| first | exact SqT.of (by assumption) | exact Or.inl (by assumption) | exact SqT.of upd_same | fail "st")
local macro_rules | `(tactic| walk_at "ixt") => `(tactic| refine ⟨_, _, _, _, rfl, rfl, (by walk_at "st" : SqT _ _ _ _), by rfl, ?_⟩)
local macro_rules | `(tactic| walk_at "sq") => `(tactic| first | exact SqL.of (by assumption) | assumption | exact Or.inl (by assumption) | exact SqL.of upd_same | fail "sq")
local macro_rules | `(tactic| walk_at "ix") => `(tactic| refine ⟨_, _, _, _, rfl, rfl, (by walk_at "sq" : SqL _ _ _ _), by rfl, ?_⟩)
local macro_rules | `(tactic| walk_at "set") => `(tactic| refine ⟨_, _, _, _, rfl, rfl, by first | assumption | exact upd_same, by rfl, ?_⟩)
local macro_rules | `(tactic| walk_at "len") => `(tactic| refine ⟨_, _, rfl, Or.inl (by walk_at "sq" : SqL _ _ _ _), ?_⟩)
local macro_rules | `(tactic| walk_at "g") => `(tactic| repeat (first | refine ⟨_, rfl, ?_⟩ | refine ⟨_, _, rfl, rfl, ?_⟩ | refine ⟨Or.inr (by decide), ?_⟩ | refine ⟨Or.inl (by decide), ?_⟩ | refine ⟨(by decide : (0 : Int) < _), ?_⟩ | refine ⟨(⟨by decide, by decide⟩ : CDiv _ _), ?_⟩ | refine ⟨(⟨by decide, by decide, by decide⟩ : CPow _ _), ?_⟩ | refine Or.inl ⟨_, rfl, ?_⟩ | refine ⟨rfl, ?_⟩ | walk_at "ix" | walk_at "ixt" | walk_at "len" | fail "g"))
local macro_rules | `(tactic| walk_at "if") => `(tactic| refine ite2 (fun e => ?_) (fun e => ?_))
section
variable {P : Program} {w : World} {K : PySem.W.Frag} {mg : Str → Option Value} {base : Heap}
def sp_names (d : Nat) : Sp := fun vs H Q _ => ∃ (v : V) (f : Fm) (M : Ms), vs = [v] ∧ Rp M H v f.enc ∧ Mk M H ∧ f.dep ≤ d ∧ d ≤ 5 ∧ Pu M H (fun x => x = .tuple (f.names.map PyData.str)) Q
theorem ok_names_in (T : Txt K mg) (U : TMany K mg w) : ∀ d, FnOk P w K mg base CX0 (d + 2) T.f_names_in T.d_names_in ["form"] (sp_names d) := by
  have G_inner_forms := ok_inner_forms (P := P) (base := base) T U
  intro d
  induction d with
  | zero =>
    refine T.F_names_in.ok sc_names_in (fun vs H Q E h => ?_) (fun cdv A outer s H vs Q E hr h => ?_)
    · obtain ⟨_, _, _, rfl, _⟩ := h
      rfl
    · obtain ⟨v, f, M, rfl, _, _, hd, _⟩ := h
      exact absurd f.dep_pos (by omega)
  | succ d ih =>
    have G_names_in := ih
    refine T.F_names_in.ok sc_names_in (fun vs H Q E h => ?_) (fun cdv A outer s H vs Q E hr h => ?_)
    · obtain ⟨_, _, _, rfl, _⟩ := h
      rfl
    · obtain ⟨v, f, M, rfl, hR, hM, hd, hd5, q⟩ := h
      refine ⟨_, (pss_cons (ps_if (pt_cmpR op_eq (pe_ix (ix_tupK (K := K) rfl) (pv 0) pe_int (fun _ _ => rfl)) pe_str (nomark _)) (pss_one (ps_ret (pe_tup (pa_cons (pe_ix (ix_tupK (K := K) rfl) (pv 0) pe_int (fun _ _ => rfl)) pa_nil)))) pss_nil)
      (pss_cons (ps_set (i := 1) sc_names_in.nd rfl (Or.inl rfl) (pe_lst pa_nil))
      (pss_cons (ps_for PassesOwn.never rfl (pi_tupK (K := K) rfl (pe_call G_inner_forms (hr.mono (by omega)) (by rfl) T.g_inner_forms T.F_inner_forms.kp T.b_inner_forms .nil pass0 (pa_cons (pv 0) pa_nil))) (pg_name (i := 2) sc_names_in.nd rfl (Or.inl rfl)) (pss_one (ps_for PassesOwn.never rfl (pi_tupK (K := K) rfl (pe_call G_names_in (hr.mono (by omega)) (by rfl) T.g_names_in T.F_names_in.kp T.b_names_in .nil pass0 (pa_cons (pv 2) pa_nil))) (pg_name (i := 3) sc_names_in.nd rfl (Or.inl rfl)) (pss_one (ps_if (pt_cmpR (op_notIn_seqK (K := K) rfl) (pv 3) (pv 1) (by rfl)) (pss_one (ps_expr (pe_bmK2 (K := K) rfl PySem.F.plainAttrs_list PySem.F.slot_list_append PySem.F.type_list_append mt_append (pv 1) (pa_cons (pv 3) pa_nil)))) pss_nil)))))
      (pss_one (ps_ret (pe_callTy (call_tupleK (K := K) rfl) (by rfl) T.m_tuple (by decide +kernel) (pa_cons (pv 1) pa_nil))))))), ?_⟩
      have rest : (∀ x, f ≠ .get x) → ∀ (C : TS) (D : Ends), True := fun _ _ _ => trivial
      obtain ⟨a, xs, rfl, na, ha, hx⟩ := id hR.form
      by_cases hg : ∃ x, f = .get x
      · obtain ⟨x, rfl⟩ := hg
        cases hx with
        | get =>
        walk_at "g"
        refine ⟨szK rfl, fun p hp => ?_⟩
        exact q _ _ _ (same_new hp) (.tup (hM.out hp) (.inl upd_same) (.one (.str x))) rfl
      · have hng : ∀ x, f ≠ .get x := fun x e => hg ⟨x, e⟩
        obtain ⟨wd, ys, rfl, hw⟩ : ∃ wd ys, xs = .str wd :: ys ∧ wd ≠ sGet := by
          cases hx with
          | is n => exact ⟨_, _, rfl, by decide⟩
          | get x => exact absurd rfl (hng x)
          | sum a b => exact ⟨_, _, rfl, by decide⟩
          | same a b => exact ⟨_, _, rfl, by decide⟩
          | pick a b c => exact ⟨_, _, rfl, by decide⟩
        walk_at "g"
        refine ⟨_, _, _, _, rfl, rfl, .inl ha, atI_nat (j := 0) rfl, ?_⟩
        walk_at "g"
        rw [decide_eq_false (show ¬ V.str wd = V.str (Str.ofString "get") from fun z => hw (V.str.inj z))]
        walk_at "g"
        refine ⟨Nat.zero_le _, fun l nl => ?_⟩
        walk_at "g"
        let N : Ms := also M l
        generalize q1 : upd H l (.lst []) = H1
        have s1 : Same H H1 := q1 ▸ same_new nl
        have e1 : H1 l = some (.lst []) := q1 ▸ upd_same
        clear q1
        have hMN : Mk N H1 := (hM.gr (Gr.same s1)).also (ne_none e1)
        refine ⟨_, f, N, rfl, (hR.fresh nl).sx (Sx.same s1), hMN, fun v3 H3 d3 s3 r3 e3 => ?_⟩
        subst e3
        obtain ⟨p3, x3, rfl, n3, h3, rx3⟩ := Rp.tupN r3
        have l3 := rx3.length
        rw [List.length_map] at l3
        have e3 := s3 _ _ e1
        refine ⟨p3, rfl, ⟨_, .inl h3⟩, ?_⟩
        refine for_tup (K := K) (a := p3) (xs := x3) (fun i σ H' => ∃ y2 y3, σ = [some (.ref a), some (.ref l), y2, y3] ∧ Same H H' ∧ Sx N H3 H' ∧ Gr H3 H' ∧ H' l = some (.lst (((f.subs.take i).foldl stepN []).map V.str)) ∧ ((f.subs.take i).foldl stepN []).length ≤ i * 1024) ⟨none, none, rfl, s1.trans s3, Sx.refl, Gr.refl, e3, Nat.le_refl _⟩ (fun i σ H' _ p => ?_) (fun i x σ H' hx p => ?_) (fun σ H' p => ?_)
        · obtain ⟨y2, y3, rfl, sh, sx, g, e, le⟩ := p
          exact sx_t sx n3 (.inl h3)
        · obtain ⟨y2, y3, rfl, sh, sx, g, e, le⟩ := p
          obtain ⟨dd, hd1, rd⟩ := (rx3.sx sx).get hx
          rw [List.getElem?_map] at hd1
          obtain ⟨s, hs, rfl⟩ := Option.map_eq_some_iff.mp hd1
          have hsd := subs_dep (List.mem_of_getElem? hs)
          have hi3 : i < 3 := by
            have := (List.getElem?_eq_some_iff.mp hs).1
            have := subs_len f
            omega
          walk_at "g"
          have hMk3 : Mk N H' := (hMN.gr (Gr.same s3)).gr g
          refine ⟨x, s, N, rfl, rd, hMk3, by omega, by omega, fun v4 H4 d4 s4 r4 e4 => ?_⟩
          subst e4
          obtain ⟨p4, x4, rfl, n4, h4, rx4⟩ := Rp.tupN r4
          have ex4 := rx4.ofStrs
          subst ex4
          have nl4 : s.names.length ≤ 1024 := Nat.le_trans s.names_len (Nat.le_trans (Fm.size_le 5 s (by omega)) (by decide))
          have e4 := s4 _ _ e
          generalize hacc : (f.subs.take i).foldl stepN [] = acc at e e4 le
          refine ⟨p4, rfl, ⟨_, .inl h4⟩, ?_⟩
          refine for_tup (K := K) (a := p4) (xs := s.names.map V.str) (fun j σ H5 => ∃ y2 y3, σ = [some (.ref a), some (.ref l), y2, y3] ∧ Same H H5 ∧ Sx N H4 H5 ∧ Gr H4 H5 ∧ H5 l = some (.lst (((s.names.take j).foldl addN acc).map V.str)) ∧ ((s.names.take j).foldl addN acc).length ≤ acc.length + j) ⟨_, _, rfl, sh.trans s4, Sx.refl, Gr.refl, e4, Nat.le_refl _⟩ (fun j σ H5 _ p => ?_) (fun j x σ H5 hx p => ?_) (fun σ H5 p => ?_)
          · obtain ⟨y2, y3, rfl, sh5, sx5, g5, e5, le5⟩ := p
            exact sx_t sx5 n4 (.inl h4)
          · obtain ⟨y2, y3, rfl, sh5, sx5, g5, e5, le5⟩ := p
            rw [List.getElem?_map] at hx
            obtain ⟨n, hn, rfl⟩ := Option.map_eq_some_iff.mp hx
            have hj : j < s.names.length := (List.getElem?_eq_some_iff.mp hn).1
            have hst := fold_take addN acc s.names j n hn
            walk_at "g"
            refine ⟨flat_strs _, ?_⟩
            rw [in_strs]
            walk_at "g"
            walk_at "if"
            · rename_i c
              have c' : n ∉ (s.names.take j).foldl addN acc := of_decide_eq_false (by simpa using c)
              have ha : addN ((s.names.take j).foldl addN acc) n = (s.names.take j).foldl addN acc ++ [n] := if_neg c'
              refine ⟨.ref l, rfl, .inl ⟨rfl, _, SqL.of e5⟩, .str n, rfl, l, _, _, rfl, rfl, e5, ?_, ?_⟩
              · rw [List.length_map]
                exact small1000000 (by omega)
              · refine ⟨_, _, rfl, same_put sh5 nl, sx5.trans (Sx.put (.inr rfl)), g5.trans Gr.upd, ?_, ?_⟩
                · rw [upd_same, hst, ha, List.map_append]
                  rfl
                · rw [hst]
                  have := addN_len ((s.names.take j).foldl addN acc) n
                  omega
            · rename_i c
              have c' : n ∈ (s.names.take j).foldl addN acc := by
                by_cases z : n ∈ (s.names.take j).foldl addN acc
                · exact z
                · exact absurd (by simp [z]) c
              have ha : addN ((s.names.take j).foldl addN acc) n = (s.names.take j).foldl addN acc := if_pos c'
              refine ⟨_, _, rfl, sh5, sx5, g5, ?_, ?_⟩
              · rw [hst, ha]
                exact e5
              · rw [hst, ha]
                omega
          · obtain ⟨y2, y3, rfl, sh5, sx5, g5, e5, le5⟩ := p
            rw [List.length_map, List.take_length] at e5 le5
            have hst := fold_take stepN [] f.subs i s hs
            rw [hacc] at hst
            refine ⟨_, _, rfl, sh5, sx.trans ((Sx.same s4).trans sx5), g.trans ((Gr.same s4).trans g5), ?_, ?_⟩
            · rw [hst]
              exact e5
            · rw [hst]
              show (s.names.foldl addN acc).length ≤ (i + 1) * 1024
              omega
        · obtain ⟨y2, y3, rfl, sh, sx, g, e, le⟩ := p
          rw [show x3.length = f.subs.length from l3, List.take_length, ← names_fold f hng] at e
          walk_at "g"
          refine ⟨l, _, rfl, .inl ⟨SqL.of e, fun p hp => ?_⟩⟩
          have hMH : Mk M H' := hM.gr (Gr.same sh)
          exact q _ _ _ (sh.trans (same_new hp)) (.tup (hMH.out hp) (.inl upd_same) (RpAll.strs _)) rfl
end
end D


namespace D
open PySem PySem.Spec PyProof.Rows L2
local macro_rules | `(tactic| walk_at "st") => `(tactic| first | exact SqT.of (by assumption) | exact Or.inl (by assumption) | exact SqT.of upd_same | fail "st")
local macro_rules | `(tactic| walk_at "ixt") => `(tactic| refine ⟨_, _, _, _, rfl, rfl, (by walk_at "st" : SqT _ _ _ _), by rfl, ?_⟩)
local macro_rules | `(tactic| walk_at "sq") => `(tactic| first | exact SqL.of (by assumption) | assumption | exact Or.inl (by assumption) | exact SqL.of upd_same | fail "sq")
local macro_rules | `(tactic| walk_at "ix") => `(tactic| refine ⟨_, _, _, _, rfl, rfl, (by walk_at "sq" : SqL _ _ _ _), by rfl, ?_⟩)
local macro_rules | `(tactic| walk_at "set") => `(tactic| refine ⟨_, _, _, _, rfl, rfl, by first | assumption | exact upd_same, by rfl, ?_⟩)
local macro_rules | `(tactic| walk_at "len") => `(tactic| refine ⟨_, _, rfl, Or.inl (by walk_at "sq" : SqL _ _ _ _), ?_⟩)
local macro_rules | `(tactic| walk_at "g") => `(tactic| repeat (first | refine ⟨_, rfl, ?_⟩ | refine ⟨_, _, rfl, rfl, ?_⟩ | refine ⟨Or.inr (by decide), ?_⟩ | refine ⟨Or.inl (by decide), ?_⟩ | refine ⟨(by decide : (0 : Int) < _), ?_⟩ | refine ⟨(⟨by decide, by decide⟩ : CDiv _ _), ?_⟩ | refine ⟨(⟨by decide, by decide, by decide⟩ : CPow _ _), ?_⟩ | refine Or.inl ⟨_, rfl, ?_⟩ | refine ⟨rfl, ?_⟩ | walk_at "ix" | walk_at "ixt" | walk_at "len" | fail "g"))
local macro_rules | `(tactic| walk_at "if") => `(tactic| refine ite2 (fun e => ?_) (fun e => ?_))
section
variable {P : Program} {w : World} {K : PySem.W.Frag} {mg : Str → Option Value} {base : Heap}
/-- rows of items -/
def rowD (ns : List Int) : PyData := .tuple (ns.map PyData.int)
theorem Rp.rowAt {M : Ms} {H : Hp} {v : V} {ns : List Int} (h : Rp M H v (rowD ns)) : RowAt M H v ns := by
  obtain ⟨a, xs, rfl, na, ha, rx⟩ := Rp.tupN h
  have ex := rx.ofInts
  subst ex
  exact ⟨a, rfl, na, ha⟩
def goodRow (ns : List Int) : Prop := ns.length ≤ 5 ∧ ns.Nodup ∧ ∀ n ∈ ns, 0 ≤ n ∧ n ≤ 9
def spis_row : Sp := fun vs H Q _ => ∃ (v : V) (ns : List Int) (M : Ms), vs = [v] ∧ RowAt M H v ns ∧ goodRow ns ∧ ∀ H', Same H H' → Q (.bl true) H'
theorem okis_row (T : Txt K mg) : FnOk P w K mg base CX0 3 T.f_is_row T.d_is_row ["thing"] spis_row := by
  have G_is_value := ok_is_value (P := P) (w := w) (base := base) T
  refine T.F_is_row.ok sc_is_row (fun vs H Q E h => ?_) (fun cdv A outer s H vs Q E hr h => ?_)
  · obtain ⟨_, _, _, rfl, _⟩ := h
    rfl
  · obtain ⟨v, ns, M, rfl, hR, ⟨h5, hnd, h9⟩, q⟩ := h
    obtain ⟨a, rfl, na, ha⟩ := hR
    refine ⟨_, (pss_cons (ps_if (PW.pt (pw_or (pt_not (pt_val (pe_callB (call_isi1K (K := K) rfl) (by rfl) T.m_isinstance (by decide +kernel) (pa_cons (pv 0) (pa_cons (pe_bltn (v := .ty "tuple") (u := .type "tuple") (by rfl) T.m_tuple (by decide +kernel) rfl) pa_nil))))) (pw_or1 (pt_cmpR op_gt (pe_callB (call_lenK (K := K) rfl) (by rfl) T.m_len PySem.boot_len (pa_cons (pv 0) pa_nil)) (pe_glob (v := .int 5) rfl T.c_MOST_ITEMS ⟨_, rfl⟩) (nomark _))))) (pss_one (ps_ret pe_bl)) pss_nil)
      (pss_one (ps_ret (pe_and (pe_callB (cr_allK (K := K) rfl rfl) (by rfl) T.m_all (by decide +kernel) (pa_cons (pe_lc (own := [("item", 1)]) (g := gName 1) (tt := tYes) (by rfl) sc_is_row.nd (pi_tupK (K := K) rfl (pv 0)) (blkOk_by (own := [("item", 1)]) (N := ["thing", "item"]) (sc := defScope s_is_row) (by decide +kernel)) (fun _ _ _ _ _ => (pg_name (i := 1) sc_is_row.nd rfl (Or.inl rfl))) (fun _ _ _ _ _ => pts_nil) (fun _ _ _ _ _ => (pe_call G_is_value (hr.mono (by omega)) (by rfl) T.g_is_value T.F_is_value.kp T.b_is_value .nil pass0 (pa_cons (pv 1) pa_nil)))) pa_nil)) (pe_one (pe_cmpR op_eq (pe_lenSetT (K := K) rfl rfl (by rfl) T.m_len (by rfl) T.m_set (pv 0)) (pe_callB (call_lenK (K := K) rfl) (by rfl) T.m_len PySem.boot_len (pa_cons (pv 0) pa_nil)) (nomark _))))))), ?_⟩
    walk_at "g"
    refine ⟨_, _, _, _, true, rfl, .ty _, rd_ty ha, kit_ty (by decide +kernel), ?_⟩
    walk_at "g"
    refine ⟨_, _, rfl, .inr (.inl ha), ?_⟩
    walk_at "g"
    rw [decide_eq_false (show ¬ (5 : Int) < ((ns.map V.int).length : Int) by rw [List.length_map]; omega)]
    walk_at "g"
    refine ⟨⟨_, .inl ha⟩, fun D hD => ?_⟩
    refine lc_valsT (ys := (List.replicate ns.length true).map V.bl) hD (.inl ha) (by rw [List.length_map, List.length_replicate, List.length_map]) (by rw [List.length_map]; omega) (fun i x y H' C N hx hy hs hC => ?_) (fun H' hs hD' => ?_)
    · rw [List.getElem?_map] at hx hy
      obtain ⟨n, hn, rfl⟩ := Option.map_eq_some_iff.mp hx
      obtain ⟨b, hb, rfl⟩ := Option.map_eq_some_iff.mp hy
      have eb : b = true := (List.mem_replicate.mp (List.mem_of_getElem? hb)).2
      subst eb
      have h09 := h9 n (List.mem_of_getElem? hn)
      refine ⟨rfl, ?_⟩
      walk_at "g"
      exact ⟨h09.1, h09.2, hC⟩
    · refine ⟨D, List.replicate ns.length true, rfl, SqL.of hD', ?_⟩
      rw [show (List.replicate ns.length true).all id = true by rw [List.all_replicate]; simp]
      walk_at "g"
      have ha' := same_rd hs ha
      refine ⟨a, ns, rfl, .inl ha', by omega, fun c hc => ?_⟩
      have ec := hc.mpr hnd
      subst ec
      walk_at "g"
      refine ⟨_, _, rfl, .inr (.inl ha'), ?_⟩
      refine ⟨rfl, ?_⟩
      rw [List.length_map, decide_eq_true rfl]
      exact q _ hs
/-- item and at -/
def sItem : Str := "item"
def sAt : Str := "at"
def isKN (x : Str) : Prop := x = sItem ∨ x = sAt
def rho (i a : Int) (x : Str) : Int := if x = sItem then i else a
theorem isKN_nm (x : Str) (h : isKN x) : isNm x := by
  rcases h with rfl | rfl <;> exact ⟨by decide +kernel, by decide +kernel, by decide +kernel⟩
theorem Fm.ok_imp {n m : Str → Prop} (h : ∀ x, n x → m x) : ∀ f : Fm, f.ok n → f.ok m
  | .is _, o => o
  | .get x, o => h x o
  | .sum f g, o => ⟨f.ok_imp h o.1, g.ok_imp h o.2⟩
  | .same f g, o => ⟨f.ok_imp h o.1, g.ok_imp h o.2⟩
  | .pick f g k, o => ⟨f.ok_imp h o.1, g.ok_imp h o.2.1, k.ok_imp h o.2.2⟩
/-- keys -/
def goodKey (f : Fm) : Prop := f.dep ≤ 5 ∧ f.ok isKN
def kval (f : Fm) (i a : Int) : Int := f.val (rho i a)
theorem env_kvs (i a : Int) : ∀ x, isKN x → valV (mergeK [] [((Sum.inr sItem : Key), V.int i), (Sum.inr sAt, V.int a)]) (.inr x) = some (.int (rho i a x)) := by
  intro x h
  rcases h with rfl | rfl <;> rfl
def sp_key_value : Sp := fun vs H Q _ => ∃ (v : V) (f : Fm) (M : Ms) (i a : Int), vs = [v, .int i, .int a] ∧ Rp M H v f.enc ∧ goodKey f ∧ ∀ H', Same H H' → Q (.int (kval f i a)) H'
theorem ok_key_value (T : Txt K mg) : FnOk P w K mg base CX0 7 T.f__key_value T.d__key_value ["parts", "item", "at"] sp_key_value := by
  have G_value_of := ok_value_of (P := P) (w := w) (base := base) T 5
  refine T.F__key_value.ok sc__key_value (fun vs H Q E h => ?_) (fun cdv A outer s H vs Q E hr h => ?_)
  · obtain ⟨_, _, _, _, _, rfl, _⟩ := h
    rfl
  · obtain ⟨v, f, M, i, a, rfl, hR, hg, q⟩ := h
    refine ⟨_, (pss_one (ps_ret (pe_call G_value_of (hr.mono (by omega)) (by rfl) T.g_value_of T.F_value_of.kp T.b_value_of .nil pass0 (pa_cons (pv 0) (pa_cons (pe_disp (pps_cons pe_str (pv 1) (pps_cons pe_str (pv 2) pps_nil)) (by rfl) (by rfl) (fun z => by cases z) (by decide)) pa_nil))))), ?_⟩
    walk_at "g"
    intro p hp
    walk_at "g"
    refine ⟨upd_same, [(Sum.inr sItem, .int i), (Sum.inr sAt, .int a)], rfl, (by show 2 ≤ 15; decide), ?_⟩
    rw [upd_upd]
    have s1 := same_new (o := .dK (mergeK [] [((Sum.inr sItem : Key), V.int i), (Sum.inr sAt, V.int a)])) hp
    exact ⟨v, p, f, M, _, rho i a, isKN, rfl, hR.sx (Sx.same s1), hg.1, hg.2, upd_same, env_kvs i a, q _ s1⟩
end
end D


namespace D
open PySem PySem.Spec PyProof.Rows L2
local macro_rules | `(tactic| walk_at "st") => `(tactic| first | exact SqT.of (by assumption) | exact Or.inl (by assumption) | exact SqT.of upd_same | fail "st")
local macro_rules | `(tactic| walk_at "ixt") => `(tactic| refine ⟨_, _, _, _, rfl, rfl, (by walk_at "st" : SqT _ _ _ _), by rfl, ?_⟩)
local macro_rules | `(tactic| walk_at "sq") => `(tactic| first | exact SqL.of (by assumption) | assumption | exact Or.inl (by assumption) | exact SqL.of upd_same | fail "sq")
local macro_rules | `(tactic| walk_at "ix") => `(tactic| refine ⟨_, _, _, _, rfl, rfl, (by walk_at "sq" : SqL _ _ _ _), by rfl, ?_⟩)
local macro_rules | `(tactic| walk_at "set") => `(tactic| refine ⟨_, _, _, _, rfl, rfl, by first | assumption | exact upd_same, by rfl, ?_⟩)
local macro_rules | `(tactic| walk_at "len") => `(tactic| refine ⟨_, _, rfl, Or.inl (by walk_at "sq" : SqL _ _ _ _), ?_⟩)
local macro_rules | `(tactic| walk_at "g") => `(tactic| repeat (first | refine ⟨_, rfl, ?_⟩ | refine ⟨_, _, rfl, rfl, ?_⟩ | refine ⟨Or.inr (by decide), ?_⟩ | refine ⟨Or.inl (by decide), ?_⟩ | refine ⟨(by decide : (0 : Int) < _), ?_⟩ | refine ⟨(⟨by decide, by decide⟩ : CDiv _ _), ?_⟩ | refine ⟨(⟨by decide, by decide, by decide⟩ : CPow _ _), ?_⟩ | refine Or.inl ⟨_, rfl, ?_⟩ | refine ⟨rfl, ?_⟩ | walk_at "ix" | walk_at "ixt" | walk_at "len" | fail "g"))
local macro_rules | `(tactic| walk_at "if") => `(tactic| refine ite2 (fun e => ?_) (fun e => ?_))
section
variable {P : Program} {w : World} {K : PySem.W.Frag} {mg : Str → Option Value} {base : Heap}
def sp_check_rows : Sp := fun vs H Q _ => ∃ (a : Addr) (xs : List V) (M : Ms), vs = [.ref a] ∧ SqT K H a xs ∧ (∀ x ∈ xs, ∃ ns, RowAt M H x ns ∧ goodRow ns) ∧ ∀ H', Same H H' → Q .non H'
theorem ok_check_rows (T : Txt K mg) : FnOk P w K mg base CX0 4 T.f_check_rows T.d_check_rows ["rows"] (sp_check_rows (K := K)) := by
  have G_is_row := okis_row (P := P) (w := w) (base := base) T
  refine T.F_check_rows.ok sc_check_rows (fun vs H Q E h => ?_) (fun cdv A outer s H vs Q E hr h => ?_)
  · obtain ⟨_, _, _, rfl, _⟩ := h
    rfl
  · obtain ⟨a, xs, M, rfl, hS, hR, q⟩ := h
    refine ⟨_, (pss_one (ps_for PassesOwn.never rfl (pi_tupK (K := K) rfl (pv 0)) (pg_name (i := 1) sc_check_rows.nd rfl (Or.inl rfl)) (pss_one (ps_if (pt_not (pt_val (pe_call G_is_row (hr.mono (by omega)) (by rfl) T.g_is_row T.F_is_row.kp T.b_is_row .nil pass0 (pa_cons (pv 1) pa_nil)))) (pss_one ps_never) pss_nil)))), ?_⟩
    walk_at "g"
    refine ⟨⟨_, hS⟩, ?_⟩
    refine for_tup (K := K) (a := a) (xs := xs) (fun i σ H' => ∃ y, σ = [some (.ref a), y] ∧ Same H H') ⟨none, rfl, Same.refl H⟩ (fun i σ H' _ p => ?_) (fun i x σ H' hx p => ?_) (fun σ H' p => ?_)
    · obtain ⟨y, rfl, hs⟩ := p
      exact same_sqt hs hS
    · obtain ⟨y, rfl, hs⟩ := p
      obtain ⟨ns, rd, hg⟩ := hR x (List.mem_of_getElem? hx)
      walk_at "g"
      exact ⟨x, ns, M, rfl, rd.sx (Sx.same hs), hg, fun H2 s2 => ⟨_, rfl, _, rfl, hs.trans s2⟩⟩
    · obtain ⟨y, rfl, hs⟩ := p
      exact q _ hs
end
end D


namespace D
open PySem PySem.Spec PyProof.Rows L2
local macro_rules | `(tactic| walk_at "st") => `(tactic| first | exact SqT.of (by assumption) | exact Or.inl (by assumption) | exact SqT.of upd_same | fail "st")
local macro_rules | `(tactic| walk_at "ixt") => `(tactic| refine ⟨_, _, _, _, rfl, rfl, (by walk_at "st" : SqT _ _ _ _), by rfl, ?_⟩)
local macro_rules | `(tactic| walk_at "sq") => `(tactic| first | exact SqL.of (by assumption) | assumption | exact Or.inl (by assumption) | exact SqL.of upd_same | fail "sq")
local macro_rules | `(tactic| walk_at "ix") => `(tactic| refine ⟨_, _, _, _, rfl, rfl, (by walk_at "sq" : SqL _ _ _ _), by rfl, ?_⟩)
local macro_rules | `(tactic| walk_at "set") => `(tactic| refine ⟨_, _, _, _, rfl, rfl, by first | assumption | exact upd_same, by rfl, ?_⟩)
local macro_rules | `(tactic| walk_at "len") => `(tactic| refine ⟨_, _, rfl, Or.inl (by walk_at "sq" : SqL _ _ _ _), ?_⟩)
local macro_rules | `(tactic| walk_at "g") => `(tactic| repeat (first | refine ⟨_, rfl, ?_⟩ | refine ⟨_, _, rfl, rfl, ?_⟩ | refine ⟨Or.inr (by decide), ?_⟩ | refine ⟨Or.inl (by decide), ?_⟩ | refine ⟨(by decide : (0 : Int) < _), ?_⟩ | refine ⟨(⟨by decide, by decide⟩ : CDiv _ _), ?_⟩ | refine ⟨(⟨by decide, by decide, by decide⟩ : CPow _ _), ?_⟩ | refine Or.inl ⟨_, rfl, ?_⟩ | refine ⟨rfl, ?_⟩ | walk_at "ix" | walk_at "ixt" | walk_at "len" | fail "g"))
local macro_rules | `(tactic| walk_at "if") => `(tactic| refine ite2 (fun e => ?_) (fun e => ?_))
section
variable {P : Program} {w : World} {K : PySem.W.Frag} {mg : Str → Option Value} {base : Heap}
/-- a key that stands -/
def sParts : Str := "_parts"
def KeyAt (C : Addr) (M : Ms) (H : Hp) (k : V) (f : Fm) : Prop := ∃ a dx u, k = .ref a ∧ ¬ M a ∧ H a = some (.ins C dx [(sParts, u)]) ∧ Rp M H u f.enc ∧ goodKey f
theorem KeyAt.sx {C : Addr} {M : Ms} {H H' : Hp} {k : V} {f : Fm} (h : KeyAt C M H k f) (s : Sx M H H') : KeyAt C M H' k f := by
  obtain ⟨a, dx, u, e, n, ha, r, g⟩ := h
  exact ⟨a, dx, u, e, n, s _ _ n ha, r.sx s, g⟩
def sp_init (U : TMany K mg w) (C : Addr) : Sp := fun vs H Q _ => ∃ (a dx : Addr) (v : V) (f : Fm) (M : Ms), vs = [.ref a, v] ∧ H a = some (.ins C dx []) ∧ Rp M H v f.enc ∧ Mk M H ∧ goodKey f ∧ ∀ H', Same H H' → Q .non (upd H' a (.ins C dx [(sParts, v)]))
theorem ok_init (T : Txt K mg) (U : TMany K mg w) : FnOk P w K mg base CX0 8 T.f_Key___init__ T.d_Key___init__ ["self", "form"] (sp_init U T.C_Key) := by
  have G_check_form := ok_check_form (P := P) (w := w) (base := base) T U
  have G_names_in := ok_names_in (P := P) (w := w) (base := base) T U 5
  refine T.F_Key___init__.ok sc_Key___init__ (fun vs H Q E h => ?_) (fun cdv A outer s H vs Q E hr h => ?_)
  · obtain ⟨_, _, _, _, _, rfl, _⟩ := h
    rfl
  · obtain ⟨a, dx, v, f, M, rfl, ha, hR, hM, hg, q⟩ := h
    refine ⟨_, (pss_cons (ps_expr (pe_call G_check_form (hr.mono (by omega)) (by rfl) T.g_check_form T.F_check_form.kp T.b_check_form .nil pass0 (pa_cons (pv 1) pa_nil)))
      (pss_cons (ps_for PassesOwn.never rfl (pi_tupK (K := K) rfl (pe_call G_names_in (hr.mono (by omega)) (by rfl) T.g_names_in T.F_names_in.kp T.b_names_in .nil pass0 (pa_cons (pv 1) pa_nil))) (pg_name (i := 2) sc_Key___init__.nd rfl (Or.inl rfl)) (pss_one (ps_if (pt_cmpR (op_notIn_seqK (K := K) rfl) (pv 2) (pe_tup (pa_cons pe_str (pa_cons pe_str pa_nil))) (by rfl)) (pss_one ps_never) pss_nil)))
      (pss_one (ps_fld (pv 0) (pv 1) rfl)))), ?_⟩
    walk_at "g"
    refine ⟨v, f, M, rfl, hR, hM, f.ok_imp isKN_nm hg.2, hg.1, fun H1 s1 => ?_⟩
    walk_at "g"
    refine ⟨v, f, M, rfl, hR.sx (Sx.same s1), hM.gr (Gr.same s1), hg.1, by decide, fun w' H2 d s2 hR2 hd => ?_⟩
    subst hd
    obtain ⟨b, xs, rfl, nb, hb, rx⟩ := Rp.tupN hR2
    have ex := rx.ofStrs
    subst ex
    walk_at "g"
    refine ⟨⟨_, .inl hb⟩, ?_⟩
    refine for_tup (K := K) (a := b) (xs := f.names.map V.str) (fun i σ H' => ∃ y, σ = [some (.ref a), some v, y] ∧ Same H2 H') ⟨none, rfl, Same.refl _⟩ (fun i σ H' _ p => ?_) (fun i x σ H' hx p => ?_) (fun σ H' p => ?_)
    · obtain ⟨y, rfl, hs⟩ := p
      exact same_sqt hs (.inl hb)
    · obtain ⟨y, rfl, hs⟩ := p
      rw [List.getElem?_map] at hx
      obtain ⟨nm, hn, rfl⟩ := Option.map_eq_some_iff.mp hx
      have hk : isKN nm := f.names_ok hg.2 nm (List.mem_of_getElem? hn)
      walk_at "g"
      refine ⟨by decide, fun p hp => ?_⟩
      refine ⟨p, _, rfl, .inr (SqT.of upd_same), rfl, rfl, ?_⟩
      have e1 : inV (.str nm) [.str sItem, .str sAt] = true := by rcases hk with rfl | rfl <;> decide +kernel
      refine ⟨_, rfl, ?_⟩
      show if (!inV (.str nm) [.str sItem, .str sAt]) = true then _ else _
      rw [e1]
      exact ⟨_, rfl, hs.trans (same_new hp)⟩
    · obtain ⟨y, rfl, hs⟩ := p
      walk_at "g"
      have s3 := s1.trans (s2.trans hs)
      exact ⟨a, _, dx, [], rfl, s3 _ _ ha, T.cl_Key, T.nA_Key__parts, by decide, q _ s3⟩
def sp_parts (T : Txt K mg) : Sp := fun vs H Q _ => ∃ (k : V) (f : Fm) (M : Ms), vs = [k] ∧ KeyAt T.C_Key M H k f ∧ ∀ v, Rp M H v f.enc → Q v H
theorem ok_parts (T : Txt K mg) : FnOk P w K mg base CX0 1 T.f_Key_parts T.d_Key_parts ["self"] (sp_parts T) := by
  refine T.F_Key_parts.ok sc_Key_parts (fun vs H Q E h => ?_) (fun cdv A outer s H vs Q E hr h => ?_)
  · obtain ⟨_, _, _, rfl, _⟩ := h
    rfl
  · obtain ⟨k, f, M, rfl, ⟨a, dx, u, rfl, na, ha, hR, hg⟩, q⟩ := h
    refine ⟨_, (pss_one (ps_ret (pe_fldK (K := K) rfl (pv 0) rfl))), ?_⟩
    walk_at "g"
    exact ⟨a, _, dx, _, u, rfl, ha, T.cl_Key, T.nA_Key__parts, rfl, q u hR⟩
def sp_kcall (T : Txt K mg) : Sp := fun vs H Q _ => ∃ (k : V) (f : Fm) (M : Ms) (i a : Int), vs = [k, .int i, .int a] ∧ KeyAt T.C_Key M H k f ∧ ∀ H', Same H H' → Q (.int (kval f i a)) H'
theorem ok_kcall (T : Txt K mg) : FnOk P w K mg base CX0 8 T.f_Key___call__ T.d_Key___call__ ["self", "item", "at"] (sp_kcall T) := by
  have G__key_value := ok_key_value (P := P) (w := w) (base := base) T
  refine T.F_Key___call__.ok sc_Key___call__ (fun vs H Q E h => ?_) (fun cdv A outer s H vs Q E hr h => ?_)
  · obtain ⟨_, _, _, _, _, rfl, _⟩ := h
    rfl
  · obtain ⟨k, f, M, i, b, rfl, ⟨a, dx, u, rfl, na, ha, hR, hg⟩, q⟩ := h
    refine ⟨_, (pss_one (ps_ret (pe_call G__key_value (hr.mono (by omega)) (by rfl) T.g__key_value T.F__key_value.kp T.b__key_value .nil pass0 (pa_cons (pe_fldK (K := K) rfl (pv 0) rfl) (pa_cons (pv 1) (pa_cons (pv 2) pa_nil)))))), ?_⟩
    walk_at "g"
    refine ⟨a, _, dx, _, u, rfl, ha, T.cl_Key, T.nA_Key__parts, rfl, ?_⟩
    walk_at "g"
    exact ⟨u, f, M, i, b, rfl, hR, hg, q⟩
/-- idents -/
def wsOf (f : Fm) (ns : List Int) : List Int := ns.mapIdx fun i n => kval f n (i : Nat)
def idsOf (ws : List Int) : List PyData := ws.mapIdx fun i w => .tuple [.int w, .int ((ws.take i).count w : Nat)]
def identD (f : Fm) (ns : List Int) : PyData := .tuple (idsOf (wsOf f ns))
def sp_ids (T : Txt K mg) : Sp := fun vs H Q _ => ∃ (k v : V) (f : Fm) (ns : List Int) (M : Ms), vs = [k, v] ∧ KeyAt T.C_Key M H k f ∧ RowAt M H v ns ∧ ns.length ≤ 5 ∧ Mk M H ∧ Pu M H (fun d => d = identD f ns) Q
theorem ok_ids (T : Txt K mg) : FnOk P w K mg base CX0 9 T.f__idents T.d__idents ["key", "row"] (sp_ids T) := by
  have G_Key___call__ := ok_kcall (P := P) (w := w) (base := base) T
  refine T.F__idents.ok sc__idents (fun vs H Q E h => ?_) (fun cdv A outer s H vs Q E hr h => ?_)
  · obtain ⟨_, _, _, _, _, rfl, _⟩ := h
    rfl
  · obtain ⟨k, v, f, ns, M, rfl, hK, hR, h5, hM, q⟩ := h
    obtain ⟨b, rfl, nb, hb⟩ := hR
    refine ⟨_, (pss_cons (ps_set (i := 2) sc__idents.nd rfl (Or.inr rfl) (pe_lc (own := [("at", 3), ("item", 4)]) (g := gTup K 2 (gCons (gName 3) (gCons (gName 4) gNil))) (tt := tYes) (by rfl) sc__idents.nd (pi_enumTK (K := K) rfl (by rfl) T.m_enumerate (pa_cons (pv 1) pa_nil)) (blkOk_by (own := [("at", 3), ("item", 4)]) (N := ["key", "row", "values", "at", "item", "value"]) (sc := defScope s__idents) (by decide +kernel)) (fun _ _ _ _ _ => (pg_tupK (K := K) rfl rfl (pgs_cons (pg_name (i := 3) sc__idents.nd rfl (Or.inl rfl)) (pgs_cons (pg_name (i := 4) sc__idents.nd rfl (Or.inl rfl)) pgs_nil)))) (fun _ _ _ _ _ => pts_nil) (fun _ _ _ _ _ => (pe_callOI ⟨T.a_Key___call__, T.i_Key___call__, T.n_Key___call__⟩ G_Key___call__ T.b_Key___call__ (hr.mono (by omega)) pass0 (pv 0) (pa_cons (pv 4) (pa_cons (pv 3) pa_nil))))))
      (pss_one (ps_ret (pe_callTy (call_tupleK (K := K) rfl) (by rfl) T.m_tuple (by decide +kernel) (pa_cons (pe_lc (own := [("at", 3), ("value", 5)]) (g := gTup K 2 (gCons (gName 3) (gCons (gName 5) gNil))) (tt := tYes) (by rfl) sc__idents.nd (pi_enumK (K := K) rfl (by rfl) T.m_enumerate (pa_cons (pv 2) pa_nil)) (blkOk_by (own := [("at", 3), ("value", 5)]) (N := ["key", "row", "values", "at", "item", "value"]) (sc := defScope s__idents) (by decide +kernel)) (fun _ _ _ _ _ => (pg_tupK (K := K) rfl rfl (pgs_cons (pg_name (i := 3) sc__idents.nd rfl (Or.inl rfl)) (pgs_cons (pg_name (i := 5) sc__idents.nd rfl (Or.inl rfl)) pgs_nil)))) (fun _ _ _ _ _ => pts_nil) (fun _ _ _ _ _ => (pe_tup (pa_cons (pv 5) (pa_cons (pe_bmK2 (K := K) rfl PySem.F.plainAttrs_list PySem.F.slot_list_count PySem.F.type_list_count (mt_lcountK (K := K) rfl) (pe_slice (sl_listK (K := K) rfl) (pv 2) po_none (po_some (pv 3))) (pa_cons (pv 5) pa_nil)) pa_nil))))) pa_nil))))), ?_⟩
    walk_at "g"
    refine ⟨b, _, rfl, .inl hb, fun D hD => ?_⟩
    have lw : ((wsOf f ns).map V.int).length = (ns.map V.int).length := by
      rw [List.length_map, List.length_map]
      exact List.length_mapIdx
    refine lc_enumTV (ys := (wsOf f ns).map V.int) hD (.inl hb) lw (by rw [List.length_map]; omega) (fun i x y T' H' C N hx hy hT hs hDn hC => ?_) (fun H' hs hD' => ?_)
    · rw [List.getElem?_map] at hx hy
      obtain ⟨n, hn, rfl⟩ := Option.map_eq_some_iff.mp hx
      obtain ⟨w', hw, rfl⟩ := Option.map_eq_some_iff.mp hy
      have ew : w' = kval f n (i : Nat) := by
        unfold wsOf at hw
        rw [List.getElem?_mapIdx, hn] at hw
        exact (Option.some.inj hw).symm
      subst ew
      refine ⟨T', _, rfl, SqT.of upd_same, rfl, _, _, rfl, _, _, rfl, rfl, ?_⟩
      refine ⟨rfl, ?_⟩
      walk_at "g"
      have hK' := hK.sx (Sx.same (hs.trans (same_new (o := .tup [.int (i : Nat), .int n]) hT)))
      obtain ⟨a0, dx, u, rfl, na, ha, hu, hg⟩ := hK'
      refine ⟨a0, dx, [(sParts, u)], rfl, ?_⟩
      walk_at "g"
      refine ⟨ha, ?_⟩
      exact ⟨_, f, M, n, (i : Nat), rfl, ⟨a0, dx, u, rfl, na, ha, hu, hg⟩, fun H2 s2 => hC H2 s2⟩
    · walk_at "g"
      refine ⟨D, _, rfl, SqL.of hD', fun D2 hD2 => ?_⟩
      have l2 : (idsOf (wsOf f ns)).length = ((wsOf f ns).map V.int).length := by
        rw [List.length_map]
        exact List.length_mapIdx
      have lw5 : ((wsOf f ns).map V.int).length ≤ 5 := by rw [lw, List.length_map]; exact h5
      have hM' := hM.gr (Gr.same hs)
      refine lc_enumD (ys := idsOf (wsOf f ns)) M hM' hD2 (SqL.of hD') l2 (by omega) (fun i x y T' H2 C N hx hy hT s1 hMk hC => ?_) (fun H2 s2 hL => ?_)
      · rw [List.getElem?_map] at hx
        obtain ⟨w', hw, rfl⟩ := Option.map_eq_some_iff.mp hx
        have ey : y = .tuple [.int w', .int (((wsOf f ns).take i).count w' : Nat)] := by
          unfold idsOf at hy
          rw [List.getElem?_mapIdx, hw] at hy
          exact (Option.some.inj hy).symm
        subst ey
        have eD : upd H2 T' (.tup [.int (i : Nat), .int w']) D = some (.lst ((wsOf f ns).map V.int)) := same_new hT _ _ (s1 _ _ hD')
        refine ⟨T', _, rfl, SqT.of upd_same, rfl, _, _, rfl, _, _, rfl, rfl, ?_⟩
        refine ⟨rfl, ?_⟩
        walk_at "g"
        refine ⟨D, _, rfl, SqL.of eD, fun p hp => ⟨.inl ⟨rfl, _, SqL.of upd_same⟩, ?_⟩⟩
        refine ⟨_, rfl, p, (wsOf f ns).take i, w', rfl, rfl, SqL.of (by rw [upd_same, cut_hi, List.map_take]), ?_⟩
        refine ⟨szK rfl, fun p2 hp2 => ?_⟩
        have n1 : Same (upd H2 T' (.tup [.int (i : Nat), .int w'])) (upd (upd H2 T' (.tup [.int (i : Nat), .int w'])) p (.lst (cutV ((wsOf f ns).map V.int) none (some (i : Nat))))) := same_new hp
        refine hC _ _ (n1.trans (same_new hp2)) (.tup ((hMk.gr (Gr.same n1)).out hp2) (.inl upd_same) (.cons (.int _) (.one (.int _))))
      · walk_at "g"
        obtain ⟨nD, xs, eD2, rD⟩ := hL
        refine ⟨D2, xs, rfl, .inl ⟨SqL.of eD2, fun p hp => ?_⟩⟩
        have n1 : Same H2 (upd H2 p (.tup xs)) := same_new hp
        exact q _ _ _ (hs.trans (s2.trans n1)) (.tup ((hM'.gr (Gr.same s2)).out hp) (.inl upd_same) (rD.sx (Sx.same n1))) rfl
end
end D

namespace D
open PySem PySem.Spec PyProof.Rows L2
local macro_rules | `(tactic| walk_at "st") => `(tactic| first | exact SqT.of (by assumption) | exact Or.inl (by assumption) | exact SqT.of upd_same | fail "st")
local macro_rules | `(tactic| walk_at "ixt") => `(tactic| refine ⟨_, _, _, _, rfl, rfl, (by walk_at "st" : SqT _ _ _ _), by rfl, ?_⟩)
local macro_rules | `(tactic| walk_at "sq") => `(tactic| first | exact SqL.of (by assumption) | assumption | exact Or.inl (by assumption) | exact SqL.of upd_same | fail "sq")
local macro_rules | `(tactic| walk_at "ix") => `(tactic| refine ⟨_, _, _, _, rfl, rfl, (by walk_at "sq" : SqL _ _ _ _), by rfl, ?_⟩)
local macro_rules | `(tactic| walk_at "set") => `(tactic| refine ⟨_, _, _, _, rfl, rfl, by first | assumption | exact upd_same, by rfl, ?_⟩)
local macro_rules | `(tactic| walk_at "len") => `(tactic| refine ⟨_, _, rfl, Or.inl (by walk_at "sq" : SqL _ _ _ _), ?_⟩)
local macro_rules | `(tactic| walk_at "g") => `(tactic| repeat (first | refine ⟨_, rfl, ?_⟩ | refine ⟨_, _, rfl, rfl, ?_⟩ | refine ⟨Or.inr (by decide), ?_⟩ | refine ⟨Or.inl (by decide), ?_⟩ | refine ⟨(by decide : (0 : Int) < _), ?_⟩ | refine ⟨(⟨by decide, by decide⟩ : CDiv _ _), ?_⟩ | refine ⟨(⟨by decide, by decide, by decide⟩ : CPow _ _), ?_⟩ | refine Or.inl ⟨_, rfl, ?_⟩ | refine ⟨rfl, ?_⟩ | walk_at "ix" | walk_at "ixt" | walk_at "len" | fail "g"))
local macro_rules | `(tactic| walk_at "if") => `(tactic| refine ite2 (fun e => ?_) (fun e => ?_))
section
variable {P : Program} {w : World} {K : PySem.W.Frag} {mg : Str → Option Value} {base : Heap}

theorem putK_le' {κ : Type} [DecidableEq κ] (kvs : List (κ × V)) (k : κ) (v : V) : (putK kvs k v).length ≤ kvs.length + 1 := length_putK kvs k v
theorem Rp.newT' {M : Ms} {H : Hp} {p : Addr} {us : List V} {ds : List PyData} (hp : ¬ M p) (r : RpAll M (upd H p (.tup us)) us ds) : Rp M (upd H p (.tup us)) (.ref p) (.tuple ds) := .tup hp (.inl upd_same) r
theorem idsOf_eq (ws : List Int) : idsOf ws = (idp ws).map pD := by
  unfold idsOf idp
  apply List.ext_getElem?
  intro i
  rw [List.getElem?_map, List.getElem?_mapIdx, List.getElem?_mapIdx]
  cases ws[i]? <;> rfl
def sp_matches : Sp := fun vs H Q _ => ∃ (v1 v2 : V) (B N : List IP) (M : Ms), vs = [v1, v2] ∧ Rp M H v1 (.tuple (B.map pD)) ∧ Rp M H v2 (.tuple (N.map pD)) ∧ B.Nodup ∧ B.length ≤ 1000 ∧ N.length ≤ 1000 ∧ Mk M H ∧ Pu M H (fun d => d = .list ((mt B N).map pD)) Q
theorem ok_matches (T : Txt K mg) : FnOk P w K mg base CX0 3 T.f__matches T.d__matches ["before", "behind"] sp_matches := by
  refine T.F__matches.ok sc__matches (fun vs H Q E h => ?_) (fun cdv A outer s H vs Q E hr h => ?_)
  · obtain ⟨_, _, _, _, _, rfl, _⟩ := h
    rfl
  · obtain ⟨v1, v2, B, N, M, rfl, h1, h2, hnd, lB, lN, hM, q⟩ := h
    obtain ⟨a, xs, rfl, na, ha, rx⟩ := Rp.tupX h1
    obtain ⟨b, ys, rfl, nb, hb, ry⟩ := Rp.tupX h2
    have lx := rx.length
    rw [List.length_map] at lx
    have ly := ry.length
    rw [List.length_map] at ly
    refine ⟨_, (pss_cons (ps_set (i := 2) sc__matches.nd rfl (Or.inr rfl) (pe_dcT (own := [("place", 3), ("ident", 4)]) (g := gTup K 2 (gCons (gName 3) (gCons (gName 4) gNil))) (tt := tYes) (hu_of hr) (by rfl) sc__matches.nd (pi_enumTK (K := K) rfl (by rfl) T.m_enumerate (pa_cons (pv 0) pa_nil)) (blkOk_by (own := [("place", 3), ("ident", 4)]) (N := ["before", "behind", "places", "place", "ident"]) (sc := defScope s__matches) (by decide +kernel)) (fun _ _ _ _ _ => (pg_tupK (K := K) rfl rfl (pgs_cons (pg_name (i := 3) sc__matches.nd rfl (Or.inl rfl)) (pgs_cons (pg_name (i := 4) sc__matches.nd rfl (Or.inl rfl)) pgs_nil)))) (fun _ _ _ _ _ => pts_nil) (fun _ _ _ _ _ => (pv 4)) (fun _ _ _ _ _ => (pv 3))))
      (pss_one (ps_ret (pe_lc (own := [("place", 3), ("ident", 4)]) (g := gTup K 2 (gCons (gName 3) (gCons (gName 4) gNil)))  (by rfl) sc__matches.nd (pi_enumTK (K := K) rfl (by rfl) T.m_enumerate (pa_cons (pv 1) pa_nil)) (blkOk_by (own := [("place", 3), ("ident", 4)]) (N := ["before", "behind", "places", "place", "ident"]) (sc := defScope s__matches) (by decide +kernel)) (fun _ _ _ _ _ => (pg_tupK (K := K) rfl rfl (pgs_cons (pg_name (i := 3) sc__matches.nd rfl (Or.inl rfl)) (pgs_cons (pg_name (i := 4) sc__matches.nd rfl (Or.inl rfl)) pgs_nil)))) (fun _ _ _ _ _ => (pts_one (pt_cmp (pc_din (hu_of hr) (pv 4) (pv 2))))) (fun _ _ _ _ _ => (pe_tup (pa_cons (pe_dget (hu_of hr) (pv 2) (pv 4) (fun _ _ => rfl)) (pa_cons (pv 3) pa_nil)))))))), ?_⟩
    walk_at "g"
    refine ⟨a, _, rfl, .inl (.inl ha), fun D hD => ?_⟩
    refine enumT_loop (xs := xs) (fun i H' => Same H H' ∧ ∃ kvs, H' D = some (.dT kvs) ∧ kvs.length ≤ i ∧ Tells kvs (B.take i)) ⟨same_new hD, [], upd_same, Nat.le_refl _, tells_nil⟩ (fun i H' _ p => .inl (.inl (p.1 _ _ ha))) (fun i x T' H' hx hT p => ?_) (fun H1 p => ?_)
    · obtain ⟨s1, kvs, eD, lk, tl⟩ := p
      obtain ⟨d, hd, rd⟩ := rx.get hx
      rw [List.getElem?_map] at hd
      obtain ⟨id, hid, rfl⟩ := Option.map_eq_some_iff.mp hd
      obtain ⟨t, xt, rfl, nt, ht, rt⟩ := Rp.tupX rd
      obtain ⟨u1, u2, rfl, r1, r2⟩ := rt.inv2
      cases r1
      cases r2
      have hi : i < B.length := (List.getElem?_eq_some_iff.mp hid).1
      have s2 : Same H' (upd H' T' (.tup [.int (i : Nat), .ref t])) := same_new hT
      refine ⟨T', _, rfl, SqT.of upd_same, rfl, _, _, rfl, _, _, rfl, rfl, ?_⟩
      refine ⟨rfl, ?_⟩
      walk_at "g"
      refine ⟨kvs, kk id, t, rfl, s2 _ _ (s1 _ _ ht), s2 _ _ eD, small1000000 (by omega), same_put (s1.trans s2) hD, _, upd_same, ?_, tells_put hnd hid tl⟩
      have := putK_le' kvs (kk id) (.int (i : Nat))
      omega
    · obtain ⟨s1, kvs, eD, lk, tl⟩ := p
      rw [lx, List.take_length] at tl
      walk_at "g"
      refine ⟨b, _, rfl, .inl (.inl (s1 _ _ hb)), fun D2 hD2 => ?_⟩
      refine enumT_loop (xs := ys) (fun i H' => Acc M H1 D2 H' ((mt B (N.take i)).map pD)) (by
        have := Acc.new (M := M) hD2
        exact this) (fun i H' _ p => .inl (.inl (p.same _ _ (s1 _ _ hb)))) (fun i x T' H' hx hT p => ?_) (fun H2 p => ?_)
      · obtain ⟨d, hd, rd⟩ := ry.get hx
        rw [List.getElem?_map] at hd
        obtain ⟨id, hid, rfl⟩ := Option.map_eq_some_iff.mp hd
        obtain ⟨t, xt, rfl, nt, ht, rt⟩ := Rp.tupX rd
        obtain ⟨u1, u2, rfl, r1, r2⟩ := rt.inv2
        cases r1
        cases r2
        have hi : i < N.length := (List.getElem?_eq_some_iff.mp hid).1
        have s2 : Same H' (upd H' T' (.tup [.int (i : Nat), .ref t])) := same_new hT
        have p2 := p.keep s2
        have s3 := p2.same
        refine ⟨T', _, rfl, SqT.of upd_same, rfl, _, _, rfl, _, _, rfl, rfl, ?_⟩
        refine ⟨rfl, ?_⟩
        walk_at "g"
        have g := DGet.t (k := kk id) (s3 _ _ eD) (s3 _ _ (s1 _ _ ht))
        refine ⟨D, _, rfl, g, ?_⟩
        rw [tl id] at g ⊢
        rw [mt_step B hid]
        unfold mst
        cases hp : pos B id with
        | none =>
          walk_at "g"
          simpa using p2
        | some j =>
          rw [hp] at g
          walk_at "g"
          refine ⟨D, _, rfl, g, ?_⟩
          walk_at "g"
          refine ⟨szK rfl, fun p3 hp3 => ?_⟩
          have p4 := p2.keep (same_new (o := .tup [.int (j : Nat), .int (i : Nat)]) hp3)
          have lmt := mt_len B (N.take i)
          rw [List.length_take] at lmt
          have fin := p4.put (v := .ref p3) (y := pD ((j : Int), (i : Int))) (Rp.newT' ((p2.mk (hM.gr (Gr.same s1))).out hp3) (.cons (.int _) (.one (.int _)))) (by rw [List.length_map]; omega)
          rw [List.map_append]
          exact fin
      · rw [ly, List.take_length] at p
        walk_at "g"
        exact q _ _ _ (s1.trans p.same) (p.rp (hM.gr (Gr.same s1))) rfl

/-- idents of a row -/
def ids (f : Fm) (ns : List Int) : List IP := idp (wsOf f ns)
theorem ids_len (f : Fm) (ns : List Int) : (ids f ns).length = ns.length := by
  unfold ids
  rw [idp_len]
  exact List.length_mapIdx
def mts (f : Fm) (o n : List Int) : List IP := mt (ids f o) (ids f n)
theorem RpAll.pairX {M : Ms} {H : Hp} {vs : List V} {ps : List IP} {i : Nat} {v : V} (h : RpAll M H vs (ps.map pD)) (hv : vs[i]? = some v) : ∃ p t, ps[i]? = some p ∧ v = .ref t ∧ H t = some (.tup [.int p.1, .int p.2]) := by
  obtain ⟨d, hd, rd⟩ := h.get hv
  rw [List.getElem?_map] at hd
  obtain ⟨id, hid, rfl⟩ := Option.map_eq_some_iff.mp hd
  obtain ⟨t, xt, rfl, nt, ht, rt⟩ := Rp.tupX rd
  obtain ⟨u1, u2, rfl, r1, r2⟩ := rt.inv2
  cases r1
  cases r2
  exact ⟨id, t, hid, rfl, ht⟩
/-- pairs of places -/
def inB (o n : List Int) (ms : List IP) : Prop := ∀ p ∈ ms, ∃ i j : Nat, i < o.length ∧ j < n.length ∧ p = ((i : Int), (j : Int))
theorem mts_in (f : Fm) (o n : List Int) : inB o n (mts f o n) := fun p hp => by
  obtain ⟨i, j, hi, hj, e⟩ := mt_mem hp
  rw [ids_len] at hi hj
  exact ⟨i, j, hi, hj, e⟩
def sp_slipped : Sp := fun vs H Q _ => ∃ (v1 v2 v3 : V) (ms : List IP) (o n : List Int) (M : Ms), vs = [v1, v2, v3] ∧ Rp M H v1 (.list (ms.map pD)) ∧ RowAt M H v2 o ∧ RowAt M H v3 n ∧ inB o n ms ∧ ms.length ≤ 1000 ∧ Mk M H ∧ Pu M H (fun d => d = .list ((slp o n ms).map pD)) Q
theorem ok_slipped (T : Txt K mg) : FnOk P w K mg base CX0 3 T.f__slipped T.d__slipped ["matches", "old", "new"] sp_slipped := by
  refine T.F__slipped.ok sc__slipped (fun vs H Q E h => ?_) (fun cdv A outer s H vs Q E hr h => ?_)
  · obtain ⟨_, _, _, _, _, _, _, rfl, _⟩ := h
    rfl
  · obtain ⟨v1, v2, v3, ms, o, n, M, rfl, h1, h2, h3, hin, lm, hM, q⟩ := h
    obtain ⟨a, xs, rfl, na, ha, rx⟩ := Rp.lstN h1
    obtain ⟨b, rfl, nb, hb⟩ := h2
    obtain ⟨c, rfl, nc, hc⟩ := h3
    have lx := rx.length
    rw [List.length_map] at lx
    refine ⟨_, (pss_one (ps_ret (pe_lc (own := [("place", 3), ("at", 4)]) (g := gTup K 2 (gCons (gName 3) (gCons (gName 4) gNil)))  (by rfl) sc__slipped.nd (pi_listK (K := K) rfl (pv 0)) (blkOk_by (own := [("place", 3), ("at", 4)]) (N := ["matches", "old", "new", "place", "at"]) (sc := defScope s__slipped) (by decide +kernel)) (fun _ _ _ _ _ => (pg_tupK (K := K) rfl rfl (pgs_cons (pg_name (i := 3) sc__slipped.nd rfl (Or.inl rfl)) (pgs_cons (pg_name (i := 4) sc__slipped.nd rfl (Or.inl rfl)) pgs_nil)))) (fun _ _ _ _ _ => (pts_one (pt_cmpR op_ne (pe_ix (ix_tupK (K := K) rfl) (pv 1) (pv 3) (fun _ _ => rfl)) (pe_ix (ix_tupK (K := K) rfl) (pv 2) (pv 4) (fun _ _ => rfl)) (nomark _)))) (fun _ _ _ _ _ => (pe_tup (pa_cons (pe_ix (ix_tupK (K := K) rfl) (pv 1) (pv 3) (fun _ _ => rfl)) (pa_cons (pe_ix (ix_tupK (K := K) rfl) (pv 2) (pv 4) (fun _ _ => rfl)) pa_nil))))))), ?_⟩
    walk_at "g"
    refine ⟨⟨_, .inl ha⟩, fun D hD => ?_⟩
    refine list_loop (xs := xs) (fun i H' => Acc M H D H' ((slp o n (ms.take i)).map pD)) (by
        have := Acc.new (M := M) hD
        exact this) (fun i H' _ p => .inl (sx_rd (Sx.same p.same) na ha)) (fun i x H' hx p => ?_) (fun H2 p => ?_)
    · obtain ⟨id, t, hid, rfl, ht⟩ := rx.pairX hx
      obtain ⟨i1, j1, hi1, hj1, rfl⟩ := hin id (List.mem_of_getElem? hid)
      have hi : i < ms.length := (List.getElem?_eq_some_iff.mp hid).1
      have s1 := p.same
      refine ⟨t, _, rfl, .inl (.inl (s1 _ _ ht)), rfl, _, _, rfl, _, _, rfl, rfl, ?_⟩
      refine ⟨rfl, ?_⟩
      walk_at "g"
      have e1 : o[i1]? = some o[i1] := List.getElem?_eq_getElem hi1
      have e2 : n[j1]? = some n[j1] := List.getElem?_eq_getElem hj1
      have a1 : atI (o.map V.int) (i1 : Int) = some (.int o[i1]) := atI_nat (by rw [List.getElem?_map, e1]; rfl)
      have a2 : atI (n.map V.int) (j1 : Int) = some (.int n[j1]) := atI_nat (by rw [List.getElem?_map, e2]; rfl)
      have t1 : SqT K H' b (o.map V.int) := .inl (sx_rd (Sx.same s1) nb hb)
      have t2 : SqT K H' c (n.map V.int) := .inl (sx_rd (Sx.same s1) nc hc)
      have hst : sst o n ((i1 : Int), (j1 : Int)) = if o[i1] = n[j1] then [] else [(o[i1], n[j1])] := by
        unfold sst
        rw [atI0_nat e1, atI0_nat e2]
      refine ⟨_, _, _, _, rfl, rfl, t1, a1, ?_⟩
      walk_at "g"
      refine ⟨_, _, _, _, rfl, rfl, t2, a2, ?_⟩
      walk_at "g"
      rw [slp_step o n hid, hst]
      by_cases ce : o[i1] = n[j1]
      · rw [decide_eq_true (show V.int o[i1] = V.int n[j1] by rw [ce]), if_pos ce, List.append_nil]
        walk_at "g"
        exact p
      · rw [decide_eq_false (show ¬ V.int o[i1] = V.int n[j1] from fun z => ce (V.int.inj z)), if_neg ce, List.map_append]
        walk_at "g"
        refine ⟨_, _, _, _, rfl, rfl, t1, a1, ?_⟩
        walk_at "g"
        refine ⟨_, _, _, _, rfl, rfl, t2, a2, ?_⟩
        refine ⟨szK rfl, fun p3 hp3 => ?_⟩
        have p4 := p.keep (same_new (o := .tup [.int o[i1], .int n[j1]]) hp3)
        have ls := slp_len o n (ms.take i)
        rw [List.length_take] at ls
        exact p4.put (v := .ref p3) (y := pD (o[i1], n[j1])) (Rp.newT' ((p.mk hM).out hp3) (.cons (.int _) (.one (.int _)))) (by rw [List.length_map]; omega)
    · rw [lx, List.take_length] at p
      walk_at "g"
      exact q _ _ _ p.same (p.rp hM) rfl
theorem in_ints (n : Int) (acc : List Int) : inV (.int n) (acc.map V.int) = decide (n ∈ acc) := by
  unfold inV
  rw [List.any_map, Bool.eq_iff_iff, List.any_eq_true, decide_eq_true_iff]
  constructor
  · rintro ⟨x, hx, e⟩
    have e' : decide (x = n) = true := e
    rw [decide_eq_true_iff] at e'
    rw [← e']
    exact hx
  · intro h
    exact ⟨n, h, by show decide (n = n) = true; exact decide_eq_true rfl⟩
def sp_lost : Sp := fun vs H Q _ => ∃ (v1 v2 v3 : V) (ms : List IP) (o n : List Int) (M : Ms), vs = [v1, v2, v3] ∧ Rp M H v1 (.list (ms.map pD)) ∧ RowF M H v2 o ∧ RowAt M H v3 n ∧ n.length ≤ 1000 ∧ Mk M H ∧ Pu M H (fun d => d = .list ((lsts o n ms).map PyData.int)) Q
theorem ok_lost (T : Txt K mg) : FnOk P w K mg base CX0 3 T.f__lost T.d__lost ["matches", "old", "new"] sp_lost := by
  refine T.F__lost.ok sc__lost (fun vs H Q E h => ?_) (fun cdv A outer s H vs Q E hr h => ?_)
  · obtain ⟨_, _, _, _, _, _, _, rfl, _⟩ := h
    rfl
  · obtain ⟨v1, v2, v3, ms, o, n, M, rfl, h1, h2, h3, ln, hM, q⟩ := h
    obtain ⟨b, ob, rfl, nb, hb, ob1, ob2⟩ := h2
    obtain ⟨c, rfl, nc, hc⟩ := h3
    refine ⟨_, (pss_one (ps_ret (pe_lc (own := [("at", 3), ("item", 4)]) (g := gTup K 2 (gCons (gName 3) (gCons (gName 4) gNil)))  (by rfl) sc__lost.nd (pi_enumTK (K := K) rfl (by rfl) T.m_enumerate (pa_cons (pv 2) pa_nil)) (blkOk_by (own := [("at", 3), ("item", 4)]) (N := ["matches", "old", "new", "at", "item"]) (sc := defScope s__lost) (by decide +kernel)) (fun _ _ _ _ _ => (pg_tupK (K := K) rfl rfl (pgs_cons (pg_name (i := 3) sc__lost.nd rfl (Or.inl rfl)) (pgs_cons (pg_name (i := 4) sc__lost.nd rfl (Or.inl rfl)) pgs_nil)))) (fun _ _ _ _ _ => (pts_one (PW.pt (pw_and (pt_cmpR (op_in_seqK (K := K) rfl) (pv 4) (pv 1) (by rfl)) (pw_and1 (pt_cmpR (op_notInDK (K := K) rfl (hu65 hr)) (pe_tup (pa_cons (pe_mG ty_tup PySem.F.plainAttrs_tuple PySem.F.slot_tuple_index PySem.F.type_tuple_index (mt_tup_indexI (K := K) rfl) (pv 1) (pa_cons (pv 4) pa_nil)) (pa_cons (pv 3) pa_nil))) (pv 0) (by rfl))))))) (fun _ _ _ _ _ => (pv 4))))), ?_⟩
    walk_at "g"
    refine ⟨c, _, rfl, .inl hc, fun D hD => ?_⟩
    refine enumT_loop (xs := n.map V.int) (fun i H' => Acc M H D H' ((lsts o (n.take i) ms).map PyData.int)) (by
        have := Acc.new (M := M) hD
        exact this) (fun i H' _ p => .inl (sx_rd (Sx.same p.same) nc hc)) (fun i x T' H' hx hT p => ?_) (fun H2 p => ?_)
    · rw [List.getElem?_map] at hx
      obtain ⟨x, hxn, rfl⟩ := Option.map_eq_some_iff.mp hx
      have hi : i < n.length := (List.getElem?_eq_some_iff.mp hxn).1
      have s2 : Same H' (upd H' T' (.tup [.int (i : Nat), .int x])) := same_new hT
      have p2 := p.keep s2
      have s3 := p2.same
      have tb := s3 _ _ hb
      have rm := h1.sx (Sx.same s3)
      have ll := lsts_len o (n.take i) ms
      rw [List.length_take] at ll
      refine ⟨T', _, rfl, SqT.of upd_same, rfl, _, _, rfl, _, _, rfl, rfl, ?_⟩
      generalize upd H' T' (.tup [.int (i : Nat), .int x]) = H1 at p2 s3 tb rm
      refine ⟨rfl, ?_⟩
      walk_at "g"
      refine ⟨b, _, rfl, .inr (.inl (.inr ⟨ob, tb⟩)), rfl, flat_ints o, ?_⟩
      rw [in_ints, lsts_step o ms hxn]
      refine ⟨_, rfl, ?_⟩
      by_cases hm : x ∈ o
      · rw [decide_eq_true hm]
        walk_at "g"
        have hix := List.idxOf_lt_length_of_mem hm
        refine ⟨⟨b, ob, _, rfl, tb, ob1, ob2⟩, ?_⟩
        refine ⟨_, rfl, b, o, x, o.idxOf x, rfl, rfl, .inl (.inr ⟨ob, tb⟩), by rw [List.getElem?_eq_getElem hix, List.getElem_idxOf hix], fun m hm1 hm2 => ?_, ?_⟩
        · have h1 := (List.getElem?_eq_some_iff.mp hm2)
          have h2 := List.not_of_lt_findIdx hm1
          rw [h1.2] at h2
          simp at h2
        walk_at "g"
        refine ⟨szK rfl, fun p3 hp3 => ?_⟩
        have p4 := p2.keep (same_new (o := .tup [.int (o.idxOf x : Nat), .int (i : Nat)]) hp3)
        have n3 : Same H1 (upd H1 p3 (.tup [.int (o.idxOf x : Nat), .int (i : Nat)])) := same_new hp3
        have r3 : Rp M (upd H1 p3 (.tup [.int (o.idxOf x : Nat), .int (i : Nat)])) (.ref p3) (pD (((o.idxOf x : Nat) : Int), (i : Int))) := Rp.newT' ((hM.gr (Gr.same s3)).out hp3) (.cons (.int _) (.one (.int _)))
        refine ⟨v1, rfl, _, _, Rp.dp _ _ r3, Rp.dp _ _ (rm.sx (Sx.same n3)), pD_shaped _, pDs_shapedL _, ?_⟩
        rw [pD_any]
        refine ⟨_, rfl, ?_⟩
        by_cases hn : (((o.idxOf x : Nat) : Int), (i : Int)) ∈ ms
        · rw [decide_eq_true hn]
          have e0 : lst1 o ms x i = [] := if_neg fun z => z.2 hn
          rw [e0, List.append_nil]
          exact p4
        · rw [decide_eq_false hn]
          have e0 : lst1 o ms x i = [x] := if_pos ⟨hm, hn⟩
          rw [e0, List.map_append]
          walk_at "g"
          exact p4.put (v := .int x) (y := .int x) (.int x) (by rw [List.length_map]; omega)
      · rw [decide_eq_false hm]
        have e0 : lst1 o ms x i = [] := if_neg fun z => hm z.1
        rw [e0, List.append_nil]
        exact p2
    · rw [List.length_map, List.take_length] at p
      walk_at "g"
      exact q _ _ _ p.same (p.rp hM) rfl
end
end D

namespace D
open PySem PySem.Spec PyProof.Rows L2
local macro_rules | `(tactic| walk_at "st") => `(tactic| first | exact SqT.of (by assumption) | exact Or.inl (by assumption) | exact SqT.of upd_same | fail "st")
local macro_rules | `(tactic| walk_at "ixt") => `(tactic| refine ⟨_, _, _, _, rfl, rfl, (by walk_at "st" : SqT _ _ _ _), by rfl, ?_⟩)
local macro_rules | `(tactic| walk_at "sq") => `(tactic| first | exact SqL.of (by assumption) | assumption | exact Or.inl (by assumption) | exact SqL.of upd_same | fail "sq")
local macro_rules | `(tactic| walk_at "ix") => `(tactic| refine ⟨_, _, _, _, rfl, rfl, (by walk_at "sq" : SqL _ _ _ _), by rfl, ?_⟩)
local macro_rules | `(tactic| walk_at "set") => `(tactic| refine ⟨_, _, _, _, rfl, rfl, by first | assumption | exact upd_same, by rfl, ?_⟩)
local macro_rules | `(tactic| walk_at "len") => `(tactic| refine ⟨_, _, rfl, Or.inl (by walk_at "sq" : SqL _ _ _ _), ?_⟩)
local macro_rules | `(tactic| walk_at "g") => `(tactic| repeat (first | refine ⟨_, rfl, ?_⟩ | refine ⟨_, _, rfl, rfl, ?_⟩ | refine ⟨Or.inr (by decide), ?_⟩ | refine ⟨Or.inl (by decide), ?_⟩ | refine ⟨(by decide : (0 : Int) < _), ?_⟩ | refine ⟨(⟨by decide, by decide⟩ : CDiv _ _), ?_⟩ | refine ⟨(⟨by decide, by decide, by decide⟩ : CPow _ _), ?_⟩ | refine Or.inl ⟨_, rfl, ?_⟩ | refine ⟨rfl, ?_⟩ | walk_at "ix" | walk_at "ixt" | walk_at "len" | fail "g"))
local macro_rules | `(tactic| walk_at "if") => `(tactic| refine ite2 (fun e => ?_) (fun e => ?_))
section
variable {P : Program} {w : World} {K : PySem.W.Frag} {mg : Str → Option Value} {base : Heap}
def rk (ns : List Int) : List Key := ns.map Sum.inl
theorem rk_kV (ns : List Int) : (rk ns).map kV = ns.map V.int := by
  unfold rk
  rw [List.map_map]
  rfl
abbrev RR := List Int × List Int
def badF (f : Fm) (p : RR) : Bool := badB p.1 p.2 (ids f p.1) (ids f p.2)
def FpRes (M : Ms) (H : Hp) (v : V) : Option RR → Prop
  | none => v = .non
  | some p => ∃ t w1 w2, v = .ref t ∧ H t = some (.tup [w1, w2]) ∧ RowF M H w1 p.1 ∧ RowF M H w2 p.2
/-- pairs of rows in a list -/
def PrsAt (M : Ms) (H : Hp) (xs : List V) (ps : List RR) : Prop := xs.length = ps.length ∧ ∀ (i : Nat) (p : RR), ps[i]? = some p → ∃ t w1 w2, xs[i]? = some (.ref t) ∧ H t = some (.tup [w1, w2]) ∧ RowF M H w1 p.1 ∧ RowF M H w2 p.2 ∧ goodRow p.1 ∧ goodRow p.2
/-- the dict of the idents -/
def IdD (P : Program) (w : World) (M : Ms) (H : Hp) (D : Addr) (f : Fm) (ns : List Int) : Prop := ∃ kvs ks v, H D = some (dXo P w D kvs ks) ∧ KsAt H ks ∧ valV kvs (rk ns) = some v ∧ Rp M H v (.tuple ((ids f ns).map pD))
theorem KsAt.same {H H' : Hp} {ks : List (List Key × Addr)} (h : KsAt H ks) (s : Same H H') : KsAt H' ks := fun p hp => same_rd s (h p hp)
theorem IdD.same {P : Program} {w : World} {M : Ms} {H H' : Hp} {D : Addr} {f : Fm} {ns : List Int} (h : IdD P w M H D f ns) (s : Same H H') : IdD P w M H' D f ns := by
  obtain ⟨kvs, ks, v, e, k, l, r⟩ := h
  exact ⟨kvs, ks, v, s _ _ e, k.same s, l, r.sx (Sx.same s)⟩
def sp_fp (K : PySem.W.Frag) (P : Program) (w : World) : Sp := fun vs H Q _ => ∃ (p D : Addr) (xs : List V) (f : Fm) (ps : List RR) (M : Ms), vs = [.ref p, .ref D] ∧ SqL K H p xs ∧ PrsAt M H xs ps ∧ (∀ q ∈ ps, IdD P w M H D f q.1 ∧ IdD P w M H D f q.2) ∧ Mk M H ∧
  ∀ v H', Same H H' → FpRes M H' v (ps.find? (badF f)) → Q v H'
theorem ok_fp (T : Txt K mg) : FnOk P w K mg base CX0 5 T.f__first_parted T.d__first_parted ["pairs", "idents"] (sp_fp K P w) := by
  have G__matches := ok_matches (P := P) (w := w) (base := base) T
  have G__slipped := ok_slipped (P := P) (w := w) (base := base) T
  have G__lost := ok_lost (P := P) (w := w) (base := base) T
  refine T.F__first_parted.ok sc__first_parted (fun vs H Q E h => ?_) (fun cdv A outer s H vs Q E hr h => ?_)
  · obtain ⟨_, _, _, _, _, _, rfl, _⟩ := h
    rfl
  · obtain ⟨p, D, xs, f, ps, M, rfl, hS, ⟨hlen, hprs⟩, hid, hM, q⟩ := h
    refine ⟨_, (pss_cons (ps_for PassesOwn.never rfl (pi_listK (K := K) rfl (pv 0)) (pg_tupK (K := K) rfl rfl (pgs_cons (pg_name (i := 2) sc__first_parted.nd rfl (Or.inl rfl)) (pgs_cons (pg_name (i := 3) sc__first_parted.nd rfl (Or.inl rfl)) pgs_nil))) (pss_cons (ps_set (i := 4) sc__first_parted.nd rfl (Or.inl rfl) (pe_call G__matches (hr.mono (by omega)) (by rfl) T.g__matches T.F__matches.kp T.b__matches .nil pass0 (pa_cons (pe_xget (P := P) (w := w) rfl rfl (hu_of hr) (pv 1) (pv 2) (fun _ _ => rfl)) (pa_cons (pe_xget (P := P) (w := w) rfl rfl (hu_of hr) (pv 1) (pv 3) (fun _ _ => rfl)) pa_nil))))
      (pss_one (ps_if (PW.pt (pw_or (pt_truthK (K := K) rfl (pe_call G__slipped (hr.mono (by omega)) (by rfl) T.g__slipped T.F__slipped.kp T.b__slipped .nil pass0 (pa_cons (pv 4) (pa_cons (pv 2) (pa_cons (pv 3) pa_nil)))) (by intro _; rfl)) (pw_or1 (pt_truthK (K := K) rfl (pe_call G__lost (hr.mono (by omega)) (by rfl) T.g__lost T.F__lost.kp T.b__lost .nil pass0 (pa_cons (pv 4) (pa_cons (pv 2) (pa_cons (pv 3) pa_nil)))) (by intro _; rfl))))) (pss_one (ps_ret (pe_tup (pa_cons (pv 2) (pa_cons (pv 3) pa_nil))))) pss_nil))))
      (pss_one (ps_ret pe_non))), ?_⟩
    walk_at "g"
    refine ⟨⟨_, hS⟩, ?_⟩
    refine for_list (K := K) (a := p) (xs := xs) (fun i σ H' => (∃ y2 y3 y4, σ = [some (.ref p), some (.ref D), y2, y3, y4]) ∧ Same H H' ∧ (ps.take i).find? (badF f) = none) ⟨⟨_, _, _, rfl⟩, Same.refl _, rfl⟩ (fun i σ H' _ pp => pp.2.1.seq hS) (fun i x σ H' hx pp => ?_) (fun σ H' pp => ?_)
    · obtain ⟨⟨y2, y3, y4, rfl⟩, s1, hno⟩ := pp
      have hi : i < ps.length := by rw [← hlen]; exact (List.getElem?_eq_some_iff.mp hx).1
      have epr : ps[i]? = some ps[i] := List.getElem?_eq_getElem hi
      obtain ⟨t, w1, w2, hx2, ht, q1, q2, g1, g2⟩ := hprs i _ epr
      rw [hx] at hx2
      cases hx2
      obtain ⟨d1, d2⟩ := hid _ (List.mem_of_getElem? epr)
      generalize hpr : ps[i] = pr at *
      obtain ⟨o, n⟩ := pr
      have g11 := g1.1
      have g21 := g2.1
      have hB : (ids f o).length ≤ 1000 := by rw [ids_len]; exact Nat.le_trans g11 (by decide)
      have hN : (ids f n).length ≤ 1000 := by rw [ids_len]; exact Nat.le_trans g21 (by decide)
      refine ⟨t, _, rfl, .inl (.inl (s1 _ _ ht)), rfl, _, _, rfl, _, _, rfl, rfl, ?_⟩
      obtain ⟨b1, ob1, rfl, nb1, hb1, ob11, ob12⟩ := id q1
      obtain ⟨b2, ob2, rfl, nb2, hb2, ob21, ob22⟩ := id q2
      obtain ⟨kvs, ks, u1, eD, kat, l1, r1⟩ := d1.same s1
      obtain ⟨kvs', ks', u2, eD', kat', l2, r2⟩ := d2.same s1
      walk_at "g"
      refine ⟨D, kvs, ks, rk o, b1, u1, rfl, rfl, eD, kat, .inr ⟨ob1, by rw [rk_kV]; exact s1 _ _ hb1⟩, l1, ?_⟩
      walk_at "g"
      refine ⟨D, kvs', ks', rk n, b2, u2, rfl, rfl, eD', kat', .inr ⟨ob2, by rw [rk_kV]; exact s1 _ _ hb2⟩, l2, ?_⟩
      have hM1 := hM.gr (Gr.same s1)
      refine ⟨u1, u2, ids f o, ids f n, M, rfl, r1, r2, idp_nodup _, hB, hN, hM1, fun v3 H3 d3 s3 r3 e3 => ?_⟩
      subst e3
      have s13 := s1.trans s3
      have lm : (mt (ids f o) (ids f n)).length ≤ 1000 := by
        have := mt_len (ids f o) (ids f n)
        omega
      have hin : inB o n (mt (ids f o) (ids f n)) := fun p hp => by
        obtain ⟨i, j, hi, hj, e⟩ := mt_mem hp
        rw [ids_len] at hi hj
        exact ⟨i, j, hi, hj, e⟩
      walk_at "g"
      refine ⟨v3, _, _, mt (ids f o) (ids f n), o, n, M, rfl, r3, q1.row.sx (Sx.same s13), q2.row.sx (Sx.same s13), hin, lm, hM.gr (Gr.same s13), fun v4 H4 d4 s4 r4 e4 => ?_⟩
      subst e4
      obtain ⟨c4, z4, rfl, nc4, hc4, rz4⟩ := Rp.lstN r4
      have lz4 := rz4.length
      rw [List.length_map] at lz4
      have s14 := s13.trans s4
      have done : badF f (o, n) = true → ∀ H5, Same H4 H5 → [V.ref b1, V.ref b2].length ≤ sizeLine ∧ ∀ t, H5 t = none → Q (.ref t) (upd H5 t (.tup [.ref b1, .ref b2])) := fun hb H5 s5 => by
        refine ⟨szK rfl, fun t5 ht5 => ?_⟩
        have s6 := (s14.trans s5).trans (same_new (o := .tup [V.ref b1, V.ref b2]) ht5)
        refine q _ _ s6 ?_
        have hf : ps.find? (badF f) = some (o, n) := by
          rw [List.find?_eq_some_iff_getElem]
          refine ⟨hb, i, hi, hpr, fun j hj => ?_⟩
          have hj' : j < ps.length := Nat.lt_trans hj hi
          have hm : ps[j] ∈ ps.take i := by
            rw [List.mem_iff_getElem?]
            exact ⟨j, by rw [List.getElem?_take_of_lt hj]; exact List.getElem?_eq_getElem hj'⟩
          have := List.find?_eq_none.mp hno _ hm
          simpa using this
        rw [hf]
        exact ⟨t5, _, _, rfl, upd_same, q1.sx (Sx.same s6), q2.sx (Sx.same s6)⟩
      have next : badF f (o, n) = false → (ps.take (i + 1)).find? (badF f) = none := fun hb => by
        rw [List.take_add_one, epr, List.find?_append, hno]
        show List.find? (badF f) [(o, n)] = none
        rw [List.find?_cons, hb]
        rfl
      refine ⟨!z4.isEmpty, .inl ⟨_, .inl hc4, rfl⟩, ?_⟩
      by_cases cs : slp o n (mt (ids f o) (ids f n)) = []
      · have z40 : z4 = [] := List.length_eq_zero_iff.mp (by rw [lz4, cs]; rfl)
        rw [show (!z4.isEmpty) = false by rw [z40]; rfl]
        walk_at "g"
        refine ⟨v3, _, _, mt (ids f o) (ids f n), o, n, M, rfl, r3.sx (Sx.same s4), q1.sx (Sx.same s14), q2.row.sx (Sx.same s14), Nat.le_trans g21 (by decide), hM.gr (Gr.same s14), fun v5 H5 d5 s5 r5 e5 => ?_⟩
        subst e5
        obtain ⟨c5, z5, rfl, nc5, hc5, rz5⟩ := Rp.lstN r5
        have lz5 := rz5.length
        rw [List.length_map] at lz5
        refine ⟨!z5.isEmpty, .inl ⟨_, .inl hc5, rfl⟩, ?_⟩
        by_cases cl : lsts o n (mt (ids f o) (ids f n)) = []
        · have z50 : z5 = [] := List.length_eq_zero_iff.mp (by rw [lz5, cl]; rfl)
          rw [show (!z5.isEmpty) = false by rw [z50]; rfl]
          walk_at "g"
          refine ⟨⟨_, _, _, rfl⟩, s14.trans s5, next ?_⟩
          show badB o n (ids f o) (ids f n) = false
          unfold badB
          rw [cs, cl]
          rfl
        · have hb : badF f (o, n) = true := by
            show badB o n (ids f o) (ids f n) = true
            unfold badB
            cases e : lsts o n (mt (ids f o) (ids f n)) with
            | nil => exact absurd e cl
            | cons a r => exact Bool.or_true _
          rw [show (!z5.isEmpty) = true by cases z5 with | nil => exact absurd (List.length_eq_zero_iff.mp lz5.symm) cl | cons _ _ => rfl]
          walk_at "g"
          exact done hb H5 s5
      · have hb : badF f (o, n) = true := by
          show badB o n (ids f o) (ids f n) = true
          unfold badB
          cases e : slp o n (mt (ids f o) (ids f n)) with
          | nil => exact absurd e cs
          | cons a r => rfl
        rw [show (!z4.isEmpty) = true by cases z4 with | nil => exact absurd (List.length_eq_zero_iff.mp lz4.symm) cs | cons _ _ => rfl]
        walk_at "g"
        exact done hb H4 (Same.refl _)
    · obtain ⟨⟨y2, y3, y4, rfl⟩, s1, hno⟩ := pp
      walk_at "g"
      rw [hlen, List.take_length] at hno
      refine q _ _ s1 ?_
      rw [hno]
      rfl
end
end D

namespace D
open PySem PySem.Spec PyProof.Rows L2
local macro_rules | `(tactic| walk_at "st") => `(tactic| first | exact SqT.of (by assumption) | exact Or.inl (by assumption) | exact SqT.of upd_same | fail "st")
local macro_rules | `(tactic| walk_at "ixt") => `(tactic| refine ⟨_, _, _, _, rfl, rfl, (by walk_at "st" : SqT _ _ _ _), by rfl, ?_⟩)
local macro_rules | `(tactic| walk_at "sq") => `(tactic| first | exact SqL.of (by assumption) | assumption | exact Or.inl (by assumption) | exact SqL.of upd_same | fail "sq")
local macro_rules | `(tactic| walk_at "ix") => `(tactic| refine ⟨_, _, _, _, rfl, rfl, (by walk_at "sq" : SqL _ _ _ _), by rfl, ?_⟩)
local macro_rules | `(tactic| walk_at "set") => `(tactic| refine ⟨_, _, _, _, rfl, rfl, by first | assumption | exact upd_same, by rfl, ?_⟩)
local macro_rules | `(tactic| walk_at "len") => `(tactic| refine ⟨_, _, rfl, Or.inl (by walk_at "sq" : SqL _ _ _ _), ?_⟩)
local macro_rules | `(tactic| walk_at "g") => `(tactic| repeat (first | refine ⟨_, rfl, ?_⟩ | refine ⟨_, _, rfl, rfl, ?_⟩ | refine ⟨Or.inr (by decide), ?_⟩ | refine ⟨Or.inl (by decide), ?_⟩ | refine ⟨(by decide : (0 : Int) < _), ?_⟩ | refine ⟨(⟨by decide, by decide⟩ : CDiv _ _), ?_⟩ | refine ⟨(⟨by decide, by decide, by decide⟩ : CPow _ _), ?_⟩ | refine Or.inl ⟨_, rfl, ?_⟩ | refine ⟨rfl, ?_⟩ | walk_at "ix" | walk_at "ixt" | walk_at "len" | fail "g"))
local macro_rules | `(tactic| walk_at "if") => `(tactic| refine ite2 (fun e => ?_) (fun e => ?_))
section
variable {P : Program} {w : World} {K : PySem.W.Frag} {mg : Str → Option Value} {base : Heap}
/-- tuples stay -/
def KeepT (H H' : Hp) : Prop := (∀ a xs, H a = some (.tup xs) → H' a = some (.tup xs)) ∧ ∀ a o u, H a = some (.frz o u) → H' a = some (.frz o u)
theorem KeepT.same {H H' : Hp} (s : Same H H') : KeepT H H' := ⟨fun a xs e => s a _ e, fun a o u e => s a _ e⟩
theorem KeepT.put {H : Hp} {D : Addr} {u v : HO} (e : H D = some u) (h1 : ∀ xs, u ≠ .tup xs) (h2 : ∀ o z, u ≠ .frz o z) : KeepT H (upd H D v) :=
  ⟨fun a xs q => by rw [upd_ne (fun z => by rw [z, e] at q; exact h1 _ (Option.some.inj q))]; exact q, fun a o z q => by rw [upd_ne (fun y => by rw [y, e] at q; exact h2 _ _ (Option.some.inj q))]; exact q⟩
theorem RowF.keepT {M : Ms} {H H' : Hp} {v : V} {ns : List Int} (h : RowF M H v ns) (s : KeepT H H') : RowF M H' v ns := by
  obtain ⟨a, o, e, n, ha, r⟩ := h
  exact ⟨a, o, e, n, s.2 _ _ _ ha, r⟩
theorem PrsAt.keepT {M : Ms} {H H' : Hp} {xs : List V} {ps : List RR} (h : PrsAt M H xs ps) (s : KeepT H H') : PrsAt M H' xs ps := ⟨h.1, fun i p hp => by
  obtain ⟨t, w1, w2, e, ht, q1, q2, g⟩ := h.2 i p hp
  exact ⟨t, w1, w2, e, s.1 _ _ ht, q1.keepT s, q2.keepT s, g⟩⟩
theorem PrsAt.snoc {M : Ms} {H : Hp} {xs : List V} {ps : List RR} {t : Addr} {w1 w2 : V} {p : RR} (h : PrsAt M H xs ps) (ht : H t = some (.tup [w1, w2])) (q1 : RowF M H w1 p.1) (q2 : RowF M H w2 p.2) (g1 : goodRow p.1) (g2 : goodRow p.2) : PrsAt M H (xs ++ [.ref t]) (ps ++ [p]) := by
  refine ⟨by rw [List.length_append, List.length_append, h.1]; rfl, fun i r hr => ?_⟩
  by_cases c : i < ps.length
  · rw [List.getElem?_append_left c] at hr
    obtain ⟨t', u1, u2, e, z⟩ := h.2 i r hr
    exact ⟨t', u1, u2, by rw [List.getElem?_append_left (by rw [h.1]; exact c)]; exact e, z⟩
  · rw [List.getElem?_append_right (by omega)] at hr
    have hi : i - ps.length = 0 := by
      have := (List.getElem?_eq_some_iff.mp hr).1
      rw [List.length_singleton] at this
      omega
    rw [hi] at hr
    cases hr
    refine ⟨t, w1, w2, ?_, ht, q1, q2, g1, g2⟩
    rw [List.getElem?_append_right (by rw [h.1]; omega), h.1, hi]
    rfl
/-- a menu of rows -/
def MenuAt (M : Ms) (H : Hp) (v : V) (nss : List (List Int)) : Prop := ∃ m xs, v = .ref m ∧ ¬ M m ∧ Rd H m (.tup xs) ∧ xs.length = nss.length ∧ nss.length ≤ 8 ∧ ∀ (i : Nat) (ns : List Int), nss[i]? = some ns → ∃ w, xs[i]? = some w ∧ RowF M H w ns ∧ goodRow ns
theorem MenuAt.sx {M : Ms} {H H' : Hp} {v : V} {nss : List (List Int)} (h : MenuAt M H v nss) (s : Sx M H H') : MenuAt M H' v nss := by
  obtain ⟨m, xs, e, n, r, l, l8, z⟩ := h
  refine ⟨m, xs, e, n, sx_rd s n r, l, l8, fun i ns hi => ?_⟩
  obtain ⟨w, hw, q, g⟩ := z i ns hi
  exact ⟨w, hw, q.sx s, g⟩
def cross (nss : List (List Int)) : List RR := nss.flatMap fun o => nss.map fun n => (o, n)
def crossUp (nss : List (List Int)) (i : Nat) : List RR := (nss.take i).flatMap fun o => nss.map fun n => (o, n)
theorem crossUp_step {nss : List (List Int)} {i : Nat} {o : List Int} (h : nss[i]? = some o) : crossUp nss (i + 1) = crossUp nss i ++ nss.map fun n => (o, n) := by
  unfold crossUp
  rw [List.take_add_one, h, List.flatMap_append]
  simp
theorem crossUp_len (nss : List (List Int)) (h : nss.length ≤ 8) : ∀ i, i ≤ nss.length → (crossUp nss i).length ≤ i * 8
  | 0, _ => by simp [crossUp]
  | i + 1, hi => by
    rw [crossUp_step (List.getElem?_eq_getElem (by omega : i < nss.length)), List.length_append, List.length_map]
    have := crossUp_len nss h i (by omega)
    omega
theorem rk_inj {a b : List Int} (h : rk a = rk b) : a = b := by
  have h2 := congrArg (List.map kV) h
  rw [rk_kV, rk_kV] at h2
  have : ∀ l1 l2 : List Int, l1.map V.int = l2.map V.int → l1 = l2 := by
    intro l1
    induction l1 with
    | nil => intro l2 e; cases l2 with | nil => rfl | cons _ _ => cases e
    | cons x r ih =>
      intro l2 e
      cases l2 with
      | nil => cases e
      | cons y s =>
        rw [List.map_cons, List.map_cons] at e
        injection e with e1 e2
        rw [V.int.inj e1, ih s e2]
  exact this a b h2
theorem dXo_tup {P : Program} {w : World} {a : Addr} {kvs : List (List Key × V)} {ks : List (List Key × Addr)} (xs : List V) : dXo P w a kvs ks ≠ .tup xs := fun z => by unfold dXo at z; cases z
theorem dXo_frz {P : Program} {w : World} {a : Addr} {kvs : List (List Key × V)} {ks : List (List Key × Addr)} (o : Obj) (u : HO) : dXo P w a kvs ks ≠ .frz o u := fun z => by unfold dXo at z; cases z
theorem KsAt.keepT {H H' : Hp} {ks : List (List Key × Addr)} (h : KsAt H ks) (s : KeepT H H') : KsAt H' ks := fun p hp => by
  rcases h p hp with e | ⟨o, e⟩
  · exact .inl (s.1 _ _ e)
  · exact .inr ⟨o, s.2 _ _ _ e⟩
theorem rd_keepT {H H' : Hp} {a : Addr} {xs : List V} (h : Rd H a (.tup xs)) (s : KeepT H H') : Rd H' a (.tup xs) := by
  rcases h with e | ⟨o, e⟩
  · exact .inl (s.1 _ _ e)
  · exact .inr ⟨o, s.2 _ _ _ e⟩
theorem ksat_nil {H : Hp} : KsAt H [] := fun p hp => nomatch hp
theorem KeyAt.fresh {C : Addr} {M : Ms} {H : Hp} {k : V} {f : Fm} {p : Addr} (hp : H p = none) (h : KeyAt C M H k f) : KeyAt C (also M p) H k f := by
  obtain ⟨a, dx, u, e, n, ha, r, g⟩ := h
  refine ⟨a, dx, u, e, fun z => ?_, ha, r.fresh hp, g⟩
  rcases z with z | z
  · exact n z
  · rw [show a = p from z, hp] at ha
    cases ha
theorem ksat_put {H : Hp} {kvs : List (List Key × V)} {ks : List (List Key × Addr)} {k : List Key} {b : Addr} (h : KsAt H ks) (e : Rd H b (.tup (k.map kV))) : KsAt H (ksPut kvs ks k b) := fun p hp => by
  unfold ksPut at hp
  split at hp
  · exact h p hp
  · rcases List.mem_append.mp hp with hp | hp
    · exact h p hp
    · rw [List.mem_singleton.mp hp]
      exact e
/-- the first pair that a key mixes up -/
def firstBad (f : Fm) (nss : List (List Int)) : Option RR := (cross nss).find? (badF f)
def sp_faithful (T : Txt K mg) : Sp := fun vs H Q _ => ∃ (k v : V) (f : Fm) (nss : List (List Int)) (M : Ms), vs = [k, v] ∧ KeyAt T.C_Key M H k f ∧ MenuAt M H v nss ∧ Mk M H ∧
  ∀ v H', Same H H' → FpRes M H' v (firstBad f nss) → Q v H'
theorem ok_faithful (T : Txt K mg) : FnOk P w K mg base CX0 10 T.f_faithful T.d_faithful ["key", "menu"] (sp_faithful T) := by
  have G_check_rows := ok_check_rows (P := P) (w := w) (base := base) T
  have G__idents := ok_ids (P := P) (w := w) (base := base) T
  have G__first_parted := ok_fp (P := P) (w := w) (base := base) T
  refine T.F_faithful.ok sc_faithful (fun vs H Q E h => ?_) (fun cdv A outer s H vs Q E hr h => ?_)
  · obtain ⟨_, _, _, _, _, rfl, _⟩ := h
    rfl
  · obtain ⟨k, v, f, nss, M, rfl, hK, hm, hM, q⟩ := h
    obtain ⟨m, xs, em, nm, rm, lxs, l8, rows⟩ := id hm
    subst em
    have rowAt : ∀ {H'}, Same H H' → ∀ (i : Nat) (x : V), xs[i]? = some x → ∃ ns, nss[i]? = some ns ∧ RowF M H' x ns ∧ goodRow ns := fun {H'} s i x hx => by
      have hi : i < nss.length := by rw [← lxs]; exact (List.getElem?_eq_some_iff.mp hx).1
      obtain ⟨w, hw, q, g⟩ := rows i _ (List.getElem?_eq_getElem hi)
      rw [hx] at hw
      cases hw
      exact ⟨_, List.getElem?_eq_getElem hi, q.sx (Sx.same s), g⟩
    refine ⟨_, (pss_cons (ps_expr (pe_call G_check_rows (hr.mono (by omega)) (by rfl) T.g_check_rows T.F_check_rows.kp T.b_check_rows .nil pass0 (pa_cons (pv 1) pa_nil)))
      (pss_cons (ps_setLc2 (i := 2) (own := [("old", 3), ("new", 4)]) (vs1 := [4]) (g := gName 3) (g1 := gName 4) (tt := tYes) (tt1 := tYes)  (by rfl) sc_faithful.nd rfl rfl (sw_true rfl rfl rfl (by decide +kernel)) (pi_tupK (K := K) rfl (pv 1)) (blkOk_by (own := [("old", 3), ("new", 4)]) (N := ["key", "menu", "pairs", "old", "new", "row"]) (sc := defScope s_faithful) (by decide +kernel)) (by decide) (fun _ _ _ _ _ => (pg_name (i := 3) sc_faithful.nd rfl (Or.inl rfl))) (fun _ _ _ _ _ => pts_nil) (fun _ _ _ _ _ => (pi_tupK (K := K) rfl (pv 1))) (fun _ _ _ _ _ => (pg_name (i := 4) sc_faithful.nd rfl (Or.inl rfl))) (fun _ _ _ _ _ => pts_nil) (fun _ _ _ _ _ => (pe_tup (pa_cons (pv 3) (pa_cons (pv 4) pa_nil)))))
      (pss_one (ps_ret (pe_call G__first_parted (hr.mono (by omega)) (by rfl) T.g__first_parted T.F__first_parted.kp T.b__first_parted .nil pass0 (pa_cons (pv 2) (pa_cons (pe_dcX (P := P) (w := w) rfl rfl (own := [("row", 5)]) (g := gName 5) (tt := tYes) (hu_of hr) (by rfl) sc_faithful.nd (pi_tupK (K := K) rfl (pv 1)) (blkOk_by (own := [("row", 5)]) (N := ["key", "menu", "pairs", "old", "new", "row"]) (sc := defScope s_faithful) (by decide +kernel)) (fun _ _ _ _ _ => (pg_name (i := 5) sc_faithful.nd rfl (Or.inl rfl))) (fun _ _ _ _ _ => pts_nil) (fun _ _ _ _ _ => (pv 5)) (fun _ _ _ _ _ => (pe_call G__idents (hr.mono (by omega)) (by rfl) T.g__idents T.F__idents.kp T.b__idents .nil pass0 (pa_cons (pv 0) (pa_cons (pv 5) pa_nil))))) pa_nil))))))), ?_⟩
    walk_at "g"
    refine ⟨m, xs, M, rfl, .inl rm, fun x hx => ?_, fun H1 s1 => ?_⟩
    · obtain ⟨i, hi⟩ := List.mem_iff_getElem?.mp hx
      obtain ⟨ns, _, q, g⟩ := rowAt (Same.refl _) i x hi
      exact ⟨ns, q.row, g⟩
    have hM1 := hM.gr (Gr.same s1)
    have rm1 := same_rd s1 rm
    walk_at "g"
    refine ⟨⟨_, .inl rm1⟩, fun D hD => ?_⟩
    refine tup_loop (xs := xs) (fun i H' => Same H1 H' ∧ ∃ acc, H' D = some (.lst acc) ∧ PrsAt M H' acc (crossUp nss i)) ⟨same_new hD, [], upd_same, rfl, fun i p e => by simp [crossUp] at e⟩ (fun i H' _ p => .inl (same_rd p.1 rm1)) (fun i x H' hx p => ?_) (fun H2 p => ?_)
    · refine ⟨rfl, ?_⟩
      have sp := p.1
      obtain ⟨o, ho, qo, go⟩ := rowAt (s1.trans sp) i x hx
      walk_at "g"
      refine ⟨⟨_, .inl (same_rd sp rm1)⟩, ?_⟩
      refine tup_loop (xs := xs) (fun j H' => Same H1 H' ∧ ∃ acc, H' D = some (.lst acc) ∧ PrsAt M H' acc (crossUp nss i ++ (nss.take j).map fun n => (o, n))) (by
        obtain ⟨a, acc, b, c⟩ := p
        exact ⟨a, acc, b, by rw [List.take_zero, List.map_nil, List.append_nil]; exact c⟩) (fun j H' _ p => .inl (same_rd p.1 rm1)) (fun j y H3 hy p3 => ?_) (fun H3 p3 => by
        obtain ⟨a, acc, b, c⟩ := p3
        rw [lxs, List.take_length] at c
        exact ⟨a, acc, b, by rw [crossUp_step ho]; exact c⟩)
      obtain ⟨s3, acc, eD, hP⟩ := p3
      obtain ⟨n, hn, qn, gn⟩ := rowAt (s1.trans s3) j y hy
      obtain ⟨o', ho', qo', _⟩ := rowAt (s1.trans s3) i x hx
      rw [ho] at ho'
      cases ho'
      have hi : i < nss.length := (List.getElem?_eq_some_iff.mp ho).1
      have hj : j < nss.length := (List.getElem?_eq_some_iff.mp hn).1
      refine ⟨rfl, ?_⟩
      walk_at "g"
      refine ⟨szK rfl, fun t ht => ?_⟩
      have st : Same H3 (upd H3 t (.tup [x, y])) := same_new ht
      have eD' := st _ _ eD
      have kt : KeepT (upd H3 t (.tup [x, y])) (upd (upd H3 t (.tup [x, y])) D (.lst (acc ++ [.ref t]))) := KeepT.put eD' (fun _ z => nomatch z) (fun _ _ z => nomatch z)
      have P4 := (hP.keepT (KeepT.same st)).snoc (p := (o, n)) upd_same (qo'.sx (Sx.same st)) (qn.sx (Sx.same st)) go gn
      have lc := crossUp_len nss l8 i (by omega)
      have la := hP.1
      rw [List.length_append, List.length_map, List.length_take] at la
      refine ⟨acc, eD', small1000 (by omega), same_put (s3.trans st) hD, acc ++ [.ref t], upd_same, ?_⟩
      rw [List.take_add_one, hn, List.map_append, ← List.append_assoc]
      exact P4.keepT kt
    obtain ⟨s2, acc, eD, hP⟩ := p
    have ec : crossUp nss xs.length = cross nss := by unfold crossUp cross; rw [lxs, List.take_length]
    rw [ec] at hP
    have s12 := s1.trans s2
    have hM2 := hM1.gr (Gr.same s2)
    have rm2 := same_rd s2 rm1
    walk_at "g"
    refine ⟨⟨_, .inl rm2⟩, fun Dd hDd => ?_⟩
    refine tup_loop (xs := xs) (fun i H' => Same H2 H' ∧ ∃ kvs ks, H' Dd = some (dXo P w Dd kvs ks) ∧ KsAt H' ks ∧ kvs.length ≤ i ∧ ∀ ns ∈ nss.take i, ∃ v, valV kvs (rk ns) = some v ∧ Rp (also M Dd) H' v (.tuple ((ids f ns).map pD)))
      ⟨same_new hDd, [], [], upd_same, ksat_nil, Nat.le_refl _, fun ns hn => by rw [List.take_zero] at hn; exact nomatch hn⟩ (fun i H' _ p => .inl (same_rd p.1 rm2)) (fun i x H' hx p => ?_) (fun H3 p => ?_)
    · obtain ⟨s3, kvs, ks, eDd, kat, lk, all⟩ := p
      obtain ⟨ns, hns, qn, gn⟩ := rowAt (s12.trans s3) i x hx
      obtain ⟨b, ob, rfl, nb, hb, ob1, ob2⟩ := id qn
      have hi : i < nss.length := (List.getElem?_eq_some_iff.mp hns).1
      refine ⟨rfl, ?_⟩
      walk_at "g"
      have hK2 := (((hK.sx (Sx.same s12)).fresh hDd).sx (Sx.same s3))
      obtain ⟨ns', hns', qn2, _⟩ := rowAt s12 i (.ref b) hx
      rw [hns] at hns'
      cases hns'
      have qn3 := (qn2.fresh hDd).sx (Sx.same s3)
      have hMd : Mk (also M Dd) H' := (hM2.gr (Gr.same s3)).also (ne_none eDd)
      refine ⟨k, _, f, ns, also M Dd, rfl, hK2, qn3.row, gn.1, hMd, fun v4 H4 d4 s4 r4 e4 => ?_⟩
      subst e4
      have eD4 := s4 _ _ eDd
      have kat4 := kat.same s4
      have hb4 : Rd H4 b (.tup ((rk ns).map kV)) := .inr ⟨ob, by rw [rk_kV]; exact s4 _ _ hb⟩
      have r4' : Rp (also M Dd) H4 v4 (.tuple ((ids f ns).map pD)) := by
        unfold ids
        rw [← idsOf_eq]
        exact r4
      have kt : KeepT H4 (upd H4 Dd (dXo P w Dd (putK kvs (rk ns) v4) (ksPut kvs ks (rk ns) b))) := KeepT.put eD4 dXo_tup dXo_frz
      refine ⟨kvs, ks, rk ns, b, rfl, hb4, eD4, kat4, small1000 (by omega), same_put (s3.trans s4) hDd, _, _, upd_same, (ksat_put kat4 hb4).keepT kt, ?_, fun ms hms => ?_⟩
      · have := putK_le' kvs (rk ns) v4
        omega
      · rw [valV_put]
        have sp : Sx (also M Dd) H4 (upd H4 Dd (dXo P w Dd (putK kvs (rk ns) v4) (ksPut kvs ks (rk ns) b))) := Sx.put (.inr rfl)
        by_cases c : rk ms = rk ns
        · rw [if_pos c]
          have := rk_inj c
          subst this
          exact ⟨v4, rfl, r4'.sx sp⟩
        · rw [if_neg c]
          rw [List.take_add_one, hns] at hms
          rcases List.mem_append.mp hms with hms | hms
          · obtain ⟨v5, e5, r5⟩ := all ms hms
            exact ⟨v5, e5, (r5.sx (Sx.same s4)).sx sp⟩
          · have : ms = ns := by simpa using hms
            exact absurd (by rw [this]) c
    obtain ⟨s3, kvs, ks, eDd, kat, lk, all⟩ := p
    rw [lxs, List.take_length] at all
    have hP3 := hP.keepT (KeepT.same s3)
    have s13 := s12.trans s3
    have has : ∀ ns ∈ nss, IdD P w M H3 Dd f ns := fun ns hn => by
      obtain ⟨v5, e5, r5⟩ := all ns hn
      exact ⟨kvs, ks, v5, eDd, kat, e5, r5.less also_le⟩
    refine ⟨D, Dd, acc, f, cross nss, M, rfl, .inl (.inl (s3 _ _ eD)), hP3, fun p hp => ?_, hM.gr (Gr.same s13), fun v H' s4 r => q v H' (s13.trans s4) r⟩
    unfold cross at hp
    obtain ⟨o, ho, hp⟩ := List.mem_flatMap.mp hp
    obtain ⟨n, hn, rfl⟩ := List.mem_map.mp hp
    exact ⟨has o ho, has n hn⟩
end
end D

namespace D
open PySem PySem.Spec PyProof.Rows L2
local macro_rules | `(tactic| walk_at "st") => `(tactic| first | exact SqT.of (by assumption) | exact Or.inl (by assumption) | exact SqT.of upd_same | fail "st")
local macro_rules | `(tactic| walk_at "ixt") => `(tactic| refine ⟨_, _, _, _, rfl, rfl, (by walk_at "st" : SqT _ _ _ _), by rfl, ?_⟩)
local macro_rules | `(tactic| walk_at "sq") => `(tactic| first | exact SqL.of (by assumption) | assumption | exact Or.inl (by assumption) | exact SqL.of upd_same | fail "sq")
local macro_rules | `(tactic| walk_at "ix") => `(tactic| refine ⟨_, _, _, _, rfl, rfl, (by walk_at "sq" : SqL _ _ _ _), by rfl, ?_⟩)
local macro_rules | `(tactic| walk_at "set") => `(tactic| refine ⟨_, _, _, _, rfl, rfl, by first | assumption | exact upd_same, by rfl, ?_⟩)
local macro_rules | `(tactic| walk_at "len") => `(tactic| refine ⟨_, _, rfl, Or.inl (by walk_at "sq" : SqL _ _ _ _), ?_⟩)
local macro_rules | `(tactic| walk_at "g") => `(tactic| repeat (first | refine ⟨_, rfl, ?_⟩ | refine ⟨_, _, rfl, rfl, ?_⟩ | refine ⟨Or.inr (by decide), ?_⟩ | refine ⟨Or.inl (by decide), ?_⟩ | refine ⟨(by decide : (0 : Int) < _), ?_⟩ | refine ⟨(⟨by decide, by decide⟩ : CDiv _ _), ?_⟩ | refine ⟨(⟨by decide, by decide, by decide⟩ : CPow _ _), ?_⟩ | refine Or.inl ⟨_, rfl, ?_⟩ | refine ⟨rfl, ?_⟩ | walk_at "ix" | walk_at "ixt" | walk_at "len" | fail "g"))
local macro_rules | `(tactic| walk_at "if") => `(tactic| refine ite2 (fun e => ?_) (fun e => ?_))
section
variable {P : Program} {w : World} {K : PySem.W.Frag} {mg : Str → Option Value} {base : Heap}
@[irreducible] def prs (f g : Fm) : List (Int × Int) := (List.range 50).map fun t => (kval f ((t / 5 : Nat) : Int) ((t % 5 : Nat) : Int), kval g ((t / 5 : Nat) : Int) ((t % 5 : Nat) : Int))
def funOk (L : List (Int × Int)) : Bool := decide (∀ p ∈ L, ∀ q ∈ L, p.2 = q.2 → p.1 = q.1)
def toldB (L : List (Int × Int)) (p : Int × Int) : Bool := decide (valV (toldK L) (.inl p.2) = some (.int p.1))
theorem told_funOk (L : List (Int × Int)) : (L.map (toldB L)).all id = funOk L := by
  unfold funOk
  rw [Bool.eq_iff_iff, decide_eq_true_iff, List.all_map, List.all_eq_true]
  constructor
  · intro h p hp x hx e
    have h1 : valV (toldK L) (.inl p.2) = some (.int p.1) := of_decide_eq_true (h p hp)
    have h2 : valV (toldK L) (.inl x.2) = some (.int x.1) := of_decide_eq_true (h x hx)
    rw [e, h2] at h1
    exact (V.int.inj (Option.some.inj h1)).symm
  · intro h p hp
    obtain ⟨v, ev, hv⟩ := told_get hp
    have e1 : v = p.1 := h _ hv p hp rfl
    rw [e1] at ev
    exact decide_eq_true ev
theorem toldB_at {L : List (Int × Int)} {p : Int × Int} {v : Int} (e : valV (toldK L) (.inl p.2) = some (.int v)) : toldB L p = decide (V.int v = V.int p.1) := by
  unfold toldB
  rw [e, decide_eq_decide]
  exact ⟨fun e => Option.some.inj e, fun e => by rw [e]⟩
def atMost (f g : Fm) : Bool := funOk (prs f g)
def prD (p : Int × Int) : PyData := .tuple [.int p.1, .int p.2]
theorem prs_at (f g : Fm) {i j : Nat} (hi : i < 10) (hj : j < 5) : (prs f g)[i * 5 + j]? = some (kval f (i : Int) (j : Int), kval g (i : Int) (j : Int)) := by
  unfold prs
  rw [List.getElem?_map, List.getElem?_range (by omega)]
  have e1 : (i * 5 + j) / 5 = i := by omega
  have e2 : (i * 5 + j) % 5 = j := by omega
  show some (kval f (((i * 5 + j) / 5 : Nat) : Int) (((i * 5 + j) % 5 : Nat) : Int), kval g (((i * 5 + j) / 5 : Nat) : Int) (((i * 5 + j) % 5 : Nat) : Int)) = some _
  rw [e1, e2]
theorem prs_len (f g : Fm) : (prs f g).length = 50 := by
  unfold prs
  rw [List.length_map, List.length_range]
def sp_le (T : Txt K mg) : Sp := fun vs H Q _ => ∃ (k1 k2 : V) (f g : Fm) (M : Ms), vs = [k1, k2] ∧ KeyAt T.C_Key M H k1 f ∧ KeyAt T.C_Key M H k2 g ∧ Mk M H ∧ ∀ H', Same H H' → Q (.bl (atMost f g)) H'
theorem ok_le (T : Txt K mg) : FnOk P w K mg base CX0 8 T.f_Key___le__ T.d_Key___le__ ["self", "other"] (sp_le T) := by
  have G__key_value := ok_key_value (P := P) (w := w) (base := base) T
  refine T.F_Key___le__.ok sc_Key___le__ (fun vs H Q E h => ?_) (fun cdv A outer s H vs Q E hr h => ?_)
  · obtain ⟨_, _, _, _, _, rfl, _⟩ := h
    rfl
  · obtain ⟨k1, k2, f, g, M, rfl, hK1, hK2, hM, q⟩ := h
    refine ⟨_, (pss_cons (ps_if (pt_not (pt_val (pe_callB (call_isCK T.in_Key) (by rfl) T.m_isinstance (by decide +kernel) (pa_cons (pv 1) (pa_cons (pe_glob (v := .ref T.C_Key) rfl T.g_Key rfl) pa_nil))))) (pss_one ps_never) pss_nil)
      (pss_cons (ps_setLc2 (i := 2) (own := [("item", 4), ("at", 5)]) (vs1 := [5]) (g := gName 4) (g1 := gName 5) (tt := tYes) (tt1 := tYes)  (by rfl) sc_Key___le__.nd rfl rfl (sw_true rfl rfl rfl (by decide +kernel)) (pi_range1 (by rfl) T.m_range (pa_cons pe_int pa_nil)) (blkOk_by (own := [("item", 4), ("at", 5)]) (N := ["self", "other", "values", "told", "item", "at", "first", "second"]) (sc := defScope s_Key___le__) (by decide +kernel)) (by decide) (fun _ _ _ _ _ => (pg_name (i := 4) sc_Key___le__.nd rfl (Or.inl rfl))) (fun _ _ _ _ _ => pts_nil) (fun _ _ _ _ _ => (pi_range1 (by rfl) T.m_range (pa_cons (pe_glob (v := .int 5) rfl T.c_MOST_ITEMS ⟨_, rfl⟩) pa_nil))) (fun _ _ _ _ _ => (pg_name (i := 5) sc_Key___le__.nd rfl (Or.inl rfl))) (fun _ _ _ _ _ => pts_nil) (fun _ _ _ _ _ => (pe_tup (pa_cons (pe_call G__key_value (hr.mono (by omega)) (by rfl) T.g__key_value T.F__key_value.kp T.b__key_value .nil pass0 (pa_cons (pe_fldK (K := K) rfl (pv 0) rfl) (pa_cons (pv 4) (pa_cons (pv 5) pa_nil)))) (pa_cons (pe_call G__key_value (hr.mono (by omega)) (by rfl) T.g__key_value T.F__key_value.kp T.b__key_value .nil pass0 (pa_cons (pe_fldK (K := K) rfl (pv 1) rfl) (pa_cons (pv 4) (pa_cons (pv 5) pa_nil)))) pa_nil)))))
      (pss_cons (ps_set (i := 3) sc_Key___le__.nd rfl (Or.inr rfl) (pe_dc (own := [("first", 6), ("second", 7)]) (g := gTup K 2 (gCons (gName 6) (gCons (gName 7) gNil))) (tt := tYes) (by rfl) sc_Key___le__.nd (pi_listK (K := K) rfl (pv 2)) (blkOk_by (own := [("first", 6), ("second", 7)]) (N := ["self", "other", "values", "told", "item", "at", "first", "second"]) (sc := defScope s_Key___le__) (by decide +kernel)) (fun _ _ _ _ _ => (pg_tupK (K := K) rfl rfl (pgs_cons (pg_name (i := 6) sc_Key___le__.nd rfl (Or.inl rfl)) (pgs_cons (pg_name (i := 7) sc_Key___le__.nd rfl (Or.inl rfl)) pgs_nil)))) (fun _ _ _ _ _ => pts_nil) (fun _ _ _ _ _ => (pv 7)) (fun _ _ _ _ _ => (pv 6))))
      (pss_one (ps_ret (pe_callB (cr_allK (K := K) rfl rfl) (by rfl) T.m_all (by decide +kernel) (pa_cons (pe_lc (own := [("first", 6), ("second", 7)]) (g := gTup K 2 (gCons (gName 6) (gCons (gName 7) gNil))) (tt := tYes) (by rfl) sc_Key___le__.nd (pi_listK (K := K) rfl (pv 2)) (blkOk_by (own := [("first", 6), ("second", 7)]) (N := ["self", "other", "values", "told", "item", "at", "first", "second"]) (sc := defScope s_Key___le__) (by decide +kernel)) (fun _ _ _ _ _ => (pg_tupK (K := K) rfl rfl (pgs_cons (pg_name (i := 6) sc_Key___le__.nd rfl (Or.inl rfl)) (pgs_cons (pg_name (i := 7) sc_Key___le__.nd rfl (Or.inl rfl)) pgs_nil)))) (fun _ _ _ _ _ => pts_nil) (fun _ _ _ _ _ => (pe_cmpR op_eq (pe_dget (hu_of hr) (pv 3) (pv 7) (fun _ _ => rfl)) (pv 6) (nomark _)))) pa_nil))))))), ?_⟩
    obtain ⟨a1, dx1, u1, rfl, na1, ha1, hu1, hg1⟩ := hK1
    obtain ⟨a2, dx2, u2, rfl, na2, ha2, hu2, hg2⟩ := hK2
    walk_at "g"
    refine ⟨a2, dx2, _, rfl, ha2, ?_⟩
    walk_at "g"
    refine ⟨by decide, by decide, fun D hD => ?_⟩
    refine rng_loop (n := 10) (fun i H' => Same H H' ∧ ∃ acc, H' D = some (.lst acc) ∧ RpAll (also M D) H' acc (((prs f g).take (i * 5)).map prD)) ⟨same_new hD, [], upd_same, .nil⟩ (fun i H1 hi p => ?_) (fun H1 p => ?_)
    · refine ⟨rfl, ?_⟩
      walk_at "g"
      refine ⟨by decide, by decide, ?_⟩
      refine rng_loop (n := 5) (fun j H' => Same H H' ∧ ∃ acc, H' D = some (.lst acc) ∧ RpAll (also M D) H' acc (((prs f g).take (i * 5 + j)).map prD)) p (fun j H2 hj p2 => ?_) (fun H2 p2 => by rw [Nat.succ_mul]; exact p2)
      obtain ⟨s2, acc, eD, r⟩ := p2
      refine ⟨rfl, ?_⟩
      walk_at "g"
      have hu1' := hu1.sx (Sx.same s2)
      have hlen := r.length
      rw [List.length_map, List.length_take] at hlen
      refine ⟨a1, _, dx1, _, u1, rfl, s2 _ _ ha1, T.cl_Key, T.nA_Key__parts, rfl, ?_⟩
      walk_at "g"
      refine ⟨u1, f, M, _, _, rfl, hu1', hg1, fun H3 s3 => ?_⟩
      walk_at "g"
      refine ⟨a2, _, dx2, _, u2, rfl, s3 _ _ (s2 _ _ ha2), T.cl_Key, T.nA_Key__parts, rfl, ?_⟩
      walk_at "g"
      refine ⟨u2, g, M, _, _, rfl, hu2.sx (Sx.same (s2.trans s3)), hg2, fun H4 s4 => ?_⟩
      refine ⟨szK rfl, fun p hp => ?_⟩
      have sp : Same H4 (upd H4 p (.tup [.int (kval f (0 + (i : Int)) (0 + (j : Int))), .int (kval g (0 + (i : Int)) (0 + (j : Int)))])) := same_new hp
      have s5 := s3.trans (s4.trans sp)
      refine ⟨acc, s5 _ _ eD, small1000000 (by omega), same_put (s2.trans s5) hD, acc ++ [.ref p], upd_same, ?_⟩
      have hp' : ¬ (also M D) p := fun z => by
        rcases z with z | z
        · exact (hM.gr (Gr.same (s2.trans (s3.trans s4)))).out hp z
        · have z' : p = D := z
          subst z'
          rw [s4 _ _ (s3 _ _ eD)] at hp
          cases hp
      have he : List.take (i * 5 + (j + 1)) (prs f g) = List.take (i * 5 + j) (prs f g) ++ [(kval f (i : Int) (j : Int), kval g (i : Int) (j : Int))] := by
        rw [← Nat.add_assoc, List.take_add_one, prs_at f g hi hj]
        rfl
      rw [he, List.map_append]
      refine RpAll.append ((r.sx (Sx.same s5)).sx (Sx.put (.inr rfl))) (.one ?_)
      refine Rp.sx (Sx.put (.inr rfl)) (.tup hp' (.inl upd_same) ?_)
      rw [Int.zero_add, Int.zero_add]
      exact .cons (.int _) (.one (.int _))
    · obtain ⟨sD, acc, eD, r⟩ := p
      have e50 : List.take (10 * 5) (prs f g) = prs f g := List.take_of_length_le (Nat.le_of_eq (prs_len f g))
      rw [e50] at r
      have lacc := r.length
      rw [List.length_map, prs_len] at lacc
      walk_at "g"
      refine ⟨⟨acc, SqL.of eD⟩, fun D2 hD2 => ?_⟩
      have nD : ¬ M D := hM.out hD
      refine list_loop (xs := acc) (fun i H' => Same H1 H' ∧ H' D2 = some (.dK (toldK ((prs f g).take i))) ∧ (toldK ((prs f g).take i)).length ≤ i) ⟨same_new hD2, upd_same, Nat.le_refl _⟩ (fun i H' _ p => SqL.of (p.1 _ _ eD)) (fun i x H' hx p => ?_) (fun H' p => ?_)
      · obtain ⟨s2, e2, l2⟩ := p
        obtain ⟨d, hd, rd⟩ := (r.sx (Sx.same s2)).get hx
        rw [List.getElem?_map] at hd
        obtain ⟨pq, hpq, rfl⟩ := Option.map_eq_some_iff.mp hd
        obtain ⟨b, xs, rfl, nb, hb, rx⟩ := Rp.tupN rd
        obtain ⟨v1, v2, rfl, r1, r2⟩ := rx.inv2
        cases r1
        cases r2
        have hi : i < 50 := by
          have := (List.getElem?_eq_some_iff.mp hpq).1
          rw [prs_len] at this
          exact this
        refine ⟨b, _, rfl, .inl hb, rfl, _, _, rfl, _, _, rfl, rfl, ?_⟩
        refine ⟨rfl, ?_⟩
        walk_at "g"
        have hst : toldK ((prs f g).take (i + 1)) = putK (toldK ((prs f g).take i)) (.inl pq.2) (.int pq.1) := by
          rw [List.take_add_one, hpq]
          exact toldK_snoc _ _
        refine ⟨_, .inl pq.2, rfl, e2, small1000 (by omega), same_put s2 hD2, ?_, ?_⟩
        · rw [upd_same, hst]
        · rw [hst]
          have := putK_le (toldK ((prs f g).take i)) (.inl pq.2) (.int pq.1)
          omega
      · obtain ⟨s2, e2, l2⟩ := p
        rw [lacc, show List.take 50 (prs f g) = prs f g from List.take_of_length_le (Nat.le_of_eq (prs_len f g))] at e2
        walk_at "g"
        refine ⟨⟨acc, SqL.of (s2 _ _ eD)⟩, fun D3 hD3 => ?_⟩
        refine lc_vals (ys := (prs f g).map fun p => V.bl (toldB (prs f g) p)) hD3 (SqL.of (s2 _ _ eD)) (by rw [List.length_map, prs_len, lacc]) (by omega) (fun i x y H2 C N hx hy s3 hC => ?_) (fun H2 s3 e3 => ?_)
        · obtain ⟨d, hd, rd⟩ := (r.sx (Sx.same (s2.trans s3))).get hx
          rw [List.getElem?_map] at hd hy
          obtain ⟨pq, hpq, rfl⟩ := Option.map_eq_some_iff.mp hd
          rw [hpq] at hy
          have hy : V.bl (toldB (prs f g) pq) = y := Option.some.inj hy
          obtain ⟨b, xs, rfl, nb, hb, rx⟩ := Rp.tupN rd
          obtain ⟨v1, v2, rfl, r1, r2⟩ := rx.inv2
          cases r1
          cases r2
          refine ⟨b, _, rfl, .inl hb, rfl, _, _, rfl, _, _, rfl, rfl, ?_⟩
          refine ⟨rfl, ?_⟩
          walk_at "g"
          obtain ⟨v, ev, hv⟩ := told_get (List.mem_of_getElem? hpq)
          refine ⟨D2, .int v, rfl, .inl ⟨_, .inl pq.2, .inl (s3 _ _ e2), rfl, ev.symm⟩, _, rfl, rfl, ?_⟩
          rw [← toldB_at ev, hy]
          exact hC
        · walk_at "g"
          have e4 : H2 D3 = some (.lst (((prs f g).map (toldB (prs f g))).map V.bl)) := by
            rw [e3, List.map_map]
            rfl
          refine ⟨D3, _, rfl, SqL.of e4, ?_⟩
          rw [told_funOk]
          exact q _ (sD.trans (s2.trans s3))
end
end D

namespace D
open PySem PySem.Spec PyProof.Rows L2
local macro_rules | `(tactic| walk_at "st") => `(tactic| first | exact SqT.of (by assumption) | exact Or.inl (by assumption) | exact SqT.of upd_same | fail "st")
local macro_rules | `(tactic| walk_at "ixt") => `(tactic| refine ⟨_, _, _, _, rfl, rfl, (by walk_at "st" : SqT _ _ _ _), by rfl, ?_⟩)
local macro_rules | `(tactic| walk_at "sq") => `(tactic| first | exact SqL.of (by assumption) | assumption | exact Or.inl (by assumption) | exact SqL.of upd_same | fail "sq")
local macro_rules | `(tactic| walk_at "ix") => `(tactic| refine ⟨_, _, _, _, rfl, rfl, (by walk_at "sq" : SqL _ _ _ _), by rfl, ?_⟩)
local macro_rules | `(tactic| walk_at "set") => `(tactic| refine ⟨_, _, _, _, rfl, rfl, by first | assumption | exact upd_same, by rfl, ?_⟩)
local macro_rules | `(tactic| walk_at "len") => `(tactic| refine ⟨_, _, rfl, Or.inl (by walk_at "sq" : SqL _ _ _ _), ?_⟩)
local macro_rules | `(tactic| walk_at "g") => `(tactic| repeat (first | refine ⟨_, rfl, ?_⟩ | refine ⟨_, _, rfl, rfl, ?_⟩ | refine ⟨Or.inr (by decide), ?_⟩ | refine ⟨Or.inl (by decide), ?_⟩ | refine ⟨(by decide : (0 : Int) < _), ?_⟩ | refine ⟨(⟨by decide, by decide⟩ : CDiv _ _), ?_⟩ | refine ⟨(⟨by decide, by decide, by decide⟩ : CPow _ _), ?_⟩ | refine Or.inl ⟨_, rfl, ?_⟩ | refine ⟨rfl, ?_⟩ | walk_at "ix" | walk_at "ixt" | walk_at "len" | fail "g"))
local macro_rules | `(tactic| walk_at "if") => `(tactic| refine ite2 (fun e => ?_) (fun e => ?_))
section
variable {P : Program} {w : World} {K : PySem.W.Frag} {mg : Str → Option Value} {base : Heap}
def beneath (f g : Fm) : Bool := atMost f g && !atMost g f
def sp_ben (T : Txt K mg) : Sp := fun vs H Q _ => ∃ (k1 k2 : V) (f g : Fm) (M : Ms), vs = [k1, k2] ∧ KeyAt T.C_Key M H k1 f ∧ KeyAt T.C_Key M H k2 g ∧ Mk M H ∧ ∀ H', Same H H' → Q (.bl (beneath f g)) H'
theorem ok_ben (T : Txt K mg) : FnOk P w K mg base CX0 9 T.f__is_beneath T.d__is_beneath ["first", "second"] (sp_ben T) := by
  have G_Key___le__ := ok_le (P := P) (w := w) (base := base) T
  refine T.F__is_beneath.ok sc__is_beneath (fun vs H Q E h => ?_) (fun cdv A outer s H vs Q E hr h => ?_)
  · obtain ⟨_, _, _, _, _, rfl, _⟩ := h
    rfl
  · obtain ⟨k1, k2, f, g, M, rfl, h1, h2, hM, q⟩ := h
    obtain ⟨a1, dx1, u1, rfl, na1, ha1, hu1, hg1⟩ := id h1
    obtain ⟨a2, dx2, u2, rfl, na2, ha2, hu2, hg2⟩ := id h2
    refine ⟨_, (pss_one (ps_ret (pe_and (pe_cmpR (op_ownI (fun _ _ => rfl) T.a_Key___le__ T.i_Key___le__ T.nf_Key G_Key___le__ T.b_Key___le__ (hr.mono (by omega)) pass0) (pv 0) (pv 1) (nomark _)) (pe_one (pe_not (pe_cmpR (op_ownI (fun _ _ => rfl) T.a_Key___le__ T.i_Key___le__ T.nf_Key G_Key___le__ T.b_Key___le__ (hr.mono (by omega)) pass0) (pv 1) (pv 0) (nomark _))))))), ?_⟩
    walk_at "g"
    refine ⟨a1, dx1, _, a2, dx2, _, rfl, rfl, ha1, ha2, .ref a1, .ref a2, f, g, M, rfl, h1, h2, hM, fun H1 s1 => ?_⟩
    refine ⟨_, rfl, ?_⟩
    by_cases c : atMost f g = true
    · rw [c]
      walk_at "g"
      refine ⟨a2, dx2, _, a1, dx1, _, rfl, rfl, s1 _ _ ha2, s1 _ _ ha1, .ref a2, .ref a1, g, f, M, rfl, h2.sx (Sx.same s1), h1.sx (Sx.same s1), hM.gr (Gr.same s1), fun H2 s2 => ?_⟩
      have e : beneath f g = !atMost g f := by unfold beneath; rw [c]; rfl
      rw [e] at q
      refine ⟨_, rfl, ?_⟩
      exact q _ (s1.trans s2)
    · have c' : atMost f g = false := by simpa using c
      rw [c']
      have e : beneath f g = false := by unfold beneath; rw [c']; rfl
      rw [e] at q
      exact q _ s1
def keyIdx (nss : List (List Int)) (i : Nat) (f : Fm) : List Nat := if firstBad f nss = none then [i] else []
def goods (fs : List Fm) (nss : List (List Int)) : List Nat := (fs.mapIdx (keyIdx nss)).flatten
def KeysAt (C : Addr) (M : Ms) (H : Hp) (acc : List V) (fs : List Fm) : Prop := acc.length = fs.length ∧ ∀ (j : Nat) (f : Fm), fs[j]? = some f → ∃ k, acc[j]? = some k ∧ KeyAt C M H k f
theorem KeysAt.sx {C : Addr} {M : Ms} {H H' : Hp} {acc : List V} {fs : List Fm} (h : KeysAt C M H acc fs) (s : Sx M H H') : KeysAt C M H' acc fs := ⟨h.1, fun j f e => by
  obtain ⟨k, e1, r⟩ := h.2 j f e
  exact ⟨k, e1, r.sx s⟩⟩
def sp_coarse (T : Txt K mg) : Sp := fun vs H Q _ => ∃ (p : Addr) (v : V) (acc : List V) (fs : List Fm) (nss : List (List Int)) (M : Ms), vs = [.ref p, v] ∧ SqL K H p acc ∧ KeysAt T.C_Key M H acc fs ∧ fs.length ≤ 10 ∧ MenuAt M H v nss ∧ Mk M H ∧
  ∀ H' l, Same H H' → H l = none → H' l = some (.lst (((goods fs nss).filter fun p => !(goods fs nss).any fun o => beneath (fs.getD o (.is 0)) (fs.getD p (.is 0))).map fun (n : Nat) => V.int (n : Int))) → Q (.ref l) H'
theorem ok_coarse (T : Txt K mg) : FnOk P w K mg base CX0 11 T.f_coarsest T.d_coarsest ["keys", "menu"] (sp_coarse T) := by
  have G_check_rows := ok_check_rows (P := P) (w := w) (base := base) T
  have G_faithful := ok_faithful (P := P) (w := w) (base := base) T
  have G__is_beneath := ok_ben (P := P) (w := w) (base := base) T
  refine T.F_coarsest.ok sc_coarsest (fun vs H Q E h => ?_) (fun cdv A outer s H vs Q E hr h => ?_)
  · obtain ⟨_, _, _, _, _, _, rfl, _⟩ := h
    rfl
  · obtain ⟨p, v, acc, fs, nss, M, rfl, hS, hK, l10, hm, hM, q⟩ := h
    refine ⟨_, (pss_cons (ps_expr (pe_call G_check_rows (hr.mono (by omega)) (by rfl) T.g_check_rows T.F_check_rows.kp T.b_check_rows .nil pass0 (pa_cons (pv 1) pa_nil)))
      (pss_cons (ps_set (i := 2) sc_coarsest.nd rfl (Or.inr rfl) (pe_lc (own := [("place", 3), ("key", 4)]) (g := gTup K 2 (gCons (gName 3) (gCons (gName 4) gNil)))  (by rfl) sc_coarsest.nd (pi_enumK (K := K) rfl (by rfl) T.m_enumerate (pa_cons (pv 0) pa_nil)) (blkOk_by (own := [("place", 3), ("key", 4)]) (N := ["keys", "menu", "places", "place", "key", "other"]) (sc := defScope s_coarsest) (by decide +kernel)) (fun _ _ _ _ _ => (pg_tupK (K := K) rfl rfl (pgs_cons (pg_name (i := 3) sc_coarsest.nd rfl (Or.inl rfl)) (pgs_cons (pg_name (i := 4) sc_coarsest.nd rfl (Or.inl rfl)) pgs_nil)))) (fun _ _ _ _ _ => (pts_one (pt_cmpR op_isN (pe_call G_faithful (hr.mono (by omega)) (by rfl) T.g_faithful T.F_faithful.kp T.b_faithful .nil pass0 (pa_cons (pv 4) (pa_cons (pv 1) pa_nil))) pe_non (nomark _)))) (fun _ _ _ _ _ => (pv 3))))
      (pss_one (ps_ret (pe_lc (own := [("place", 3)]) (g := gName 3)  (by rfl) sc_coarsest.nd (pi_listK (K := K) rfl (pv 2)) (blkOk_by (own := [("place", 3)]) (N := ["keys", "menu", "places", "place", "key", "other"]) (sc := defScope s_coarsest) (by decide +kernel)) (fun _ _ _ _ _ => (pg_name (i := 3) sc_coarsest.nd rfl (Or.inr rfl))) (fun _ _ _ _ _ => (pts_one (pt_not (pt_val (pe_callB (cr_anyK (K := K) rfl rfl) (by rfl) T.m_any (by decide +kernel) (pa_cons (pe_lc (own := [("other", 5)]) (g := gName 5) (tt := tYes) (by rfl) sc_coarsest.nd (pi_listK (K := K) rfl (pv 2)) (blkOk_by (own := [("other", 5)]) (N := ["keys", "menu", "places", "place", "key", "other"]) (sc := { kind := .function, names := [(PySem.Str.ofString ".0", PySem.NameKind.local), (PySem.Str.ofString "place", PySem.NameKind.cell), (PySem.Str.ofString "any", PySem.NameKind.globalImplicit), (PySem.Str.ofString "keys", PySem.NameKind.cell), (PySem.Str.ofString "places", PySem.NameKind.cell)], isGenerator := false, isCoroutine := false }) (by decide +kernel)) (fun _ _ _ _ _ => (pg_name (i := 5) sc_coarsest.nd rfl (Or.inl rfl))) (fun _ _ _ _ _ => pts_nil) (fun _ _ _ _ _ => (pe_call G__is_beneath (hr.mono (by omega)) (by rfl) T.g__is_beneath T.F__is_beneath.kp T.b__is_beneath .nil pass0 (pa_cons (pe_ix (ix_listK (K := K) rfl) (pv 0) (pv 5) (fun _ _ => rfl)) (pa_cons (pe_ix (ix_listK (K := K) rfl) (pv 0) (pv 3) (fun _ _ => rfl)) pa_nil))))) pa_nil)))))) (fun _ _ _ _ _ => (pv 3))))))), ?_⟩
    obtain ⟨m, xs, em, nm, rm, lxs, l8, rows⟩ := id hm
    subst em
    have lK := hK.1
    walk_at "g"
    refine ⟨m, xs, M, rfl, .inl rm, fun x hx => ?_, fun H1 s1 => ?_⟩
    · obtain ⟨i, hi⟩ := List.mem_iff_getElem?.mp hx
      have hi' : i < nss.length := by rw [← lxs]; exact (List.getElem?_eq_some_iff.mp hi).1
      obtain ⟨w, hw, q, g⟩ := rows i _ (List.getElem?_eq_getElem hi')
      rw [hi] at hw
      cases hw
      exact ⟨_, q.row, g⟩
    have gstep : ∀ (i : Nat) (f : Fm), fs[i]? = some f → goods (fs.take (i + 1)) nss = goods (fs.take i) nss ++ keyIdx nss i f := fun i f h => by
      have hj : i < fs.length := (List.getElem?_eq_some_iff.mp h).1
      unfold goods
      rw [List.take_add_one, h]
      show (List.mapIdx _ (List.take i fs ++ [f])).flatten = _
      rw [List.mapIdx_append, List.flatten_append]
      congr 1
      rw [List.length_take, Nat.min_eq_left (Nat.le_of_lt hj)]
      show [keyIdx nss (0 + i) f].flatten = _
      rw [Nat.zero_add]
      simp
    have glen : ∀ i, i ≤ fs.length → (goods (fs.take i) nss).length ≤ i := fun i => by
      induction i with
      | zero => intro _; simp [goods]
      | succ i ih =>
        intro h
        rw [gstep i _ (List.getElem?_eq_getElem (by omega : i < fs.length)), List.length_append]
        have h1 := ih (by omega)
        have h2 : (keyIdx nss i (fs[i]'(by omega))).length ≤ 1 := by unfold keyIdx; split <;> simp
        omega
    have gmem : ∀ p ∈ goods fs nss, p < fs.length := fun p hp => by
      unfold goods at hp
      obtain ⟨l, hl, hp⟩ := List.mem_flatten.mp hp
      obtain ⟨i, hi, rfl⟩ := List.mem_mapIdx.mp hl
      unfold keyIdx at hp
      split at hp
      · rw [List.mem_singleton.mp hp]; exact hi
      · exact nomatch hp
    walk_at "g"
    refine ⟨p, acc, rfl, s1.seq hS, fun D hD => ?_⟩
    refine enumL_loop (xs := acc) (fun i H' => Same H1 H' ∧ H' D = some (.lst ((goods (fs.take i) nss).map fun (n : Nat) => V.int (n : Int)))) ⟨same_new hD, upd_same⟩ (fun i H' _ pp => (s1.trans pp.1).seq hS) (fun i x T' H' hx hT pp => ?_) (fun H2 pp => ?_)
    · obtain ⟨s2, eD⟩ := pp
      have hi : i < fs.length := by rw [← lK]; exact (List.getElem?_eq_some_iff.mp hx).1
      have ef : fs[i]? = some fs[i] := List.getElem?_eq_getElem hi
      obtain ⟨k, ek, rk⟩ := hK.2 i _ ef
      rw [hx] at ek
      cases ek
      have st : Same H' (upd H' T' (.tup [.int (i : Nat), x])) := same_new hT
      have s3 := (s1.trans s2).trans st
      refine ⟨T', _, rfl, SqT.of upd_same, rfl, _, _, rfl, _, _, rfl, rfl, ?_⟩
      refine ⟨rfl, ?_⟩
      walk_at "g"
      refine ⟨x, _, fs[i], nss, M, rfl, rk.sx (Sx.same s3), hm.sx (Sx.same s3), hM.gr (Gr.same s3), fun v4 H4 s4 r4 => ?_⟩
      have eD4 := s4 _ _ (st _ _ eD)
      have sA : Same H1 H4 := s2.trans (st.trans s4)
      have gl := glen i (by omega)
      refine ⟨rfl, _, rfl, ?_⟩
      rw [gstep i _ ef]
      unfold keyIdx
      cases hf : firstBad fs[i] nss with
      | none =>
        rw [hf] at r4
        cases (show v4 = .non from r4)
        rw [decide_eq_true rfl, if_pos rfl]
        walk_at "g"
        refine ⟨_, eD4, small1000 (by rw [List.length_map]; omega), same_put sA hD, ?_⟩
        rw [upd_same, List.map_append]
        rfl
      | some pr =>
        rw [hf] at r4
        obtain ⟨t, w1, w2, rfl, _⟩ := r4
        rw [decide_eq_false (fun z => nomatch z), if_neg (fun z => nomatch z), if_neg (fun z => nomatch z), List.append_nil]
        exact ⟨sA, eD4⟩
    obtain ⟨s2, eD⟩ := pp
    rw [lK, List.take_length] at eD
    have gle : (goods fs nss).length ≤ 10 := by
      have := glen fs.length (Nat.le_refl _)
      rw [List.take_length] at this
      omega
    generalize hgs : goods fs nss = gs at *
    have s12 := s1.trans s2
    have at_ : ∀ (j n : Nat), gs[j]? = some n → (gs.map fun (n : Nat) => V.int (n : Int))[j]? = some (.int (n : Int)) := fun j n h => by rw [List.getElem?_map, h]; rfl
    have keyAt : ∀ {H'}, Same H1 H' → ∀ n ∈ gs, ∃ k, acc[n]? = some k ∧ KeyAt T.C_Key M H' k (fs.getD n (.is 0)) := fun {H'} s n hn => by
      have hl := gmem n hn
      have ef : fs[n]? = some fs[n] := List.getElem?_eq_getElem hl
      obtain ⟨k, ek, rk⟩ := hK.2 n _ ef
      refine ⟨k, ek, ?_⟩
      rw [List.getD_eq_getElem?_getD, ef]
      exact rk.sx (Sx.same (s1.trans s))
    walk_at "g"
    refine ⟨⟨_, SqL.of eD⟩, fun D2 hD2 => ?_⟩
    let keep : Nat → Bool := fun p => !gs.any fun o => beneath (fs.getD o (.is 0)) (fs.getD p (.is 0))
    refine list_loop (xs := gs.map fun (n : Nat) => V.int (n : Int)) (fun i H' => Same H2 H' ∧ H' D2 = some (.lst (((gs.take i).filter keep).map fun (n : Nat) => V.int (n : Int)))) ⟨same_new hD2, upd_same⟩ (fun i H' _ pp => SqL.of (pp.1 _ _ eD)) (fun i x H' hx pp => ?_) (fun H3 pp => ?_)
    · obtain ⟨s3, e2⟩ := pp
      rw [List.getElem?_map] at hx
      obtain ⟨n, hn, rfl⟩ := Option.map_eq_some_iff.mp hx
      have hi : i < gs.length := (List.getElem?_eq_some_iff.mp hn).1
      refine ⟨rfl, ?_⟩
      walk_at "g"
      refine ⟨⟨_, SqL.of (s3 _ _ eD)⟩, fun D3 hD3 => ?_⟩
      obtain ⟨k2, ek2, rk2⟩ := keyAt (Same.refl H1) n (List.mem_of_getElem? hn)
      refine list_loop (xs := gs.map fun (n : Nat) => V.int (n : Int)) (fun j H4 => Same H' H4 ∧ H4 D3 = some (.lst (((gs.take j).map fun o => beneath (fs.getD o (.is 0)) (fs.getD n (.is 0))).map V.bl))) ⟨same_new hD3, upd_same⟩ (fun j H4 _ pp => SqL.of (pp.1 _ _ (s3 _ _ eD))) (fun j y H4 hy pp => ?_) (fun H4 pp => ?_)
      · obtain ⟨s4, e3⟩ := pp
        rw [List.getElem?_map] at hy
        obtain ⟨o, ho, rfl⟩ := Option.map_eq_some_iff.mp hy
        have hj : j < gs.length := (List.getElem?_eq_some_iff.mp ho).1
        have sB := s2.trans (s3.trans s4)
        obtain ⟨k1, ek1, rk1⟩ := keyAt (Same.refl H1) o (List.mem_of_getElem? ho)
        refine ⟨rfl, ?_⟩
        walk_at "g"
        refine ⟨_, _, _, _, rfl, rfl, (s1.trans sB).seq hS, atI_nat ek1, ?_⟩
        walk_at "g"
        refine ⟨_, _, _, _, rfl, rfl, (s1.trans sB).seq hS, atI_nat ek2, ?_⟩
        refine ⟨k1, k2, _, _, M, rfl, rk1.sx (Sx.same sB), rk2.sx (Sx.same sB), hM.gr (Gr.same (s1.trans sB)), fun H5 s5 => ?_⟩
        refine ⟨_, s5 _ _ e3, small1000 (by rw [List.length_map, List.length_map, List.length_take]; omega), same_put (s4.trans s5) hD3, ?_⟩
        rw [upd_same, List.take_add_one, ho, List.map_append, List.map_append]
        rfl
      · obtain ⟨s4, e3⟩ := pp
        rw [List.length_map, List.take_length] at e3
        walk_at "g"
        refine ⟨D3, _, rfl, SqL.of e3, ?_⟩
        have ek : ((gs.map fun o => beneath (fs.getD o (.is 0)) (fs.getD n (.is 0))).any id) = !keep n := by
          show _ = !(!_)
          rw [List.any_map, Bool.not_not]
          rfl
        refine ⟨_, rfl, ?_⟩
        rw [ek, List.take_add_one, hn, List.filter_append]
        have gl2 : ((gs.take i).filter keep).length ≤ 10 := Nat.le_trans (List.length_filter_le _ _) (by rw [List.length_take]; omega)
        by_cases ck : keep n = true
        · rw [ck]
          walk_at "g"
          refine ⟨_, s4 _ _ e2, small1000 (by rw [List.length_map]; omega), same_put (s3.trans s4) hD2, ?_⟩
          rw [upd_same, List.map_append]
          show some (HO.lst (_ ++ _)) = some (HO.lst (_ ++ List.map _ (List.filter keep [n])))
          rw [List.filter_cons, if_pos ck]
          rfl
        · have ck' : keep n = false := by simpa using ck
          rw [ck']
          refine ⟨s3.trans s4, ?_⟩
          rw [List.map_append]
          show H4 D2 = some (HO.lst (_ ++ List.map _ (List.filter keep [n])))
          rw [List.filter_cons, if_neg ck]
          show H4 D2 = some (HO.lst (_ ++ []))
          rw [List.append_nil]
          exact s4 _ _ e2
    · obtain ⟨s3, e2⟩ := pp
      rw [List.length_map, List.take_length] at e2
      walk_at "g"
      exact q _ D2 (s12.trans s3) (s12.free hD2) e2
end
end D


namespace D
open PySem PySem.Spec PyProof.Rows L2
local macro_rules | `(tactic| walk_at "st") => `(tactic| first | exact SqT.of (by assumption) | exact Or.inl (by assumption) | exact SqT.of upd_same | fail "st")
local macro_rules | `(tactic| walk_at "ixt") => `(tactic| refine ⟨_, _, _, _, rfl, rfl, (by walk_at "st" : SqT _ _ _ _), by rfl, ?_⟩)
local macro_rules | `(tactic| walk_at "sq") => `(tactic| first | exact SqL.of (by assumption) | assumption | exact Or.inl (by assumption) | exact SqL.of upd_same | fail "sq")
local macro_rules | `(tactic| walk_at "ix") => `(tactic| refine ⟨_, _, _, _, rfl, rfl, (by walk_at "sq" : SqL _ _ _ _), by rfl, ?_⟩)
local macro_rules | `(tactic| walk_at "set") => `(tactic| refine ⟨_, _, _, _, rfl, rfl, by first | assumption | exact upd_same, by rfl, ?_⟩)
local macro_rules | `(tactic| walk_at "len") => `(tactic| refine ⟨_, _, rfl, Or.inl (by walk_at "sq" : SqL _ _ _ _), ?_⟩)
local macro_rules | `(tactic| walk_at "g") => `(tactic| repeat (first | refine ⟨_, rfl, ?_⟩ | refine ⟨_, _, rfl, rfl, ?_⟩ | refine ⟨Or.inr (by decide), ?_⟩ | refine ⟨Or.inl (by decide), ?_⟩ | refine ⟨(by decide : (0 : Int) < _), ?_⟩ | refine ⟨(⟨by decide, by decide⟩ : CDiv _ _), ?_⟩ | refine ⟨(⟨by decide, by decide, by decide⟩ : CPow _ _), ?_⟩ | refine Or.inl ⟨_, rfl, ?_⟩ | refine ⟨rfl, ?_⟩ | walk_at "ix" | walk_at "ixt" | walk_at "len" | fail "g"))
local macro_rules | `(tactic| walk_at "if") => `(tactic| refine ite2 (fun e => ?_) (fun e => ?_))
section
variable {P : Program} {w : World} {K : PySem.W.Frag} {mg : Str → Option Value} {base : Heap}
def sp_check_rowsL : Sp := fun vs H Q _ => ∃ (a : Addr) (xs : List V) (M : Ms), vs = [.ref a] ∧ SqL K H a xs ∧ (∀ x ∈ xs, ∃ ns, RowAt M H x ns ∧ goodRow ns) ∧ ∀ H', Same H H' → Q .non H'
theorem ok_check_rowsL (T : Txt K mg) : FnOk P w K mg base CX0 4 T.f_check_rows T.d_check_rows ["rows"] (sp_check_rowsL (K := K)) := by
  have G_is_row := okis_row (P := P) (w := w) (base := base) T
  refine T.F_check_rows.ok sc_check_rows (fun vs H Q E h => ?_) (fun cdv A outer s H vs Q E hr h => ?_)
  · obtain ⟨_, _, _, rfl, _⟩ := h
    rfl
  · obtain ⟨a, xs, M, rfl, hS, hR, q⟩ := h
    refine ⟨_, (pss_one (ps_for PassesOwn.never rfl (pi_listK (K := K) rfl (pv 0)) (pg_name (i := 1) sc_check_rows.nd rfl (Or.inl rfl)) (pss_one (ps_if (pt_not (pt_val (pe_call G_is_row (hr.mono (by omega)) (by rfl) T.g_is_row T.F_is_row.kp T.b_is_row .nil pass0 (pa_cons (pv 1) pa_nil)))) (pss_one ps_never) pss_nil)))), ?_⟩
    walk_at "g"
    refine ⟨⟨_, hS⟩, ?_⟩
    refine for_list (K := K) (a := a) (xs := xs) (fun i σ H' => ∃ y, σ = [some (.ref a), y] ∧ Same H H') ⟨none, rfl, Same.refl H⟩ (fun i σ H' _ p => ?_) (fun i x σ H' hx p => ?_) (fun σ H' p => ?_)
    · obtain ⟨y, rfl, hs⟩ := p
      exact hs.seq hS
    · obtain ⟨y, rfl, hs⟩ := p
      obtain ⟨ns, rd, hg⟩ := hR x (List.mem_of_getElem? hx)
      walk_at "g"
      exact ⟨x, ns, M, rfl, rd.sx (Sx.same hs), hg, fun H2 s2 => ⟨_, rfl, _, rfl, hs.trans s2⟩⟩
    · obtain ⟨y, rfl, hs⟩ := p
      exact q _ hs
end
end D

namespace D
open PySem PySem.Spec PyProof.Rows L2
local macro_rules | `(tactic| walk_at "st") => `(tactic| first | exact SqT.of (by assumption) | exact Or.inl (by assumption) | exact SqT.of upd_same | fail "st")
local macro_rules | `(tactic| walk_at "ixt") => `(tactic| refine ⟨_, _, _, _, rfl, rfl, (by walk_at "st" : SqT _ _ _ _), by rfl, ?_⟩)
local macro_rules | `(tactic| walk_at "sq") => `(tactic| first | exact SqL.of (by assumption) | assumption | exact Or.inl (by assumption) | exact SqL.of upd_same | fail "sq")
local macro_rules | `(tactic| walk_at "ix") => `(tactic| refine ⟨_, _, _, _, rfl, rfl, (by walk_at "sq" : SqL _ _ _ _), by rfl, ?_⟩)
local macro_rules | `(tactic| walk_at "set") => `(tactic| refine ⟨_, _, _, _, rfl, rfl, by first | assumption | exact upd_same, by rfl, ?_⟩)
local macro_rules | `(tactic| walk_at "len") => `(tactic| refine ⟨_, _, rfl, Or.inl (by walk_at "sq" : SqL _ _ _ _), ?_⟩)
local macro_rules | `(tactic| walk_at "g") => `(tactic| repeat (first | refine ⟨_, rfl, ?_⟩ | refine ⟨_, _, rfl, rfl, ?_⟩ | refine ⟨Or.inr (by decide), ?_⟩ | refine ⟨Or.inl (by decide), ?_⟩ | refine ⟨(by decide : (0 : Int) < _), ?_⟩ | refine ⟨(⟨by decide, by decide⟩ : CDiv _ _), ?_⟩ | refine ⟨(⟨by decide, by decide, by decide⟩ : CPow _ _), ?_⟩ | refine Or.inl ⟨_, rfl, ?_⟩ | refine ⟨rfl, ?_⟩ | walk_at "ix" | walk_at "ixt" | walk_at "len" | fail "g"))
local macro_rules | `(tactic| walk_at "if") => `(tactic| refine ite2 (fun e => ?_) (fun e => ?_))
section
variable {P : Program} {w : World} {K : PySem.W.Frag} {mg : Str → Option Value} {base : Heap}
def sp_matched (T : Txt K mg) : Sp := fun vs H Q _ => ∃ (k v1 v2 : V) (f : Fm) (o n : List Int) (M : Ms), vs = [k, v1, v2] ∧ KeyAt T.C_Key M H k f ∧ RowAt M H v1 o ∧ RowAt M H v2 n ∧ goodRow o ∧ goodRow n ∧ Mk M H ∧ Pu M H (fun d => d = .tuple ((mts f o n).map pD)) Q
theorem ok_matched (T : Txt K mg) : FnOk P w K mg base CX0 10 T.f_matched T.d_matched ["key", "old", "new"] (sp_matched T) := by
  have G_check_rows := ok_check_rowsL (P := P) (w := w) (base := base) T
  have G__idents := ok_ids (P := P) (w := w) (base := base) T
  have G__matches := ok_matches (P := P) (w := w) (base := base) T
  refine T.F_matched.ok sc_matched (fun vs H Q E h => ?_) (fun cdv A outer s H vs Q E hr h => ?_)
  · obtain ⟨_, _, _, _, _, _, _, rfl, _⟩ := h
    rfl
  · obtain ⟨k, v1, v2, f, o, n, M, rfl, hK, h1, h2, go, gn, hM, q⟩ := h
    refine ⟨_, (pss_cons (ps_expr (pe_call G_check_rows (hr.mono (by omega)) (by rfl) T.g_check_rows T.F_check_rows.kp T.b_check_rows .nil pass0 (pa_cons (pe_lst (pa_cons (pv 1) (pa_cons (pv 2) pa_nil))) pa_nil)))
      (pss_one (ps_ret (pe_callTy (call_tupleK (K := K) rfl) (by rfl) T.m_tuple (by decide +kernel) (pa_cons (pe_call G__matches (hr.mono (by omega)) (by rfl) T.g__matches T.F__matches.kp T.b__matches .nil pass0 (pa_cons (pe_call G__idents (hr.mono (by omega)) (by rfl) T.g__idents T.F__idents.kp T.b__idents .nil pass0 (pa_cons (pv 0) (pa_cons (pv 1) pa_nil))) (pa_cons (pe_call G__idents (hr.mono (by omega)) (by rfl) T.g__idents T.F__idents.kp T.b__idents .nil pass0 (pa_cons (pv 0) (pa_cons (pv 2) pa_nil))) pa_nil))) pa_nil))))), ?_⟩
    walk_at "g"
    refine ⟨szK rfl, fun p hp => ?_⟩
    have n1 : Same H (upd H p (.lst [v1, v2])) := same_new hp
    refine ⟨p, [v1, v2], M, rfl, SqL.of upd_same, fun x hx => ?_, fun H1 s1 => ?_⟩
    · rcases List.mem_cons.mp hx with rfl | hx
      · exact ⟨o, h1.sx (Sx.same n1), go⟩
      · rw [List.mem_singleton.mp hx]; exact ⟨n, h2.sx (Sx.same n1), gn⟩
    walk_at "g"
    have s2 := n1.trans s1
    refine ⟨k, v1, f, o, M, rfl, hK.sx (Sx.same s2), h1.sx (Sx.same s2), go.1, hM.gr (Gr.same s2), fun w1 H2 d1 s3 r1 e1 => ?_⟩
    subst e1
    have s4 := s2.trans s3
    walk_at "g"
    refine ⟨k, v2, f, n, M, rfl, hK.sx (Sx.same s4), h2.sx (Sx.same s4), gn.1, hM.gr (Gr.same s4), fun w2 H3 d2 s5 r2 e2 => ?_⟩
    subst e2
    have s6 := s4.trans s5
    have go1 := go.1
    have gn1 := gn.1
    refine ⟨w1, w2, ids f o, ids f n, M, rfl, by unfold ids; rw [← idsOf_eq]; exact r1.sx (Sx.same s5), by unfold ids; rw [← idsOf_eq]; exact r2, idp_nodup _, by rw [ids_len]; omega, by rw [ids_len]; omega, hM.gr (Gr.same s6), fun w3 H4 d3 s7 r3 e3 => ?_⟩
    subst e3
    obtain ⟨c, zs, rfl, nc, hc, rz⟩ := Rp.lstN r3
    have s8 := s6.trans s7
    refine ⟨c, zs, rfl, .inl ⟨.inl hc, fun p2 hp2 => ?_⟩⟩
    exact q _ _ _ (s8.trans (same_new hp2)) (Rp.newT' ((hM.gr (Gr.same s8)).out hp2) (rz.sx (Sx.new hp2))) rfl
def sp_slippedT : Sp := fun vs H Q _ => ∃ (v1 v2 v3 : V) (ms : List IP) (o n : List Int) (M : Ms), vs = [v1, v2, v3] ∧ Rp M H v1 (.tuple (ms.map pD)) ∧ RowAt M H v2 o ∧ RowAt M H v3 n ∧ inB o n ms ∧ ms.length ≤ 1000 ∧ Mk M H ∧ Pu M H (fun d => d = .list ((slp o n ms).map pD)) Q
theorem ok_slippedT (T : Txt K mg) : FnOk P w K mg base CX0 3 T.f__slipped T.d__slipped ["matches", "old", "new"] sp_slippedT := by
  refine T.F__slipped.ok sc__slipped (fun vs H Q E h => ?_) (fun cdv A outer s H vs Q E hr h => ?_)
  · obtain ⟨_, _, _, _, _, _, _, rfl, _⟩ := h
    rfl
  · obtain ⟨v1, v2, v3, ms, o, n, M, rfl, h1, h2, h3, hin, lm, hM, q⟩ := h
    obtain ⟨a, xs, rfl, na, ha, rx⟩ := Rp.tupX h1
    obtain ⟨b, rfl, nb, hb⟩ := h2
    obtain ⟨c, rfl, nc, hc⟩ := h3
    have lx := rx.length
    rw [List.length_map] at lx
    refine ⟨_, (pss_one (ps_ret (pe_lc (own := [("place", 3), ("at", 4)]) (g := gTup K 2 (gCons (gName 3) (gCons (gName 4) gNil)))  (by rfl) sc__slipped.nd (pi_tupK (K := K) rfl (pv 0)) (blkOk_by (own := [("place", 3), ("at", 4)]) (N := ["matches", "old", "new", "place", "at"]) (sc := defScope s__slipped) (by decide +kernel)) (fun _ _ _ _ _ => (pg_tupK (K := K) rfl rfl (pgs_cons (pg_name (i := 3) sc__slipped.nd rfl (Or.inl rfl)) (pgs_cons (pg_name (i := 4) sc__slipped.nd rfl (Or.inl rfl)) pgs_nil)))) (fun _ _ _ _ _ => (pts_one (pt_cmpR op_ne (pe_ix (ix_tupK (K := K) rfl) (pv 1) (pv 3) (fun _ _ => rfl)) (pe_ix (ix_tupK (K := K) rfl) (pv 2) (pv 4) (fun _ _ => rfl)) (nomark _)))) (fun _ _ _ _ _ => (pe_tup (pa_cons (pe_ix (ix_tupK (K := K) rfl) (pv 1) (pv 3) (fun _ _ => rfl)) (pa_cons (pe_ix (ix_tupK (K := K) rfl) (pv 2) (pv 4) (fun _ _ => rfl)) pa_nil))))))), ?_⟩
    walk_at "g"
    refine ⟨⟨_, .inl (.inl ha)⟩, fun D hD => ?_⟩
    refine tup_loop (xs := xs) (fun i H' => Acc M H D H' ((slp o n (ms.take i)).map pD)) (by
        have := Acc.new (M := M) hD
        exact this) (fun i H' _ p => .inl (.inl (p.same _ _ ha))) (fun i x H' hx p => ?_) (fun H2 p => ?_)
    · obtain ⟨id, t, hid, rfl, ht⟩ := rx.pairX hx
      obtain ⟨i1, j1, hi1, hj1, rfl⟩ := hin id (List.mem_of_getElem? hid)
      have hi : i < ms.length := (List.getElem?_eq_some_iff.mp hid).1
      have s1 := p.same
      refine ⟨t, _, rfl, .inl (.inl (s1 _ _ ht)), rfl, _, _, rfl, _, _, rfl, rfl, ?_⟩
      refine ⟨rfl, ?_⟩
      walk_at "g"
      have e1 : o[i1]? = some o[i1] := List.getElem?_eq_getElem hi1
      have e2 : n[j1]? = some n[j1] := List.getElem?_eq_getElem hj1
      have a1 : atI (o.map V.int) (i1 : Int) = some (.int o[i1]) := atI_nat (by rw [List.getElem?_map, e1]; rfl)
      have a2 : atI (n.map V.int) (j1 : Int) = some (.int n[j1]) := atI_nat (by rw [List.getElem?_map, e2]; rfl)
      have t1 : SqT K H' b (o.map V.int) := .inl (sx_rd (Sx.same s1) nb hb)
      have t2 : SqT K H' c (n.map V.int) := .inl (sx_rd (Sx.same s1) nc hc)
      have hst : sst o n ((i1 : Int), (j1 : Int)) = if o[i1] = n[j1] then [] else [(o[i1], n[j1])] := by
        unfold sst
        rw [atI0_nat e1, atI0_nat e2]
      refine ⟨_, _, _, _, rfl, rfl, t1, a1, ?_⟩
      walk_at "g"
      refine ⟨_, _, _, _, rfl, rfl, t2, a2, ?_⟩
      walk_at "g"
      rw [slp_step o n hid, hst]
      by_cases ce : o[i1] = n[j1]
      · rw [decide_eq_true (show V.int o[i1] = V.int n[j1] by rw [ce]), if_pos ce, List.append_nil]
        walk_at "g"
        exact p
      · rw [decide_eq_false (show ¬ V.int o[i1] = V.int n[j1] from fun z => ce (V.int.inj z)), if_neg ce, List.map_append]
        walk_at "g"
        refine ⟨_, _, _, _, rfl, rfl, t1, a1, ?_⟩
        walk_at "g"
        refine ⟨_, _, _, _, rfl, rfl, t2, a2, ?_⟩
        refine ⟨szK rfl, fun p3 hp3 => ?_⟩
        have p4 := p.keep (same_new (o := .tup [.int o[i1], .int n[j1]]) hp3)
        have ls := slp_len o n (ms.take i)
        rw [List.length_take] at ls
        exact p4.put (v := .ref p3) (y := pD (o[i1], n[j1])) (Rp.newT' ((p.mk hM).out hp3) (.cons (.int _) (.one (.int _)))) (by rw [List.length_map]; omega)
    · rw [lx, List.take_length] at p
      walk_at "g"
      exact q _ _ _ p.same (p.rp hM) rfl
def sp_slips (T : Txt K mg) : Sp := fun vs H Q _ => ∃ (k v1 v2 : V) (f : Fm) (o n : List Int) (M : Ms), vs = [k, v1, v2] ∧ KeyAt T.C_Key M H k f ∧ RowAt M H v1 o ∧ RowAt M H v2 n ∧ goodRow o ∧ goodRow n ∧ Mk M H ∧ Pu M H (fun d => d = .tuple ((slp o n (mts f o n)).map pD)) Q
theorem ok_slips (T : Txt K mg) : FnOk P w K mg base CX0 11 T.f_slips T.d_slips ["key", "old", "new"] (sp_slips T) := by
  have G_matched := ok_matched (P := P) (w := w) (base := base) T
  have G__slipped := ok_slippedT (P := P) (w := w) (base := base) T
  refine T.F_slips.ok sc_slips (fun vs H Q E h => ?_) (fun cdv A outer s H vs Q E hr h => ?_)
  · obtain ⟨_, _, _, _, _, _, _, rfl, _⟩ := h
    rfl
  · obtain ⟨k, v1, v2, f, o, n, M, rfl, hK, h1, h2, go, gn, hM, q⟩ := h
    refine ⟨_, (pss_one (ps_ret (pe_callTy (call_tupleK (K := K) rfl) (by rfl) T.m_tuple (by decide +kernel) (pa_cons (pe_call G__slipped (hr.mono (by omega)) (by rfl) T.g__slipped T.F__slipped.kp T.b__slipped .nil pass0 (pa_cons (pe_call G_matched (hr.mono (by omega)) (by rfl) T.g_matched T.F_matched.kp T.b_matched .nil pass0 (pa_cons (pv 0) (pa_cons (pv 1) (pa_cons (pv 2) pa_nil)))) (pa_cons (pv 1) (pa_cons (pv 2) pa_nil)))) pa_nil)))), ?_⟩
    walk_at "g"
    refine ⟨k, v1, v2, f, o, n, M, rfl, hK, h1, h2, go, gn, hM, fun w1 H1 d1 s1 r1 e1 => ?_⟩
    subst e1
    have gn1 := gn.1
    have lm : (mts f o n).length ≤ 1000 := by
      have := mt_len (ids f o) (ids f n)
      rw [ids_len] at this
      unfold mts
      omega
    walk_at "g"
    refine ⟨w1, v1, v2, mts f o n, o, n, M, rfl, r1, h1.sx (Sx.same s1), h2.sx (Sx.same s1), mts_in f o n, lm, hM.gr (Gr.same s1), fun w3 H4 d3 s7 r3 e3 => ?_⟩
    subst e3
    obtain ⟨c, zs, rfl, nc, hc, rz⟩ := Rp.lstN r3
    have s8 := s1.trans s7
    refine ⟨c, zs, rfl, .inl ⟨.inl hc, fun p2 hp2 => ?_⟩⟩
    exact q _ _ _ (s8.trans (same_new hp2)) (Rp.newT' ((hM.gr (Gr.same s8)).out hp2) (rz.sx (Sx.new hp2))) rfl
def sp_lostT : Sp := fun vs H Q _ => ∃ (v1 v2 v3 : V) (ms : List IP) (o n : List Int) (M : Ms), vs = [v1, v2, v3] ∧ Rp M H v1 (.tuple (ms.map pD)) ∧ RowF M H v2 o ∧ RowAt M H v3 n ∧ n.length ≤ 1000 ∧ Mk M H ∧ Pu M H (fun d => d = .list ((lsts o n ms).map PyData.int)) Q
theorem ok_lostT (T : Txt K mg) : FnOk P w K mg base CX0 3 T.f__lost T.d__lost ["matches", "old", "new"] sp_lostT := by
  refine T.F__lost.ok sc__lost (fun vs H Q E h => ?_) (fun cdv A outer s H vs Q E hr h => ?_)
  · obtain ⟨_, _, _, _, _, _, _, rfl, _⟩ := h
    rfl
  · obtain ⟨v1, v2, v3, ms, o, n, M, rfl, h1, h2, h3, ln, hM, q⟩ := h
    obtain ⟨b, ob, rfl, nb, hb, ob1, ob2⟩ := h2
    obtain ⟨c, rfl, nc, hc⟩ := h3
    refine ⟨_, (pss_one (ps_ret (pe_lc (own := [("at", 3), ("item", 4)]) (g := gTup K 2 (gCons (gName 3) (gCons (gName 4) gNil)))  (by rfl) sc__lost.nd (pi_enumTK (K := K) rfl (by rfl) T.m_enumerate (pa_cons (pv 2) pa_nil)) (blkOk_by (own := [("at", 3), ("item", 4)]) (N := ["matches", "old", "new", "at", "item"]) (sc := defScope s__lost) (by decide +kernel)) (fun _ _ _ _ _ => (pg_tupK (K := K) rfl rfl (pgs_cons (pg_name (i := 3) sc__lost.nd rfl (Or.inl rfl)) (pgs_cons (pg_name (i := 4) sc__lost.nd rfl (Or.inl rfl)) pgs_nil)))) (fun _ _ _ _ _ => (pts_one (PW.pt (pw_and (pt_cmpR (op_in_seqK (K := K) rfl) (pv 4) (pv 1) (by rfl)) (pw_and1 (pt_cmpR (op_notInDT (K := K) rfl (hu65 hr)) (pe_tup (pa_cons (pe_mG ty_tup PySem.F.plainAttrs_tuple PySem.F.slot_tuple_index PySem.F.type_tuple_index (mt_tup_indexI (K := K) rfl) (pv 1) (pa_cons (pv 4) pa_nil)) (pa_cons (pv 3) pa_nil))) (pv 0) (by rfl))))))) (fun _ _ _ _ _ => (pv 4))))), ?_⟩
    walk_at "g"
    refine ⟨c, _, rfl, .inl hc, fun D hD => ?_⟩
    refine enumT_loop (xs := n.map V.int) (fun i H' => Acc M H D H' ((lsts o (n.take i) ms).map PyData.int)) (by
        have := Acc.new (M := M) hD
        exact this) (fun i H' _ p => .inl (sx_rd (Sx.same p.same) nc hc)) (fun i x T' H' hx hT p => ?_) (fun H2 p => ?_)
    · rw [List.getElem?_map] at hx
      obtain ⟨x, hxn, rfl⟩ := Option.map_eq_some_iff.mp hx
      have hi : i < n.length := (List.getElem?_eq_some_iff.mp hxn).1
      have s2 : Same H' (upd H' T' (.tup [.int (i : Nat), .int x])) := same_new hT
      have p2 := p.keep s2
      have s3 := p2.same
      have tb := s3 _ _ hb
      have rm := h1.sx (Sx.same s3)
      have ll := lsts_len o (n.take i) ms
      rw [List.length_take] at ll
      refine ⟨T', _, rfl, SqT.of upd_same, rfl, _, _, rfl, _, _, rfl, rfl, ?_⟩
      generalize upd H' T' (.tup [.int (i : Nat), .int x]) = H1 at p2 s3 tb rm
      refine ⟨rfl, ?_⟩
      walk_at "g"
      refine ⟨b, _, rfl, .inr (.inl (.inr ⟨ob, tb⟩)), rfl, flat_ints o, ?_⟩
      rw [in_ints, lsts_step o ms hxn]
      refine ⟨_, rfl, ?_⟩
      by_cases hm : x ∈ o
      · rw [decide_eq_true hm]
        walk_at "g"
        have hix := List.idxOf_lt_length_of_mem hm
        refine ⟨⟨b, ob, _, rfl, tb, ob1, ob2⟩, ?_⟩
        refine ⟨_, rfl, b, o, x, o.idxOf x, rfl, rfl, .inl (.inr ⟨ob, tb⟩), by rw [List.getElem?_eq_getElem hix, List.getElem_idxOf hix], fun m hm1 hm2 => ?_, ?_⟩
        · have h1 := (List.getElem?_eq_some_iff.mp hm2)
          have h2 := List.not_of_lt_findIdx hm1
          rw [h1.2] at h2
          simp at h2
        walk_at "g"
        refine ⟨szK rfl, fun p3 hp3 => ?_⟩
        have p4 := p2.keep (same_new (o := .tup [.int (o.idxOf x : Nat), .int (i : Nat)]) hp3)
        have n3 : Same H1 (upd H1 p3 (.tup [.int (o.idxOf x : Nat), .int (i : Nat)])) := same_new hp3
        have r3 : Rp M (upd H1 p3 (.tup [.int (o.idxOf x : Nat), .int (i : Nat)])) (.ref p3) (pD (((o.idxOf x : Nat) : Int), (i : Int))) := Rp.newT' ((hM.gr (Gr.same s3)).out hp3) (.cons (.int _) (.one (.int _)))
        refine ⟨v1, rfl, _, _, Rp.dp _ _ r3, Rp.dp _ _ (rm.sx (Sx.same n3)), pD_shaped _, pDs_shapedT _, ?_⟩
        rw [pD_any]
        refine ⟨_, rfl, ?_⟩
        by_cases hn : (((o.idxOf x : Nat) : Int), (i : Int)) ∈ ms
        · rw [decide_eq_true hn]
          have e0 : lst1 o ms x i = [] := if_neg fun z => z.2 hn
          rw [e0, List.append_nil]
          exact p4
        · rw [decide_eq_false hn]
          have e0 : lst1 o ms x i = [x] := if_pos ⟨hm, hn⟩
          rw [e0, List.map_append]
          walk_at "g"
          exact p4.put (v := .int x) (y := .int x) (.int x) (by rw [List.length_map]; omega)
      · rw [decide_eq_false hm]
        have e0 : lst1 o ms x i = [] := if_neg fun z => hm z.1
        rw [e0, List.append_nil]
        exact p2
    · rw [List.length_map, List.take_length] at p
      walk_at "g"
      exact q _ _ _ p.same (p.rp hM) rfl
def sp_losses (T : Txt K mg) : Sp := fun vs H Q _ => ∃ (k v1 v2 : V) (f : Fm) (o n : List Int) (M : Ms), vs = [k, v1, v2] ∧ KeyAt T.C_Key M H k f ∧ RowF M H v1 o ∧ RowAt M H v2 n ∧ goodRow o ∧ goodRow n ∧ Mk M H ∧ Pu M H (fun d => d = .tuple ((lsts o n (mts f o n)).map PyData.int)) Q
theorem ok_losses (T : Txt K mg) : FnOk P w K mg base CX0 11 T.f_losses T.d_losses ["key", "old", "new"] (sp_losses T) := by
  have G_matched := ok_matched (P := P) (w := w) (base := base) T
  have G__lost := ok_lostT (P := P) (w := w) (base := base) T
  refine T.F_losses.ok sc_losses (fun vs H Q E h => ?_) (fun cdv A outer s H vs Q E hr h => ?_)
  · obtain ⟨_, _, _, _, _, _, _, rfl, _⟩ := h
    rfl
  · obtain ⟨k, v1, v2, f, o, n, M, rfl, hK, h1, h2, go, gn, hM, q⟩ := h
    refine ⟨_, (pss_one (ps_ret (pe_callTy (call_tupleK (K := K) rfl) (by rfl) T.m_tuple (by decide +kernel) (pa_cons (pe_call G__lost (hr.mono (by omega)) (by rfl) T.g__lost T.F__lost.kp T.b__lost .nil pass0 (pa_cons (pe_call G_matched (hr.mono (by omega)) (by rfl) T.g_matched T.F_matched.kp T.b_matched .nil pass0 (pa_cons (pv 0) (pa_cons (pv 1) (pa_cons (pv 2) pa_nil)))) (pa_cons (pv 1) (pa_cons (pv 2) pa_nil)))) pa_nil)))), ?_⟩
    walk_at "g"
    refine ⟨k, v1, v2, f, o, n, M, rfl, hK, h1.row, h2, go, gn, hM, fun w1 H1 d1 s1 r1 e1 => ?_⟩
    subst e1
    have gn1 := gn.1
    walk_at "g"
    refine ⟨w1, v1, v2, mts f o n, o, n, M, rfl, r1, h1.sx (Sx.same s1), h2.sx (Sx.same s1), by omega, hM.gr (Gr.same s1), fun w3 H4 d3 s7 r3 e3 => ?_⟩
    subst e3
    obtain ⟨c, zs, rfl, nc, hc, rz⟩ := Rp.lstN r3
    have s8 := s1.trans s7
    refine ⟨c, zs, rfl, .inl ⟨.inl hc, fun p2 hp2 => ?_⟩⟩
    exact q _ _ _ (s8.trans (same_new hp2)) (Rp.newT' ((hM.gr (Gr.same s8)).out hp2) (rz.sx (Sx.new hp2))) rfl
def sp_idents (T : Txt K mg) : Sp := fun vs H Q _ => ∃ (k v : V) (f : Fm) (ns : List Int) (M : Ms), vs = [k, v] ∧ KeyAt T.C_Key M H k f ∧ RowAt M H v ns ∧ goodRow ns ∧ Mk M H ∧ Pu M H (fun d => d = identD f ns) Q
theorem ok_idents (T : Txt K mg) : FnOk P w K mg base CX0 10 T.f_Key_idents T.d_Key_idents ["self", "row"] (sp_idents T) := by
  have G_check_rows := ok_check_rowsL (P := P) (w := w) (base := base) T
  have G__idents := ok_ids (P := P) (w := w) (base := base) T
  refine T.F_Key_idents.ok sc_Key_idents (fun vs H Q E h => ?_) (fun cdv A outer s H vs Q E hr h => ?_)
  · obtain ⟨_, _, _, _, _, rfl, _⟩ := h
    rfl
  · obtain ⟨k, v, f, ns, M, rfl, hK, hR, hg, hM, q⟩ := h
    refine ⟨_, (pss_cons (ps_expr (pe_call G_check_rows (hr.mono (by omega)) (by rfl) T.g_check_rows T.F_check_rows.kp T.b_check_rows .nil pass0 (pa_cons (pe_lst (pa_cons (pv 1) pa_nil)) pa_nil)))
      (pss_one (ps_ret (pe_call G__idents (hr.mono (by omega)) (by rfl) T.g__idents T.F__idents.kp T.b__idents .nil pass0 (pa_cons (pv 0) (pa_cons (pv 1) pa_nil)))))), ?_⟩
    walk_at "g"
    refine ⟨szK rfl, fun p hp => ?_⟩
    have n1 : Same H (upd H p (.lst [v])) := same_new hp
    refine ⟨p, [v], M, rfl, SqL.of upd_same, fun x hx => ⟨ns, by rw [List.mem_singleton.mp hx]; exact hR.sx (Sx.same n1), hg⟩, fun H1 s1 => ?_⟩
    walk_at "g"
    have s2 := n1.trans s1
    exact ⟨k, v, f, ns, M, rfl, hK.sx (Sx.same s2), hR.sx (Sx.same s2), hg.1, hM.gr (Gr.same s2), fun w' H2 d s3 r3 hd => q w' H2 d (s2.trans s3) r3 hd⟩
end
end D

namespace D
open PySem PySem.Spec PyProof.Rows L2
local macro_rules | `(tactic| walk_at "st") => `(tactic| first | exact SqT.of (by assumption) | exact Or.inl (by assumption) | exact SqT.of upd_same | fail "st")
local macro_rules | `(tactic| walk_at "ixt") => `(tactic| refine ⟨_, _, _, _, rfl, rfl, (by walk_at "st" : SqT _ _ _ _), by rfl, ?_⟩)
local macro_rules | `(tactic| walk_at "sq") => `(tactic| first | exact SqL.of (by assumption) | assumption | exact Or.inl (by assumption) | exact SqL.of upd_same | fail "sq")
local macro_rules | `(tactic| walk_at "ix") => `(tactic| refine ⟨_, _, _, _, rfl, rfl, (by walk_at "sq" : SqL _ _ _ _), by rfl, ?_⟩)
local macro_rules | `(tactic| walk_at "set") => `(tactic| refine ⟨_, _, _, _, rfl, rfl, by first | assumption | exact upd_same, by rfl, ?_⟩)
local macro_rules | `(tactic| walk_at "len") => `(tactic| refine ⟨_, _, rfl, Or.inl (by walk_at "sq" : SqL _ _ _ _), ?_⟩)
local macro_rules | `(tactic| walk_at "g") => `(tactic| repeat (first | refine ⟨_, rfl, ?_⟩ | refine ⟨_, _, rfl, rfl, ?_⟩ | refine ⟨Or.inr (by decide), ?_⟩ | refine ⟨Or.inl (by decide), ?_⟩ | refine ⟨(by decide : (0 : Int) < _), ?_⟩ | refine ⟨(⟨by decide, by decide⟩ : CDiv _ _), ?_⟩ | refine ⟨(⟨by decide, by decide, by decide⟩ : CPow _ _), ?_⟩ | refine Or.inl ⟨_, rfl, ?_⟩ | refine ⟨rfl, ?_⟩ | walk_at "ix" | walk_at "ixt" | walk_at "len" | fail "g"))
local macro_rules | `(tactic| walk_at "if") => `(tactic| refine ite2 (fun e => ?_) (fun e => ?_))
section
variable {P : Program} {w : World} {K : PySem.W.Frag} {mg : Str → Option Value} {base : Heap}
def nmB (x : Str) : Bool := decide (1 ≤ x.length) && (decide (x.length ≤ 8) && x.cps.toList.all fun c => decide (97 ≤ c) && decide (c ≤ 122))
theorem nmB_iff {x : Str} : nmB x = true ↔ isNm x := by
  unfold nmB isNm
  simp only [Bool.and_eq_true, decide_eq_true_eq, List.all_eq_true]
def pWhole : PyData → Bool
  | .int _ => true
  | _ => false
def pVal : PyData → Bool
  | .int i => decide (0 ≤ i) && decide (i ≤ 9)
  | _ => false
def pNm : PyData → Bool
  | .str x => nmB x
  | _ => false
theorem sign_loB (c : Nat) : decide (({ cps := #[c] } : Str).cps.toList < (Str.ofString "a").cps.toList) = decide (c < 97) := by
  rw [show (Str.ofString "a").cps.toList = [97] by decide +kernel, decide_eq_decide]
  show [c] < [97] ↔ _
  rw [List.cons_lt_cons_iff]
  constructor
  · rintro (h1 | ⟨_, h1⟩)
    · exact h1
    · exact absurd h1 (by decide)
  · exact fun h => .inl h
theorem sign_hiB (c : Nat) : decide ((Str.ofString "z").cps.toList < ({ cps := #[c] } : Str).cps.toList) = decide (122 < c) := by
  rw [show (Str.ofString "z").cps.toList = [122] by decide +kernel, decide_eq_decide]
  show [122] < [c] ↔ _
  rw [List.cons_lt_cons_iff]
  constructor
  · rintro (h1 | ⟨_, h1⟩)
    · exact h1
    · exact absurd h1 (by decide)
  · exact fun h => .inl h

def kindN : PyData → String
  | .none => "NoneType"
  | .bool _ => "bool"
  | .int _ => "int"
  | .str _ => "str"
  | .list _ => "list"
  | _ => "tuple"
def isTupD : PyData → Bool
  | .tuple _ => true
  | _ => false
def isStrD : PyData → Bool
  | .str _ => true
  | _ => false
theorem Rp.tyX {M : Ms} {H : Hp} {v : V} {d : PyData} (h : Rp M H v d) : TyX K H v (.type (kindN d)) := by
  cases h with
  | non => exact .base .non
  | bl b => exact .base (.bl b)
  | int i => exact .base (.int i)
  | str x => exact .base (.str x)
  | lst na ha r =>
    rcases ha with h | ⟨o, h⟩
    · exact .base (.lst h)
    · exact .base (.frz h)
  | tup na ha r => exact rd_ty ha.rd
theorem Rp.isTup {M : Ms} {H : Hp} {v : V} {d : PyData} (h : Rp M H v d) : kitB (kindN d) "tuple" = some (isTupD d) := by
  cases h <;> (simp only [kindN, isTupD]; decide +kernel)
theorem Rp.isStr {M : Ms} {H : Hp} {v : V} {d : PyData} (h : Rp M H v d) : kitB (kindN d) "str" = some (isStrD d) := by
  cases h <;> (simp only [kindN, isStrD]; decide +kernel)
theorem Rp.isInt {M : Ms} {H : Hp} {v : V} {d : PyData} (h : Rp M H v d) : kitB (kindN d) "int" = some (match d with | .int _ => true | .bool _ => true | _ => false) := by
  cases h <;> (simp only [kindN]; decide +kernel)
theorem Rp.isBool {M : Ms} {H : Hp} {v : V} {d : PyData} (h : Rp M H v d) : kitB (kindN d) "bool" = some (match d with | .bool _ => true | _ => false) := by
  cases h <;> (simp only [kindN]; decide +kernel)
def sp_dwhole : Sp := fun vs H Q _ => ∃ (v : V) (d : PyData) (M : Ms), vs = [v] ∧ Rp M H v d ∧ Q (.bl (pWhole d)) H
theorem okd_whole (T : Txt K mg) : FnOk P w K mg base CX0 1 T.f_is_whole T.d_is_whole ["thing"] sp_dwhole := by
  refine T.F_is_whole.ok sc_is_whole (fun vs H Q E h => ?_) (fun cdv A outer s H vs Q E hr h => ?_)
  · obtain ⟨_, _, _, rfl, _⟩ := h
    rfl
  · obtain ⟨v, d, M, rfl, hR, q⟩ := h
    refine ⟨_, (pss_one (ps_ret (pe_and (pe_callB (call_isi1K (K := K) rfl) (by rfl) T.m_isinstance (by decide +kernel) (pa_cons (pv 0) (pa_cons (pe_bltn (v := .ty "int") (u := .type "int") (by rfl) T.m_int (by decide +kernel) rfl) pa_nil))) (pe_one (pe_not (pe_callB (call_isi1K (K := K) rfl) (by rfl) T.m_isinstance (by decide +kernel) (pa_cons (pv 0) (pa_cons (pe_bltn (v := .ty "bool") (u := .type "bool") (by rfl) T.m_bool (by decide +kernel) rfl) pa_nil)))))))), ?_⟩
    walk_at "g"
    refine ⟨_, _, _, _, _, rfl, .ty _, hR.tyX, kit_ty hR.isInt, ?_⟩
    have ty := hR.tyX (K := K)
    have ib := hR.isBool
    cases hR with
    | bl b =>
      walk_at "g"
      refine ⟨_, _, _, _, _, rfl, .ty _, ty, kit_ty ib, ?_⟩
      walk_at "g"
      exact q
    | int i =>
      walk_at "g"
      refine ⟨_, _, _, _, _, rfl, .ty _, ty, kit_ty ib, ?_⟩
      walk_at "g"
      exact q
    | _ =>
      walk_at "g"
      exact q
def sp_dval : Sp := fun vs H Q _ => ∃ (v : V) (d : PyData) (M : Ms), vs = [v] ∧ Rp M H v d ∧ Q (.bl (pVal d)) H
theorem okd_value (T : Txt K mg) : FnOk P w K mg base CX0 2 T.f_is_value T.d_is_value ["thing"] sp_dval := by
  have G_is_whole := okd_whole (P := P) (w := w) (base := base) T
  refine T.F_is_value.ok sc_is_value (fun vs H Q E h => ?_) (fun cdv A outer s H vs Q E hr h => ?_)
  · obtain ⟨_, _, _, rfl, _⟩ := h
    rfl
  · obtain ⟨v, d, M, rfl, hR, q⟩ := h
    refine ⟨_, (pss_one (ps_ret (pe_and (pe_call G_is_whole (hr.mono (by omega)) (by rfl) T.g_is_whole T.F_is_whole.kp T.b_is_whole .nil pass0 (pa_cons (pv 0) pa_nil)) (pe_one (pe_chain op_le op_le pe_int (pv 0) pe_int))))), ?_⟩
    walk_at "g"
    refine ⟨v, d, M, rfl, hR, ?_⟩
    cases hR with
    | int i =>
      walk_at "g"
      by_cases h0 : 0 ≤ i
      · rw [decide_eq_true h0]
        walk_at "g"
        have q' : Q (.bl (decide (i ≤ 9))) H := by
          have : pVal (.int i) = decide (i ≤ 9) := by
            show (decide (0 ≤ i) && decide (i ≤ 9)) = _
            rw [decide_eq_true h0, Bool.true_and]
          rw [← this]
          exact q
        exact q'
      · rw [decide_eq_false h0]
        walk_at "g"
        have : pVal (.int i) = false := by
          show (decide (0 ≤ i) && decide (i ≤ 9)) = _
          rw [decide_eq_false h0, Bool.false_and]
        rw [this] at q
        exact q
    | _ =>
      walk_at "g"
      exact q
def sp_dname : Sp := fun vs H Q _ => ∃ (v : V) (d : PyData) (M : Ms), vs = [v] ∧ Rp M H v d ∧ (∀ x, d = .str x → x.length ≤ 1000) ∧ ∀ H', Same H H' → Q (.bl (pNm d)) H'
theorem okd_name (T : Txt K mg) : FnOk P w K mg base CX0 1 T.f_is_name T.d_is_name ["thing"] sp_dname := by
  refine T.F_is_name.ok sc_is_name (fun vs H Q E h => ?_) (fun cdv A outer s H vs Q E hr h => ?_)
  · obtain ⟨_, _, _, rfl, _⟩ := h
    rfl
  · obtain ⟨v, d, M, rfl, hR, hl, q⟩ := h
    refine ⟨_, (pss_cons (ps_if (PW.pt (pw_or (pt_not (pt_val (pe_callB (call_isi1K (K := K) rfl) (by rfl) T.m_isinstance (by decide +kernel) (pa_cons (pv 0) (pa_cons (pe_bltn (v := .ty "str") (u := .type "str") (by rfl) T.m_str (by decide +kernel) rfl) pa_nil))))) (pw_or1 (pt_not (pt_chain op_le op_le pe_int (pe_callB call_len_str (by rfl) T.m_len PySem.boot_len (pa_cons (pv 0) pa_nil)) (pe_glob (v := .int 8) rfl T.c_MOST_LETTERS ⟨_, rfl⟩)))))) (pss_one (ps_ret pe_bl)) pss_nil)
      (pss_one (ps_ret (pe_callB (cr_allK (K := K) rfl rfl) (by rfl) T.m_all (by decide +kernel) (pa_cons (pe_lc (own := [("sign", 1)]) (g := gName 1) (tt := tYes) (by rfl) sc_is_name.nd (pi_str (pv 0)) (blkOk_by (own := [("sign", 1)]) (N := ["thing", "sign"]) (sc := defScope s_is_name) (by decide +kernel)) (fun _ _ _ _ _ => (pg_name (i := 1) sc_is_name.nd rfl (Or.inl rfl))) (fun _ _ _ _ _ => pts_nil) (fun _ _ _ _ _ => (pe_chain op_le_str op_le_str pe_str (pv 1) pe_str))) pa_nil))))), ?_⟩
    walk_at "g"
    refine ⟨_, _, _, _, _, rfl, .ty _, hR.tyX, kit_ty hR.isStr, ?_⟩
    cases hR with
    | str x =>
      have h1000 := hl x rfl
      walk_at "g"
      refine ⟨Nat.le_of_lt (small1000 h1000), ?_⟩
      walk_at "g"
      have qf : nmB x = false → ∀ H', Same H H' → Q (.bl false) H' := fun e H' s => by
        have := q H' s
        rw [show pNm (.str x) = nmB x from rfl, e] at this
        exact this
      by_cases g1 : (1 : Int) ≤ (x.length : Int)
      · rw [decide_eq_true g1]
        walk_at "g"
        by_cases g2 : (x.length : Int) ≤ 8
        · rw [decide_eq_true g2]
          walk_at "g"
          intro D hD
          have hsz : x.cps.size = x.length := rfl
          refine lc_valsS (z := x) (ys := x.cps.toList.map fun c => V.bl (decide (97 ≤ c) && decide (c ≤ 122))) hD (by rw [List.length_map, Array.length_toList]) (by omega) (fun i c y H' C N hc hy hs hC => ?_) (fun H' hs hD' => ?_)
          · rw [List.getElem?_map, Array.getElem?_toList, hc] at hy
            cases hy
            have hC : C (.bl (decide (97 ≤ c) && decide (c ≤ 122))) H' := hC
            walk_at "g"
            rw [sign_loB]
            by_cases k1 : c < 97
            · rw [decide_eq_true k1]
              rw [decide_eq_false (show ¬ 97 ≤ c by omega), Bool.false_and] at hC
              exact hC
            · rw [decide_eq_false k1]
              rw [decide_eq_true (show 97 ≤ c by omega), Bool.true_and] at hC
              refine ⟨_, _, rfl, rfl, ?_⟩
              rw [sign_hiB]
              rw [show (!decide (122 < c)) = decide (c ≤ 122) by rw [← decide_not]; exact decide_eq_decide.mpr Nat.not_lt]
              exact hC
          · refine ⟨D, x.cps.toList.map fun c => (decide (97 ≤ c) && decide (c ≤ 122)), rfl, ?_, ?_⟩
            · rw [List.map_map]
              exact SqL.of hD'
            · have e : pNm (.str x) = (x.cps.toList.map fun c => (decide (97 ≤ c) && decide (c ≤ 122))).all id := by
                rw [List.all_map]
                show nmB x = _
                unfold nmB
                rw [decide_eq_true (show 1 ≤ x.length by omega), decide_eq_true (show x.length ≤ 8 by omega), Bool.true_and, Bool.true_and]
                rfl
              rw [← e]
              exact q _ hs
        · rw [decide_eq_false g2]
          walk_at "g"
          exact qf (by unfold nmB; rw [decide_eq_false (show ¬ x.length ≤ 8 by omega), Bool.false_and, Bool.and_false]) _ (Same.refl _)
      · rw [decide_eq_false g1]
        walk_at "g"
        exact qf (by unfold nmB; rw [decide_eq_false (show ¬ 1 ≤ x.length by omega), Bool.false_and]) _ (Same.refl _)
    | _ =>
      walk_at "g"
      exact q _ (Same.refl _)
end
end D

namespace D
open PySem PySem.Spec PyProof.Rows L2
local macro_rules | `(tactic| walk_at "st") => `(tactic| first | exact SqT.of (by assumption) | exact Or.inl (by assumption) | exact SqT.of upd_same | fail "st")
local macro_rules | `(tactic| walk_at "ixt") => `(tactic| refine ⟨_, _, _, _, rfl, rfl, (by walk_at "st" : SqT _ _ _ _), by rfl, ?_⟩)
local macro_rules | `(tactic| walk_at "sq") => `(tactic| first | exact SqL.of (by assumption) | assumption | exact Or.inl (by assumption) | exact SqL.of upd_same | fail "sq")
local macro_rules | `(tactic| walk_at "ix") => `(tactic| refine ⟨_, _, _, _, rfl, rfl, (by walk_at "sq" : SqL _ _ _ _), by rfl, ?_⟩)
local macro_rules | `(tactic| walk_at "set") => `(tactic| refine ⟨_, _, _, _, rfl, rfl, by first | assumption | exact upd_same, by rfl, ?_⟩)
local macro_rules | `(tactic| walk_at "len") => `(tactic| refine ⟨_, _, rfl, Or.inl (by walk_at "sq" : SqL _ _ _ _), ?_⟩)
local macro_rules | `(tactic| walk_at "g") => `(tactic| repeat (first | refine ⟨_, rfl, ?_⟩ | refine ⟨_, _, rfl, rfl, ?_⟩ | refine ⟨Or.inr (by decide), ?_⟩ | refine ⟨Or.inl (by decide), ?_⟩ | refine ⟨(by decide : (0 : Int) < _), ?_⟩ | refine ⟨(⟨by decide, by decide⟩ : CDiv _ _), ?_⟩ | refine ⟨(⟨by decide, by decide, by decide⟩ : CPow _ _), ?_⟩ | refine Or.inl ⟨_, rfl, ?_⟩ | refine ⟨rfl, ?_⟩ | walk_at "ix" | walk_at "ixt" | walk_at "len" | fail "g"))
local macro_rules | `(tactic| walk_at "if") => `(tactic| refine ite2 (fun e => ?_) (fun e => ?_))
section
variable {P : Program} {w : World} {K : PySem.W.Frag} {mg : Str → Option Value} {base : Heap}
def sAdd : Str := "add"
def wordOk (w : Str) : Prop := w = sIs ∨ w = sGet ∨ w = sSum ∨ w = sSame ∨ w = sPick ∨ w = sAdd
def pMany (w : Str) : Option Nat := if w = sSum then some 2 else if w = sSame then some 2 else if w = sPick then some 3 else none
def one1 (f : PyData → Bool) : List PyData → Bool
  | [x] => f x
  | _ => false
def pTop (w : Str) (r : List PyData) : Bool := if w = sIs then one1 pVal r else if w = sGet then one1 pNm r else ((pMany w).elim false fun n => decide (r.length = n))
def pWell : PyData → Bool
  | .tuple (.str w :: r) => pTop w r
  | _ => false
def pInn : PyData → List PyData
  | .tuple (.str w :: r) => if (pMany w).isSome then r else []
  | _ => []
/-- parts that may be asked about -/
def partC (d : PyData) : Prop := ∀ w r, d = .tuple (.str w :: r) → wordOk w ∧ r.length ≤ 1000 ∧ ∀ x, r = [.str x] → x.length ≤ 1000
structure TManyA (K : PySem.W.Frag) (mg : Str → Option Value) (w : World) extends TMany K mg w where
  add : PySem.W.nsIn K p sAdd = some none
theorem well_is (r : List PyData) : pWell (.tuple (.str sIs :: r)) = one1 pVal r := by
  show pTop sIs r = _
  unfold pTop
  rw [if_pos rfl]
theorem well_get (r : List PyData) : pWell (.tuple (.str sGet :: r)) = one1 pNm r := by
  show pTop sGet r = _
  unfold pTop
  rw [if_neg (by decide), if_pos rfl]
theorem well_many {w : Str} {n : Nat} (h1 : w ≠ sIs) (h2 : w ≠ sGet) (h : pMany w = some n) (r : List PyData) : pWell (.tuple (.str w :: r)) = decide (r.length = n) := by
  show pTop w r = _
  unfold pTop
  rw [if_neg h1, if_neg h2, h]
  rfl
theorem well_add (r : List PyData) : pWell (.tuple (.str sAdd :: r)) = false := by
  show pTop sAdd r = _
  unfold pTop
  rw [if_neg (by decide), if_neg (by decide), show pMany sAdd = none by decide]
  rfl
theorem len_int (n : Nat) (k : Int) : decide (V.int (n : Nat) = V.int k) = decide ((n : Int) = k) := by
  rw [decide_eq_decide]
  exact ⟨fun h => V.int.inj h, fun h => by rw [h]⟩
def sp_dwell (U : TManyA K mg w) : Sp := fun vs H Q _ => ∃ (v : V) (d : PyData) (M : Ms), vs = [v] ∧ Rp M H v d ∧ partC d ∧ ∀ H', Same H H' → Q (.bl (pWell d)) H'
theorem okd_well (T : Txt K mg) (U : TManyA K mg w) : FnOk P w K mg base CX0 3 T.f__well_made T.d__well_made ["part"] (sp_dwell U) := by
  have G_is_value := okd_value (P := P) (w := w) (base := base) T
  have G_is_name := okd_name (P := P) (w := w) (base := base) T
  refine T.F__well_made.ok sc__well_made (fun vs H Q E h => ?_) (fun cdv A outer s H vs Q E hr h => ?_)
  · obtain ⟨_, _, _, rfl, _⟩ := h
    rfl
  · obtain ⟨v, d, M, rfl, hR, hp, q⟩ := h
    refine ⟨_, (pss_cons (ps_if (PW.pt (pw_or (pt_not (pt_val (pe_callB (call_isi1K (K := K) rfl) (by rfl) T.m_isinstance (by decide +kernel) (pa_cons (pv 0) (pa_cons (pe_bltn (v := .ty "tuple") (u := .type "tuple") (by rfl) T.m_tuple (by decide +kernel) rfl) pa_nil))))) (pw_or (pt_not (pt_truthK (K := K) rfl (pv 0) (by intro _; rfl))) (pw_or1 (pt_not (pt_val (pe_callB (call_isi1K (K := K) rfl) (by rfl) T.m_isinstance (by decide +kernel) (pa_cons (pe_ix (ix_tupK (K := K) rfl) (pv 0) pe_int (fun _ _ => rfl)) (pa_cons (pe_bltn (v := .ty "str") (u := .type "str") (by rfl) T.m_str (by decide +kernel) rfl) pa_nil))))))))) (pss_one (ps_ret pe_bl)) pss_nil)
      (pss_cons (ps_if (pt_cmpR op_eq (pe_ix (ix_tupK (K := K) rfl) (pv 0) pe_int (fun _ _ => rfl)) pe_str (nomark _)) (pss_one (ps_ret (pe_and (pe_cmpR op_eq (pe_callB (call_lenK (K := K) rfl) (by rfl) T.m_len PySem.boot_len (pa_cons (pv 0) pa_nil)) pe_int (nomark _)) (pe_one (pe_call G_is_value (hr.mono (by omega)) (by rfl) T.g_is_value T.F_is_value.kp T.b_is_value .nil pass0 (pa_cons (pe_ix (ix_tupK (K := K) rfl) (pv 0) pe_int (fun _ _ => rfl)) pa_nil)))))) pss_nil)
      (pss_cons (ps_if (pt_cmpR op_eq (pe_ix (ix_tupK (K := K) rfl) (pv 0) pe_int (fun _ _ => rfl)) pe_str (nomark _)) (pss_one (ps_ret (pe_and (pe_cmpR op_eq (pe_callB (call_lenK (K := K) rfl) (by rfl) T.m_len PySem.boot_len (pa_cons (pv 0) pa_nil)) pe_int (nomark _)) (pe_one (pe_call G_is_name (hr.mono (by omega)) (by rfl) T.g_is_name T.F_is_name.kp T.b_is_name .nil pass0 (pa_cons (pe_ix (ix_tupK (K := K) rfl) (pv 0) pe_int (fun _ _ => rfl)) pa_nil)))))) pss_nil)
      (pss_one (ps_ret (pe_and (pe_cmpR (op_in_kd U.kd) (pe_ix (ix_tupK (K := K) rfl) (pv 0) pe_int (fun _ _ => rfl)) (pe_glob (v := .ref U.p) rfl U.g rfl) (by rfl)) (pe_one (pe_cmpR op_eq (pe_callB (call_lenK (K := K) rfl) (by rfl) T.m_len PySem.boot_len (pa_cons (pv 0) pa_nil)) (pe_op op_add (pe_ix ix_kdict (pe_glob (v := .ref U.p) rfl U.g rfl) (pe_ix (ix_tupK (K := K) rfl) (pv 0) pe_int (fun _ _ => rfl)) (fun _ _ => rfl)) pe_int) (nomark _))))))))), ?_⟩
    walk_at "g"
    refine ⟨_, _, _, _, _, rfl, .ty _, hR.tyX, kit_ty hR.isTup, ?_⟩
    cases hR with
    | @tup a xs ds na ha rx =>
      have ha := ha.at
      walk_at "g"
      refine ⟨!xs.isEmpty, .inr (.inl ⟨_, SqT.of ha, rfl⟩), ?_⟩
      cases rx with
      | nil =>
        walk_at "g"
        exact q _ (Same.refl _)
      | @cons x xr d1 dr r1 rr =>
        have lr := rr.length
        walk_at "g"
        refine ⟨_, _, _, _, rfl, rfl, SqT.of ha, atI_nat (j := 0) rfl, ?_⟩
        walk_at "g"
        refine ⟨_, _, _, _, _, rfl, .ty _, r1.tyX, kit_ty r1.isStr, ?_⟩
        cases r1 with
        | str w =>
          obtain ⟨hw, l1000, hx⟩ := hp w dr rfl
          walk_at "g"
          refine ⟨_, _, _, _, rfl, rfl, SqT.of ha, atI_nat (j := 0) rfl, ?_⟩
          rcases hw with rfl | rfl | rfl | rfl | rfl | rfl
          · -- is
            walk_at "g"
            refine ⟨_, _, rfl, .inr (SqT.of ha), ?_⟩
            rw [well_is] at q
            cases rr with
            | nil =>
              walk_at "g"
              exact q _ (Same.refl _)
            | @cons y yr d2 dr2 r2 rr2 =>
              cases rr2 with
              | nil =>
                walk_at "g"
                exact ⟨y, d2, M, rfl, r2, q _ (Same.refl _)⟩
              | @cons z zr d3 dr3 r3 rr3 =>
                walk_at "g"
                rw [show decide (V.int ((V.str sIs :: y :: z :: zr).length : Nat) = V.int 2) = false by
                  rw [len_int, decide_eq_false_iff_not]
                  simp only [List.length_cons]
                  omega]
                walk_at "g"
                exact q _ (Same.refl _)
          · -- get
            walk_at "g"
            refine ⟨_, _, _, _, rfl, rfl, SqT.of ha, atI_nat (j := 0) rfl, ?_⟩
            walk_at "g"
            refine ⟨_, _, rfl, .inr (SqT.of ha), ?_⟩
            rw [well_get] at q
            cases rr with
            | nil =>
              walk_at "g"
              exact q _ (Same.refl _)
            | @cons y yr d2 dr2 r2 rr2 =>
              cases rr2 with
              | nil =>
                walk_at "g"
                exact ⟨y, d2, M, rfl, r2, fun x e => hx x (by rw [e]), q⟩
              | @cons z zr d3 dr3 r3 rr3 =>
                walk_at "g"
                rw [show decide (V.int ((V.str sGet :: y :: z :: zr).length : Nat) = V.int 2) = false by
                  rw [len_int, decide_eq_false_iff_not]
                  simp only [List.length_cons]
                  omega]
                walk_at "g"
                exact q _ (Same.refl _)
          · -- Sum
            have qq : ∀ H', Same H H' → Q (.bl (decide (dr.length = 2))) H' := fun H' s => by
              have := q H' s
              rw [well_many (by decide) (by decide) (show pMany sSum = some 2 by decide)] at this
              exact this
            obtain ⟨t, ht⟩ := U.sum
            walk_at "g"
            refine ⟨_, _, _, _, rfl, rfl, SqT.of ha, atI_nat (j := 0) rfl, ?_⟩
            walk_at "g"
            refine ⟨_, _, _, _, rfl, rfl, SqT.of ha, atI_nat (j := 0) rfl, ?_⟩
            walk_at "g"
            refine ⟨_, _, rfl, rfl, ht, ?_⟩
            walk_at "g"
            refine ⟨_, _, rfl, .inr (SqT.of ha), ?_⟩
            walk_at "g"
            refine ⟨_, _, _, _, rfl, rfl, SqT.of ha, atI_nat (j := 0) rfl, ?_⟩
            walk_at "g"
            refine ⟨_, _, .int 2, rfl, rfl, ⟨_, _, _, U.kd.at_, U.kd.lit, ht, ⟨_, rfl⟩⟩, ?_⟩
            walk_at "g"
            have e : decide (V.int ((V.str sSum :: xr).length : Nat) = V.int (2 + 1)) = decide (dr.length = 2) := by
              rw [len_int, decide_eq_decide, List.length_cons]
              omega
            have q2 := qq _ (Same.refl H)
            rw [← e] at q2
            exact q2
          · -- Same
            have qq : ∀ H', Same H H' → Q (.bl (decide (dr.length = 2))) H' := fun H' s => by
              have := q H' s
              rw [well_many (by decide) (by decide) (show pMany sSame = some 2 by decide)] at this
              exact this
            obtain ⟨t, ht⟩ := U.same
            walk_at "g"
            refine ⟨_, _, _, _, rfl, rfl, SqT.of ha, atI_nat (j := 0) rfl, ?_⟩
            walk_at "g"
            refine ⟨_, _, _, _, rfl, rfl, SqT.of ha, atI_nat (j := 0) rfl, ?_⟩
            walk_at "g"
            refine ⟨_, _, rfl, rfl, ht, ?_⟩
            walk_at "g"
            refine ⟨_, _, rfl, .inr (SqT.of ha), ?_⟩
            walk_at "g"
            refine ⟨_, _, _, _, rfl, rfl, SqT.of ha, atI_nat (j := 0) rfl, ?_⟩
            walk_at "g"
            refine ⟨_, _, .int 2, rfl, rfl, ⟨_, _, _, U.kd.at_, U.kd.lit, ht, ⟨_, rfl⟩⟩, ?_⟩
            walk_at "g"
            have e : decide (V.int ((V.str sSame :: xr).length : Nat) = V.int (2 + 1)) = decide (dr.length = 2) := by
              rw [len_int, decide_eq_decide, List.length_cons]
              omega
            have q2 := qq _ (Same.refl H)
            rw [← e] at q2
            exact q2
          · -- Pick
            have qq : ∀ H', Same H H' → Q (.bl (decide (dr.length = 3))) H' := fun H' s => by
              have := q H' s
              rw [well_many (by decide) (by decide) (show pMany sPick = some 3 by decide)] at this
              exact this
            obtain ⟨t, ht⟩ := U.pick
            walk_at "g"
            refine ⟨_, _, _, _, rfl, rfl, SqT.of ha, atI_nat (j := 0) rfl, ?_⟩
            walk_at "g"
            refine ⟨_, _, _, _, rfl, rfl, SqT.of ha, atI_nat (j := 0) rfl, ?_⟩
            walk_at "g"
            refine ⟨_, _, rfl, rfl, ht, ?_⟩
            walk_at "g"
            refine ⟨_, _, rfl, .inr (SqT.of ha), ?_⟩
            walk_at "g"
            refine ⟨_, _, _, _, rfl, rfl, SqT.of ha, atI_nat (j := 0) rfl, ?_⟩
            walk_at "g"
            refine ⟨_, _, .int 3, rfl, rfl, ⟨_, _, _, U.kd.at_, U.kd.lit, ht, ⟨_, rfl⟩⟩, ?_⟩
            walk_at "g"
            have e : decide (V.int ((V.str sPick :: xr).length : Nat) = V.int (3 + 1)) = decide (dr.length = 3) := by
              rw [len_int, decide_eq_decide, List.length_cons]
              omega
            have q2 := qq _ (Same.refl H)
            rw [← e] at q2
            exact q2
          · -- add
            rw [well_add] at q
            walk_at "g"
            refine ⟨_, _, _, _, rfl, rfl, SqT.of ha, atI_nat (j := 0) rfl, ?_⟩
            walk_at "g"
            refine ⟨_, _, _, _, rfl, rfl, SqT.of ha, atI_nat (j := 0) rfl, ?_⟩
            walk_at "g"
            refine ⟨_, _, rfl, rfl, U.add, ?_⟩
            walk_at "g"
            exact q _ (Same.refl _)
        | _ =>
          walk_at "g"
          exact q _ (Same.refl _)
    | _ =>
      walk_at "g"
      exact q _ (Same.refl _)
end
end D

namespace D
open PySem PySem.Spec PyProof.Rows L2
local macro_rules | `(tactic| walk_at "st") => `(tactic| first | exact SqT.of (by assumption) | exact Or.inl (by assumption) | exact SqT.of upd_same | fail "st")
local macro_rules | `(tactic| walk_at "ixt") => `(tactic| refine ⟨_, _, _, _, rfl, rfl, (by walk_at "st" : SqT _ _ _ _), by rfl, ?_⟩)
local macro_rules | `(tactic| walk_at "sq") => `(tactic| first | exact SqL.of (by assumption) | assumption | exact Or.inl (by assumption) | exact SqL.of upd_same | fail "sq")
local macro_rules | `(tactic| walk_at "ix") => `(tactic| refine ⟨_, _, _, _, rfl, rfl, (by walk_at "sq" : SqL _ _ _ _), by rfl, ?_⟩)
local macro_rules | `(tactic| walk_at "set") => `(tactic| refine ⟨_, _, _, _, rfl, rfl, by first | assumption | exact upd_same, by rfl, ?_⟩)
local macro_rules | `(tactic| walk_at "len") => `(tactic| refine ⟨_, _, rfl, Or.inl (by walk_at "sq" : SqL _ _ _ _), ?_⟩)
local macro_rules | `(tactic| walk_at "g") => `(tactic| repeat (first | refine ⟨_, rfl, ?_⟩ | refine ⟨_, _, rfl, rfl, ?_⟩ | refine ⟨Or.inr (by decide), ?_⟩ | refine ⟨Or.inl (by decide), ?_⟩ | refine ⟨(by decide : (0 : Int) < _), ?_⟩ | refine ⟨(⟨by decide, by decide⟩ : CDiv _ _), ?_⟩ | refine ⟨(⟨by decide, by decide, by decide⟩ : CPow _ _), ?_⟩ | refine Or.inl ⟨_, rfl, ?_⟩ | refine ⟨rfl, ?_⟩ | walk_at "ix" | walk_at "ixt" | walk_at "len" | fail "g"))
local macro_rules | `(tactic| walk_at "if") => `(tactic| refine ite2 (fun e => ?_) (fun e => ?_))
section
variable {P : Program} {w : World} {K : PySem.W.Frag} {mg : Str → Option Value} {base : Heap}
def sPart : Str := Str.ofString "part"
theorem ok_badform (T : Txt K mg) : FnOk P w K mg base CX0 1 T.f_BadForm___init__ T.d_BadForm___init__ ["self", "part"] (sp_err1 K T.C_BadForm sPart) := by
  refine T.F_BadForm___init__.ok sc_BadForm___init__ (fun vs H Q E h => ?_) (fun cdv A outer s H vs Q E hr h => ?_)
  · obtain ⟨_, _, rfl, _⟩ := h
    rfl
  · obtain ⟨a, y, rfl, ox, no, ha, q⟩ := h
    refine ⟨_, (pss_one (ps_ost (pv 0) (pv 1))), ?_⟩
    walk_at "g"
    exact ⟨a, _, rfl, ox, no, .inl ⟨ha, fun dx h n => q dx h n⟩⟩
/-! ### the first bad part, the levels -/
def fbF : Nat → PyData → Option PyData
  | 0, _ => none
  | n + 1, d => if pWell d = true then (pInn d).findSome? (fbF n) else some d
def mxN : List Nat → Nat
  | [] => 0
  | x :: r => max x (mxN r)
def depF : Nat → PyData → Nat
  | 0, _ => 0
  | n + 1, d => if pWell d = true then mxN ((pInn d).map (depF n)) + 1 else 1
def szF : Nat → PyData → Nat
  | 0, _ => 1
  | n + 1, d => if pWell d = true then ((pInn d).map (szF n)).sum + 1 else 1
def okF : Nat → PyData → Prop
  | 0, _ => False
  | n + 1, d => partC d ∧ (pWell d = true → (pInn d).length ≤ 3 ∧ ∀ c ∈ pInn d, okF n c)
theorem szF_pos : ∀ (n : Nat) (d : PyData), 1 ≤ szF n d
  | 0, _ => Nat.le_refl _
  | n + 1, d => by
    unfold szF
    split <;> omega
theorem sum_le3 {l : List Nat} {k : Nat} (h : ∀ x ∈ l, x ≤ k) : l.sum ≤ l.length * k := by
  induction l with
  | nil => simp
  | cons x r ih =>
    have := h x List.mem_cons_self
    have := ih fun y hy => h y (List.mem_cons_of_mem _ hy)
    rw [List.sum_cons, List.length_cons, Nat.succ_mul]
    omega
theorem szF_le : ∀ (n : Nat) (d : PyData), okF n d → szF n d ≤ 4 ^ n
  | 0, _, h => h.elim
  | n + 1, d, h => by
    have p4 : 1 ≤ 4 ^ n := Nat.pow_pos (by decide)
    unfold szF
    rw [Nat.pow_succ]
    split
    · rename_i hw
      obtain ⟨l3, hc⟩ := h.2 hw
      have hs : ((pInn d).map (szF n)).sum ≤ ((pInn d).map (szF n)).length * 4 ^ n := sum_le3 fun x hx => by
        obtain ⟨c, hc1, rfl⟩ := List.mem_map.mp hx
        exact szF_le n c (hc c hc1)
      rw [List.length_map] at hs
      have : (pInn d).length * 4 ^ n ≤ 3 * 4 ^ n := Nat.mul_le_mul_right _ l3
      omega
    · omega
/-- one that waits: its levels at most, itself, its level -/
abbrev Wt := Nat × PyData × Nat
def wtD (p : Wt) : PyData := .tuple [p.2.1, .int (p.2.2 : Nat)]
def wBad (ps : List Wt) : Option PyData := ps.reverse.findSome? fun p => fbF p.1 p.2.1
def wDep (ps : List Wt) : Nat := mxN (ps.map fun p => p.2.2 - 1 + depF p.1 p.2.1)
def wSz (ps : List Wt) : Nat := (ps.map fun p => szF p.1 p.2.1).sum
theorem wSz_app (a b : List Wt) : wSz (a ++ b) = wSz a + wSz b := by
  unfold wSz
  rw [List.map_append, List.sum_append_nat]
theorem wSz_rev (a : List Wt) : wSz a.reverse = wSz a := by
  unfold wSz
  rw [List.map_reverse, List.sum_reverse]
theorem wSz_len : ∀ a : List Wt, a.length ≤ wSz a
  | [] => Nat.le_refl _
  | p :: r => by
    have h1 := wSz_len r
    have h2 := szF_pos p.1 p.2.1
    show r.length + 1 ≤ (szF p.1 p.2.1 :: r.map fun p => szF p.1 p.2.1).sum
    rw [List.sum_cons]
    unfold wSz at h1
    omega
theorem mxN_app : ∀ a b : List Nat, mxN (a ++ b) = max (mxN a) (mxN b)
  | [], b => (Nat.max_eq_right (Nat.zero_le _)).symm
  | x :: r, b => by
    show max x (mxN (r ++ b)) = max (max x (mxN r)) (mxN b)
    rw [mxN_app r b]
    exact (Nat.max_assoc _ _ _).symm
theorem mxN_rev : ∀ a : List Nat, mxN a.reverse = mxN a
  | [] => rfl
  | x :: r => by
    rw [List.reverse_cons, mxN_app, mxN_rev r]
    show max (mxN r) (max x 0) = max x (mxN r)
    rw [Nat.max_eq_left (Nat.zero_le x)]
    exact Nat.max_comm _ _
theorem wDep_app (a b : List Wt) : wDep (a ++ b) = max (wDep a) (wDep b) := by
  unfold wDep
  rw [List.map_append, mxN_app]
theorem wDep_rev (a : List Wt) : wDep a.reverse = wDep a := by
  unfold wDep
  rw [List.map_reverse, mxN_rev]
theorem wBad_app (a b : List Wt) : wBad (a ++ b) = (wBad b).or (wBad a) := by
  unfold wBad
  rw [List.reverse_append, List.findSome?_append]
/-- what a well made part leaves behind -/
def kidsW (n l : Nat) (d : PyData) : List Wt := (pInn d).map fun c => (n, c, l + 1)
theorem kids_bad (n l : Nat) (d : PyData) : wBad (kidsW n l d).reverse = (pInn d).findSome? (fbF n) := by
  unfold wBad kidsW
  rw [List.reverse_reverse, List.findSome?_map]
  rfl
theorem kids_sz (n l : Nat) (d : PyData) : wSz (kidsW n l d).reverse = ((pInn d).map (szF n)).sum := by
  rw [wSz_rev]
  unfold wSz kidsW
  rw [List.map_map]
  rfl
theorem mxN_add (l : Nat) : ∀ a : List Nat, a ≠ [] → mxN (a.map fun x => l + x) = l + mxN a
  | [], h => absurd rfl h
  | [x], _ => by
    show max (l + x) 0 = l + max x 0
    rw [Nat.max_eq_left (Nat.zero_le _), Nat.max_eq_left (Nat.zero_le _)]
  | x :: y :: r, _ => by
    show max (l + x) (mxN ((y :: r).map fun x => l + x)) = l + max x (mxN (y :: r))
    rw [mxN_add l (y :: r) (by simp)]
    exact Nat.add_max_add_left _ _ _
theorem kids_dep (n l : Nat) (d : PyData) : max l (wDep (kidsW n l d).reverse) = l + mxN ((pInn d).map (depF n)) := by
  rw [wDep_rev]
  unfold wDep kidsW
  rw [List.map_map]
  have e : ((fun p : Wt => p.2.2 - 1 + depF p.1 p.2.1) ∘ fun c => (n, c, l + 1)) = ((fun x => l + x) ∘ depF n) := by
    funext c
    show l + 1 - 1 + depF n c = l + depF n c
    omega
  rw [e, ← List.map_map]
  by_cases h : (pInn d).map (depF n) = []
  · rw [h]
    show max l 0 = l + 0
    rw [Nat.max_eq_left (Nat.zero_le _), Nat.add_zero]
  · rw [mxN_add l _ h]
    exact Nat.max_eq_right (Nat.le_add_right _ _)
end
end D

namespace D
open PySem PySem.Spec PyProof.Rows L2
local macro_rules | `(tactic| walk_at "st") => `(tactic| first | exact SqT.of (by assumption) | exact Or.inl (by assumption) | exact SqT.of upd_same | fail "st")
local macro_rules | `(tactic| walk_at "ixt") => `(tactic| refine ⟨_, _, _, _, rfl, rfl, (by walk_at "st" : SqT _ _ _ _), by rfl, ?_⟩)
local macro_rules | `(tactic| walk_at "sq") => `(tactic| first | exact SqL.of (by assumption) | assumption | exact Or.inl (by assumption) | exact SqL.of upd_same | fail "sq")
local macro_rules | `(tactic| walk_at "ix") => `(tactic| refine ⟨_, _, _, _, rfl, rfl, (by walk_at "sq" : SqL _ _ _ _), by rfl, ?_⟩)
local macro_rules | `(tactic| walk_at "set") => `(tactic| refine ⟨_, _, _, _, rfl, rfl, by first | assumption | exact upd_same, by rfl, ?_⟩)
local macro_rules | `(tactic| walk_at "len") => `(tactic| refine ⟨_, _, rfl, Or.inl (by walk_at "sq" : SqL _ _ _ _), ?_⟩)
local macro_rules | `(tactic| walk_at "g") => `(tactic| repeat (first | refine ⟨_, rfl, ?_⟩ | refine ⟨_, _, rfl, rfl, ?_⟩ | refine ⟨Or.inr (by decide), ?_⟩ | refine ⟨Or.inl (by decide), ?_⟩ | refine ⟨(by decide : (0 : Int) < _), ?_⟩ | refine ⟨(⟨by decide, by decide⟩ : CDiv _ _), ?_⟩ | refine ⟨(⟨by decide, by decide, by decide⟩ : CPow _ _), ?_⟩ | refine Or.inl ⟨_, rfl, ?_⟩ | refine ⟨rfl, ?_⟩ | walk_at "ix" | walk_at "ixt" | walk_at "len" | fail "g"))
local macro_rules | `(tactic| walk_at "if") => `(tactic| refine ite2 (fun e => ?_) (fun e => ?_))
section
variable {P : Program} {w : World} {K : PySem.W.Frag} {mg : Str → Option Value} {base : Heap}
theorem RpAll.consX {M : Ms} {H : Hp} {xs : List V} {d : PyData} {ds : List PyData} (h : RpAll M H xs (d :: ds)) : ∃ x r, xs = x :: r ∧ Rp M H x d ∧ RpAll M H r ds := by
  cases h with
  | cons h1 h2 => exact ⟨_, _, rfl, h1, h2⟩
theorem well_inv {d : PyData} (h : pWell d = true) : ∃ w r, d = .tuple (.str w :: r) ∧ pTop w r = true := by
  unfold pWell at h
  split at h
  · exact ⟨_, _, rfl, h⟩
  · cases h
theorem inn_of (w : Str) (r : List PyData) : pInn (.tuple (.str w :: r)) = if (pMany w).isSome = true then r else [] := rfl
theorem top_len {w : Str} {n : Nat} {r : List PyData} (h1 : w ≠ sIs) (h2 : w ≠ sGet) (h : pMany w = some n) (t : pTop w r = true) : r.length = n := by
  have := well_many h1 h2 h r
  rw [show pWell (.tuple (.str w :: r)) = pTop w r from rfl, t] at this
  exact of_decide_eq_true this.symm
def sp_dinn (U : TManyA K mg w) : Sp := fun vs H Q _ => ∃ (v : V) (d : PyData) (M : Ms), vs = [v] ∧ Rp M H v d ∧ Mk M H ∧ partC d ∧ pWell d = true ∧ Pu M H (fun x => x = .tuple (pInn d)) Q
theorem okd_inner (T : Txt K mg) (U : TManyA K mg w) : FnOk P w K mg base CX0 1 T.f_inner_forms T.d_inner_forms ["form"] (sp_dinn U) := by
  refine T.F_inner_forms.ok sc_inner_forms (fun vs H Q E h => ?_) (fun cdv A outer s H vs Q E hr h => ?_)
  · obtain ⟨_, _, _, rfl, _⟩ := h
    rfl
  · obtain ⟨v, d, M, rfl, hR, hM, hp, hw, q⟩ := h
    obtain ⟨w, dr, rfl, ht⟩ := well_inv hw
    obtain ⟨a, xs, rfl, na, ha, rx⟩ := Rp.tupX hR
    obtain ⟨x, xr, rfl, r1, rr⟩ := RpAll.consX rx
    cases r1
    refine ⟨_, (pss_cons (ps_if (pt_cmpR (op_in_kd U.kd) (pe_ix (ix_tupK (K := K) rfl) (pv 0) pe_int (fun _ _ => rfl)) (pe_glob (v := .ref U.p) rfl U.g rfl) (by rfl)) (pss_one (ps_ret (pe_slice (sl_tupK (K := K) rfl) (pv 0) (po_some pe_int) po_none))) pss_nil)
      (pss_one (ps_ret (pe_tup pa_nil)))), ?_⟩
    have cut : ∀ n, pMany w = some n → dr.length = n → 2 ≤ n → rSlA K (V.ref a) (some 1) none H Q := by
      intro n hn hl h2
      have lr := rr.length
      refine ⟨a, _, rfl, SqT.of ha, fun z => ?_, fun _ p hp => ?_⟩
      · exfalso
        have z1 := z.1
        rw [show HT.sIx (V.str w :: xr).length 0 (some 1) = min 1 (V.str w :: xr).length from HT.sIx_nat _ _ 1] at z1
        rw [List.length_cons] at z1
        omega
      · rw [cut1]
        refine q _ _ _ (same_new hp) (.tup (hM.out hp) (.inl upd_same) (rr.sx (Sx.new hp))) ?_
        rw [inn_of, if_pos (by rw [hn]; rfl)]
    obtain ⟨hwo, _, _⟩ := hp w dr rfl
    walk_at "g"
    refine ⟨_, _, _, _, rfl, rfl, SqT.of ha, atI_nat (j := 0) rfl, ?_⟩
    rcases hwo with rfl | rfl | rfl | rfl | rfl | rfl
    · walk_at "g"
      refine ⟨sIs, none, rfl, rfl, U.is, ?_⟩
      walk_at "g"
      refine ⟨Nat.zero_le _, fun p hp => ?_⟩
      exact q _ _ _ (same_new hp) (.tup (hM.out hp) (.inl upd_same) .nil) rfl
    · walk_at "g"
      refine ⟨sGet, none, rfl, rfl, U.get, ?_⟩
      walk_at "g"
      refine ⟨Nat.zero_le _, fun p hp => ?_⟩
      exact q _ _ _ (same_new hp) (.tup (hM.out hp) (.inl upd_same) .nil) rfl
    · obtain ⟨t, ht1⟩ := U.sum
      walk_at "g"
      refine ⟨sSum, some (.int 2 t), rfl, rfl, ht1, ?_⟩
      walk_at "g"
      exact cut 2 (by decide) (top_len (by decide) (by decide) (show pMany sSum = some 2 by decide) ht) (Nat.le_refl _)
    · obtain ⟨t, ht1⟩ := U.same
      walk_at "g"
      refine ⟨sSame, some (.int 2 t), rfl, rfl, ht1, ?_⟩
      walk_at "g"
      exact cut 2 (by decide) (top_len (by decide) (by decide) (show pMany sSame = some 2 by decide) ht) (Nat.le_refl _)
    · obtain ⟨t, ht1⟩ := U.pick
      walk_at "g"
      refine ⟨sPick, some (.int 3 t), rfl, rfl, ht1, ?_⟩
      walk_at "g"
      exact cut 3 (by decide) (top_len (by decide) (by decide) (show pMany sPick = some 3 by decide) ht) (by decide)
    · rw [show pTop sAdd dr = pWell (.tuple (.str sAdd :: dr)) from rfl, well_add] at ht
      cases ht
def sp_dcheck (U : TManyA K mg w) (CE : Addr) : Sp := fun vs H Q E => ∃ (v : V) (d : PyData) (M : Ms) (n0 : Nat), vs = [v] ∧ Rp M H v d ∧ Mk M H ∧ okF n0 d ∧ n0 ≤ 7 ∧
  (∀ p, fbF n0 d = some p → ∀ H' vp dd, Same H H' → Rp M H' vp p → H' dd = none → E (.ref CE) (some dd) (upd H' dd (.xd [(sPart, vp)]))) ∧
  (fbF n0 d = none → 5 < depF n0 d → ∀ H' dd, Same H H' → H' dd = none → E (.ref CE) (some dd) (upd H' dd (.xd [(sPart, v)]))) ∧
  (fbF n0 d = none → depF n0 d ≤ 5 → ∀ H', Same H H' → Q .non H')
theorem okd_check (T : Txt K mg) (U : TManyA K mg w) : FnOk P w K mg base (L2.CX P w) 4 T.f_check_form T.d_check_form ["parts"] (sp_dcheck U T.C_BadForm) := by
  have G__well_made := okd_well (P := P) (base := base) T U
  have G_inner_forms := okd_inner (P := P) (base := base) T U
  have G_BadForm___init__ := ok_badform (P := P) (w := w) (base := base) T
  refine T.F_check_form.okX sc_check_form (fun vs H Q E h => ?_) (fun cdv A outer s H vs Q E hr h => ?_)
  · obtain ⟨_, _, _, _, rfl, _⟩ := h
    rfl
  · obtain ⟨v, d, M, n0, rfl, hR, hM, ho, hn7, qb, ql, qg⟩ := h
    refine ⟨_, (pss_cons (ps_set (i := 1) sc_check_form.nd rfl (Or.inl rfl) pe_int)
      (pss_cons (ps_set (i := 2) sc_check_form.nd rfl (Or.inl rfl) (pe_lst (pa_cons (pe_tup (pa_cons (pv 0) (pa_cons pe_int pa_nil))) pa_nil)))
      (pss_cons (ps_while (passes_of rfl) (pt_truthK (K := K) rfl (pv 2) (by intro _; rfl)) (pss_cons (ps_asg (pe_bm0K2 (K := K) rfl PySem.F.plainAttrs_list PySem.F.slot_list_pop PySem.F.type_list_pop mt_pop (pv 2)) (pg_tupK (K := K) rfl rfl (pgs_cons (pg_name (i := 3) sc_check_form.nd rfl (Or.inl rfl)) (pgs_cons (pg_name (i := 4) sc_check_form.nd rfl (Or.inr rfl)) pgs_nil))))
      (pss_cons (ps_if (pt_not (pt_val (pe_call G__well_made (hr.mono (by omega)) (by rfl) T.g__well_made T.F__well_made.kp T.b__well_made .nil pass0 (pa_cons (pv 3) pa_nil)))) (pss_one (ps_raise rfl (takes_of rfl rfl rfl rfl) (pmk_oex T.ox_BadForm T.iC_BadForm T.tI_BadForm G_BadForm___init__ (hr.mono (by omega)) T.b_BadForm___init__ .nil pass0 (by rfl) T.g_BadForm (pa_cons (pv 3) pa_nil)))) pss_nil)
      (pss_cons (ps_if (pt_cmpR op_gt (pv 4) (pv 1) (nomark _)) (pss_one (ps_set (i := 1) sc_check_form.nd rfl (Or.inl rfl) (pv 4))) pss_nil)
      (pss_cons (ps_setLc (i := 5) (own := [("form", 6)]) (g := gName 6) (tt := tYes) (by rfl) sc_check_form.nd rfl rfl (sw_true rfl rfl rfl (by decide +kernel)) (pi_tupK (K := K) rfl (pe_call G_inner_forms (hr.mono (by omega)) (by rfl) T.g_inner_forms T.F_inner_forms.kp T.b_inner_forms .nil pass0 (pa_cons (pv 3) pa_nil))) (blkOk_by (own := [("form", 6)]) (N := ["parts", "deepest", "waiting", "part", "level", "inner", "form"]) (sc := defScope s_check_form) (by decide +kernel)) (fun _ _ _ _ _ => (pg_name (i := 6) sc_check_form.nd rfl (Or.inl rfl))) (fun _ _ _ _ _ => pts_nil) (fun _ _ _ _ _ => (pe_tup (pa_cons (pv 6) (pa_cons (pe_op op_add (pv 4) pe_int) pa_nil)))))
      (pss_one (ps_expr (pe_bmK2 (K := K) rfl PySem.F.plainAttrs_list PySem.F.slot_list_extend PySem.F.type_list_extend mt_extend (pv 2) (pa_cons (pe_revL (pv 5)) pa_nil)))))))))
      (pss_one (ps_if (pt_cmpR op_gt (pv 1) (pe_glob (v := .int 5) rfl T.c_MOST_LEVELS ⟨_, rfl⟩) (nomark _)) (pss_one (ps_raise rfl (takes_of rfl rfl rfl rfl) (pmk_oex T.ox_BadForm T.iC_BadForm T.tI_BadForm G_BadForm___init__ (hr.mono (by omega)) T.b_BadForm___init__ .nil pass0 (by rfl) T.g_BadForm (pa_cons (pv 0) pa_nil)))) pss_nil))))), ?_⟩
    walk_at "g"
    refine ⟨sz2, fun t ht => ?_⟩
    refine ⟨szK rfl, fun s ns => ?_⟩
    have ts : t ≠ s := ne_of_none upd_same ns
    have ns0 : H s = none := by
      rw [upd_ne ts.symm] at ns
      exact ns
    let N : Ms := also M s
    have hs0 : Same H (upd (upd H t (.tup [v, .int 1])) s (.lst [.ref t])) := fun c o e => same_new ns c o (same_new ht c o e)
    have hMN : Mk N (upd (upd H t (.tup [v, .int 1])) s (.lst [.ref t])) := (hM.gr (Gr.same hs0)).also upd_there
    have b4 : wSz [(n0, d, 1)] ≤ 16384 := by
      show (szF n0 d + 0) ≤ 16384
      have := szF_le n0 d ho
      have : 4 ^ n0 ≤ 4 ^ 7 := Nat.pow_le_pow_right (by decide) hn7
      have : 4 ^ 7 = 16384 := by decide
      omega
    refine ⟨fun m σ H' => ∃ (y3 y4 y5 y6 : Option V) (dp : Nat) (ps : List Wt) (xs : List V), σ = [some v, some (.int (dp : Nat)), some (.ref s), y3, y4, y5, y6] ∧ Same H H' ∧ Mk N H' ∧ H' s = some (.lst xs) ∧ RpAll N H' xs (ps.map wtD) ∧ (∀ p ∈ ps, okF p.1 p.2.1 ∧ 1 ≤ p.2.2) ∧ wBad ps = fbF n0 d ∧ max dp (wDep ps) = depF n0 d ∧ wSz ps ≤ 16384 ∧ m = wSz ps, ⟨_, none, none, none, none, 0, [(n0, d, 1)], _, rfl, hs0, hMN, upd_same, ?_, ?_, ?_, ?_, b4, rfl⟩, fun m σ H' hW => ?_⟩
    · refine .one (.tup (fun z => z.elim (hM.out ht) ts) (.inl (by rw [upd_ne ts, upd_same]; rfl)) (.cons ?_ (.one (.int _))))
      exact (hR.fresh ns0).sx (Sx.same hs0)
    · intro p hp
      rw [List.mem_singleton.mp hp]
      exact ⟨ho, Nat.le_refl _⟩
    · show ([(n0, d, 1)] : List Wt).reverse.findSome? _ = _
      simp
    · show max 0 (max (1 - 1 + depF n0 d) 0) = depF n0 d
      omega
    · obtain ⟨y3, y4, y5, y6, dp, ps, xs, rfl, hs, hMk, es, rs, hp, hb, hdp, hsz, rfl⟩ := hW
      have lx := rs.length
      rw [List.length_map] at lx
      walk_at "g"
      refine ⟨!xs.isEmpty, .inl ⟨xs, SqL.of es, rfl⟩, ?_⟩
      walk_at "if"
      · rename_i e
        have hne : ps ≠ [] := fun z => by
          have : xs = [] := List.length_eq_zero_iff.mp (by rw [lx, z]; rfl)
          rw [this] at e
          cases e
        obtain ⟨qs, p, rfl⟩ : ∃ qs p, ps = qs ++ [p] := ⟨ps.dropLast, ps.getLast hne, (List.dropLast_concat_getLast hne).symm⟩
        rw [List.map_append] at rs
        obtain ⟨us, u, rfl, ru, rp⟩ := rs.last
        obtain ⟨pu, xu, rfl, nu, hu, rxu⟩ := Rp.tupN rp
        obtain ⟨w1, w2, rfl, r1, r2⟩ := rxu.inv2
        cases r2
        obtain ⟨fo, fl⟩ := hp p (by simp)
        obtain ⟨pn, pd, pl⟩ := p
        cases pn with
        | zero => exact fo.elim
        | succ pn =>
        have fl : 1 ≤ pl := fl
        have hpc : partC pd := fo.1
        have hkid : pWell pd = true → (pInn pd).length ≤ 3 ∧ ∀ c ∈ pInn pd, okF pn c := fo.2
        have r1 : Rp N H' w1 pd := r1
        have hsz1 := wSz_app qs [(pn + 1, pd, pl)]
        have hb1 : wBad (qs ++ [(pn + 1, pd, pl)]) = (fbF (pn + 1) pd).or (wBad qs) := by
          rw [wBad_app]
          congr 1
          show ([(pn + 1, pd, pl)] : List Wt).reverse.findSome? _ = _
          simp
        have hd1 : wDep (qs ++ [(pn + 1, pd, pl)]) = max (wDep qs) (pl - 1 + depF (pn + 1) pd) := by
          rw [wDep_app]
          show max (wDep qs) (max (pl - 1 + depF (pn + 1) pd) 0) = _
          omega
        have hs1 : wSz [(pn + 1, pd, pl)] = szF (pn + 1) pd := by
          show szF (pn + 1) pd + 0 = _
          omega
        rw [hb1] at hb
        rw [hd1] at hdp
        generalize hm : wSz (qs ++ [(pn + 1, pd, pl)]) = m at *
        refine ⟨fun σ2 H2 => ∃ (y3 y4 y5 y6 : Option V) (dp : Nat) (ps : List Wt) (xs : List V), σ2 = [some v, some (.int (dp : Nat)), some (.ref s), y3, y4, y5, y6] ∧ Same H H2 ∧ Mk N H2 ∧ H2 s = some (.lst xs) ∧ RpAll N H2 xs (ps.map wtD) ∧ (∀ p ∈ ps, okF p.1 p.2.1 ∧ 1 ≤ p.2.2) ∧ wBad ps = fbF n0 d ∧ max dp (wDep ps) = depF n0 d ∧ wSz ps < m, fun σ2 H2 h2 => ?_, ?_⟩
        · obtain ⟨y3, y4, y5, y6, dp, ps, xs, a1, a2, a3, a4, a5, a6, a7, a8, a9⟩ := h2
          exact ⟨_, a9, y3, y4, y5, y6, dp, ps, xs, a1, a2, a3, a4, a5, a6, a7, a8, by omega, rfl⟩
        walk_at "g"
        refine ⟨.inl ⟨rfl, _, SqL.of es⟩, s, _, .ref pu, rfl, rfl, es, ?_, ?_⟩
        · rw [List.length_append, List.length_singleton, Nat.add_sub_cancel, List.getElem?_append_right (Nat.le_refl _), Nat.sub_self]
          rfl
        rw [List.dropLast_concat]
        generalize q1 : upd H' s (.lst us) = H1
        have s1 : Sx N H' H1 := q1 ▸ Sx.put (.inr rfl)
        have e1 : H1 s = some (.lst us) := q1 ▸ upd_same
        have hs1' : Same H H1 := q1 ▸ same_put hs ns0
        have g1 : Gr H' H1 := q1 ▸ Gr.upd
        clear q1
        have hu1 := sx_rd s1 nu hu
        have r11 := r1.sx s1
        have hMk1 := hMk.gr g1
        refine ⟨pu, _, rfl, .inl hu1, rfl, _, _, rfl, _, _, rfl, rfl, ?_⟩
        with_reducible refine seq_join (fun σ3 H3 => pWell pd = true ∧ σ3 = [some v, some (.int dp), some (.ref s), some w1, some (.int (pl : Int)), y5, y6] ∧ Same H1 H3) (fun hN => ?_) (fun σ3 H2 c => ?_)
        · walk_at "g"
          refine ⟨_, pd, N, rfl, r11, hpc, fun H2 s2 => ?_⟩
          cases hw : pWell pd with
          | true =>
            exact ⟨_, rfl, hN _ _ ⟨hw, rfl, s2⟩⟩
          | false =>
            walk_at "g"
            refine mk_err1 T.ox_BadForm T.nf_BadForm_part (fun dd hdd => qb pd ?_ _ w1 dd (hs1'.trans s2) ((r11.sx (Sx.same s2)).less also_le) hdd)
            rw [← hb]
            show (if pWell pd = true then _ else some pd).or _ = _
            rw [hw]
            rfl
        obtain ⟨hw, rfl, s2⟩ := c
        obtain ⟨l3, hk⟩ := hkid hw
        have eb : fbF (pn + 1) pd = (pInn pd).findSome? (fbF pn) := by
          show (if pWell pd = true then _ else _) = _
          rw [if_pos hw]
        have ed : depF (pn + 1) pd = mxN ((pInn pd).map (depF pn)) + 1 := by
          show (if pWell pd = true then _ else _) = _
          rw [if_pos hw]
        have ez : szF (pn + 1) pd = ((pInn pd).map (szF pn)).sum + 1 := by
          show (if pWell pd = true then _ else _) = _
          rw [if_pos hw]
        with_reducible refine seq_join (fun σ3 H3 => σ3 = [some v, some (.int (max dp pl : Nat)), some (.ref s), some w1, some (.int (pl : Int)), y5, y6] ∧ H3 = H2) (fun hN => ?_) (fun σ3 H3 c => ?_)
        · walk_at "g"
          walk_at "if"
          · rename_i c
            have c' := of_decide_eq_true c
            refine ⟨_, rfl, hN _ _ ⟨?_, rfl⟩⟩
            rw [show max dp pl = pl by omega]
            rfl
          · rename_i c
            have c' : ¬ ((dp : Nat) : Int) < (pl : Nat) := fun z => c (decide_eq_true z)
            refine hN _ _ ⟨?_, rfl⟩
            rw [show max dp pl = dp by omega]
        · obtain ⟨rfl, rfl⟩ := c
          walk_at "g"
          have r12 := r11.sx (Sx.same s2)
          have hMk2 := hMk1.gr (Gr.same s2)
          refine ⟨_, pd, N, rfl, r12, hMk2, hpc, hw, fun v3 H3 d3 s3 r3 e3 => ?_⟩
          subst e3
          obtain ⟨p3, x3, rfl, n3, h3, rx3⟩ := Rp.tupN r3
          have l3' := rx3.length
          have hMk3 := hMk2.gr (Gr.same s3)
          refine ⟨p3, rfl, ⟨_, .inl h3⟩, fun D hD => ?_⟩
          refine lc_dataT (xs := x3) (ys := (kidsW pn pl pd).map wtD) N hMk3 hD (.inl h3) (by unfold kidsW; rw [List.length_map, List.length_map, l3']) (by omega) (fun i x y Ha C Nx hx hy hsa hm hC => ?_) (fun H4 s4 L4 => ?_)
          · obtain ⟨d4, hd4, rd⟩ := rx3.get hx
            unfold kidsW at hy
            rw [List.getElem?_map, List.getElem?_map, hd4] at hy
            cases hy
            refine ⟨rfl, ?_⟩
            walk_at "g"
            refine ⟨sz2, fun u hu => ?_⟩
            refine hC _ _ (same_new hu) (.tup (hm.out hu) (.inl upd_same) (.cons ?_ (.one ?_)))
            · exact (((rd.fresh hD).sx (Sx.same hsa)).sx (Sx.new hu))
            · exact .int _
          · obtain ⟨nD, ys, eD, rD⟩ := L4
            have lD := rD.length
            have lk : (kidsW pn pl pd).length = (pInn pd).length := by unfold kidsW; rw [List.length_map]
            rw [List.length_map, lk] at lD
            have s24 := s2.trans (s3.trans s4)
            have e4 := s24 _ _ e1
            refine ⟨.ref s, rfl, .inl ⟨rfl, _, SqL.of e4⟩, .ref D, rfl, D, ys, rfl, SqL.of eD, fun z hz => ?_⟩
            have sz : s ≠ z := ne_of_none e4 hz
            have lu := ru.length
            refine ⟨s, z, us, ys.reverse, rfl, rfl, by rw [upd_ne sz]; exact e4, upd_same, ?_, ?_⟩
            · have := wSz_len qs
              rw [List.length_map] at lu
              rw [List.length_reverse]
              exact Nat.le_of_lt (small1000000 (by omega))
            · have s5 : Sx N H4 (upd (upd H4 z (.lst ys.reverse)) s (.lst (us ++ ys.reverse))) := (Sx.new hz).trans (Sx.put (.inr rfl))
              have hs5 : Same H (upd (upd H4 z (.lst ys.reverse)) s (.lst (us ++ ys.reverse))) := same_put ((hs1'.trans s24).trans (same_new hz)) ns0
              refine ⟨_, _, _, _, max dp pl, qs ++ (kidsW pn pl pd).reverse, us ++ ys.reverse, rfl, hs5, (hMk3.gr (Gr.same s4)).gr (Gr.upd.trans Gr.upd), upd_same, ?_, ?_, ?_, ?_, ?_⟩
              · rw [List.map_append, List.map_reverse]
                exact (((ru.sx s1).sx (Sx.same s24)).append rD.reverse).sx s5
              · intro r hr
                rcases List.mem_append.mp hr with hr | hr
                · exact hp r (List.mem_append_left _ hr)
                · rw [List.mem_reverse] at hr
                  obtain ⟨g, hg, rfl⟩ := List.mem_map.mp hr
                  exact ⟨hk g hg, by show 1 ≤ pl + 1; omega⟩
              · rw [wBad_app, kids_bad, ← hb, eb]
              · rw [wDep_app, ← hdp, ed]
                have := kids_dep pn pl pd
                omega
              · rw [wSz_app, kids_sz]
                omega
      · rename_i e
        have hnil : ps = [] := by
          cases ps with
          | nil => rfl
          | cons p r =>
            exfalso
            apply e
            cases xs with
            | nil => simp at lx
            | cons _ _ => rfl
        subst hnil
        have hb : none = fbF n0 d := hb
        have hdp : max dp 0 = depF n0 d := hdp
        walk_at "g"
        by_cases c5 : (5 : Int) < (dp : Nat)
        · rw [decide_eq_true c5]
          walk_at "g"
          exact mk_err1 T.ox_BadForm T.nf_BadForm_part (ql hb.symm (by omega) _ · hs)
        · rw [decide_eq_false c5]
          exact qg hb.symm (by omega) _ hs
end
end D

namespace D
open PySem PySem.Spec PyProof.Rows L2
local macro_rules | `(tactic| walk_at "st") => `(tactic| first | exact SqT.of (by assumption) | exact Or.inl (by assumption) | exact SqT.of upd_same | fail "st")
local macro_rules | `(tactic| walk_at "ixt") => `(tactic| refine ⟨_, _, _, _, rfl, rfl, (by walk_at "st" : SqT _ _ _ _), by rfl, ?_⟩)
local macro_rules | `(tactic| walk_at "sq") => `(tactic| first | exact SqL.of (by assumption) | assumption | exact Or.inl (by assumption) | exact SqL.of upd_same | fail "sq")
local macro_rules | `(tactic| walk_at "ix") => `(tactic| refine ⟨_, _, _, _, rfl, rfl, (by walk_at "sq" : SqL _ _ _ _), by rfl, ?_⟩)
local macro_rules | `(tactic| walk_at "set") => `(tactic| refine ⟨_, _, _, _, rfl, rfl, by first | assumption | exact upd_same, by rfl, ?_⟩)
local macro_rules | `(tactic| walk_at "len") => `(tactic| refine ⟨_, _, rfl, Or.inl (by walk_at "sq" : SqL _ _ _ _), ?_⟩)
local macro_rules | `(tactic| walk_at "g") => `(tactic| repeat (first | refine ⟨_, rfl, ?_⟩ | refine ⟨_, _, rfl, rfl, ?_⟩ | refine ⟨Or.inr (by decide), ?_⟩ | refine ⟨Or.inl (by decide), ?_⟩ | refine ⟨(by decide : (0 : Int) < _), ?_⟩ | refine ⟨(⟨by decide, by decide⟩ : CDiv _ _), ?_⟩ | refine ⟨(⟨by decide, by decide, by decide⟩ : CPow _ _), ?_⟩ | refine Or.inl ⟨_, rfl, ?_⟩ | refine ⟨rfl, ?_⟩ | walk_at "ix" | walk_at "ixt" | walk_at "len" | fail "g"))
local macro_rules | `(tactic| walk_at "if") => `(tactic| refine ite2 (fun e => ?_) (fun e => ?_))
section
variable {P : Program} {w : World} {K : PySem.W.Frag} {mg : Str → Option Value} {base : Heap}
theorem Fm.enc_eq (f : Fm) : ∃ r, f.enc = .tuple (.str f.word :: r) ∧ (f.subs ≠ [] → r = f.subs.map Fm.enc) := by
  cases f with
  | is n => exact ⟨_, rfl, fun h => absurd rfl h⟩
  | get x => exact ⟨_, rfl, fun h => absurd rfl h⟩
  | _ => exact ⟨_, rfl, fun _ => rfl⟩
theorem fm_well {f : Fm} (h : f.ok isNm) : pWell f.enc = true := by
  cases f with
  | is n =>
    show pWell (.tuple [.str sIs, .int n]) = true
    rw [well_is]
    show (decide (0 ≤ n) && decide (n ≤ 9)) = true
    rw [decide_eq_true h.1, decide_eq_true h.2]
    rfl
  | get x =>
    show pWell (.tuple [.str sGet, .str x]) = true
    rw [well_get]
    exact nmB_iff.mpr h
  | sum f g =>
    show pWell (.tuple [.str sSum, f.enc, g.enc]) = true
    rw [well_many (by decide) (by decide) (show pMany sSum = some 2 by decide)]
    rfl
  | same f g =>
    show pWell (.tuple [.str sSame, f.enc, g.enc]) = true
    rw [well_many (by decide) (by decide) (show pMany sSame = some 2 by decide)]
    rfl
  | pick f g k =>
    show pWell (.tuple [.str sPick, f.enc, g.enc, k.enc]) = true
    rw [well_many (by decide) (by decide) (show pMany sPick = some 3 by decide)]
    rfl
theorem fm_inn (f : Fm) : pInn f.enc = f.subs.map Fm.enc := by
  cases f with
  | is n => rfl
  | get x => rfl
  | sum f g => rfl
  | same f g => rfl
  | pick f g k => rfl
theorem fm_partC {f : Fm} (h : f.ok isNm) : partC f.enc := by
  cases f with
  | is n =>
    intro w r e
    cases e
    exact ⟨.inl rfl, by simp, fun x e => by cases e⟩
  | get x =>
    intro w r e
    cases e
    exact ⟨.inr (.inl rfl), by simp, fun y e => by cases e; have := h.2.1; omega⟩
  | sum f g =>
    intro w r e
    cases e
    exact ⟨.inr (.inr (.inl rfl)), by simp, fun y e => by have := congrArg List.length e; simp at this⟩
  | same f g =>
    intro w r e
    cases e
    exact ⟨.inr (.inr (.inr (.inl rfl))), by simp, fun y e => by have := congrArg List.length e; simp at this⟩
  | pick f g k =>
    intro w r e
    cases e
    exact ⟨.inr (.inr (.inr (.inr (.inl rfl)))), by simp, fun y e => by have := congrArg List.length e; simp at this⟩
theorem fm_okF : ∀ (n : Nat) (f : Fm), f.ok isNm → f.dep ≤ n → okF n f.enc
  | 0, f, _, h => absurd f.dep_pos (by omega)
  | n + 1, f, ho, h => by
    refine ⟨fm_partC ho, fun _ => ?_⟩
    rw [fm_inn, List.length_map]
    refine ⟨subs_len f, fun c hc => ?_⟩
    obtain ⟨g, hg, rfl⟩ := List.mem_map.mp hc
    have := subs_dep hg
    exact fm_okF n g (subs_ok ho hg) (by omega)
theorem fm_fbF : ∀ (n : Nat) (f : Fm), f.ok isNm → fbF n f.enc = none
  | 0, _, _ => rfl
  | n + 1, f, ho => by
    show (if pWell f.enc = true then _ else _) = _
    rw [if_pos (fm_well ho), fm_inn, List.findSome?_eq_none_iff]
    intro c hc
    obtain ⟨g, hg, rfl⟩ := List.mem_map.mp hc
    exact fm_fbF n g (subs_ok ho hg)
theorem fm_depF : ∀ (n : Nat) (f : Fm), f.ok isNm → f.dep ≤ n → depF n f.enc = f.dep
  | 0, f, _, h => absurd f.dep_pos (by omega)
  | n + 1, f, ho, h => by
    show (if pWell f.enc = true then _ else _) = _
    rw [if_pos (fm_well ho), fm_inn]
    have ih : ∀ g ∈ f.subs, depF n g.enc = g.dep := fun g hg => fm_depF n g (subs_ok ho hg) (by have := subs_dep hg; omega)
    rw [List.map_map, show (f.subs.map (depF n ∘ Fm.enc)) = f.subs.map Fm.dep from List.map_congr_left ih]
    cases f with
    | is n => rfl
    | get x => rfl
    | sum f g =>
      show max f.dep (max g.dep 0) + 1 = max f.dep g.dep + 1
      omega
    | same f g =>
      show max f.dep (max g.dep 0) + 1 = max f.dep g.dep + 1
      omega
    | pick f g k =>
      show max f.dep (max g.dep (max k.dep 0)) + 1 = max f.dep (max g.dep k.dep) + 1
      omega
def sName : Str := Str.ofString "name"
theorem ok_noname (T : Txt K mg) : FnOk P w K mg base CX0 1 T.f_NoName___init__ T.d_NoName___init__ ["self", "name"] (sp_err1 K T.C_NoName sName) := by
  refine T.F_NoName___init__.ok sc_NoName___init__ (fun vs H Q E h => ?_) (fun cdv A outer s H vs Q E hr h => ?_)
  · obtain ⟨_, _, rfl, _⟩ := h
    rfl
  · obtain ⟨a, y, rfl, ox, no, ha, q⟩ := h
    refine ⟨_, (pss_one (ps_ost (pv 0) (pv 1))), ?_⟩
    walk_at "g"
    exact ⟨a, _, rfl, ox, no, .inl ⟨ha, fun dx h n => q dx h n⟩⟩
/-- the first name that is not known -/
def strange (ns : List Str) : Option Str := ns.find? fun x => !inV (.str x) [.str sItem, .str sAt]
def sp_dkey (C CB CN : Addr) : Sp := fun vs H Q E => ∃ (a dx : Addr) (v : V) (d : PyData) (M : Ms) (n0 : Nat), vs = [.ref a, v] ∧ H a = some (.ins C dx []) ∧ Rp M H v d ∧ Mk M H ∧ okF n0 d ∧ n0 ≤ 7 ∧
  (∀ p, fbF n0 d = some p → ∀ H' vp dd, Same H H' → Rp M H' vp p → H' dd = none → E (.ref CB) (some dd) (upd H' dd (.xd [(sPart, vp)]))) ∧
  (fbF n0 d = none → 5 < depF n0 d → ∀ H' dd, Same H H' → H' dd = none → E (.ref CB) (some dd) (upd H' dd (.xd [(sPart, v)]))) ∧
  (fbF n0 d = none → depF n0 d ≤ 5 → ∃ f : Fm, d = f.enc ∧ f.ok isNm ∧ f.dep ≤ 5 ∧
    (∀ x, strange f.names = some x → ∀ H' dd, Same H H' → H' dd = none → E (.ref CN) (some dd) (upd H' dd (.xd [(sName, .str x)]))) ∧
    (strange f.names = none → ∀ H', Same H H' → Q .non (upd H' a (.ins C dx [(sParts, v)]))))
theorem okd_key (T : Txt K mg) (U : TManyA K mg w) : FnOk P w K mg base (L2.CX P w) 8 T.f_Key___init__ T.d_Key___init__ ["self", "form"] (sp_dkey T.C_Key T.C_BadForm T.C_NoName) := by
  have G_check_form := okd_check (P := P) (w := w) (base := base) T U
  have G_names_in := ok_names_in (P := P) (w := w) (base := base) T U.toTMany 5
  have G_NoName___init__ := ok_noname (P := P) (w := w) (base := base) T
  refine T.F_Key___init__.okX sc_Key___init__ (fun vs H Q E h => ?_) (fun cdv A outer s H vs Q E hr h => ?_)
  · obtain ⟨_, _, _, _, _, _, rfl, _⟩ := h
    rfl
  · obtain ⟨a, dx, v, d, M, n0, rfl, ha, hR, hM, ho, hn, qb, ql, qg⟩ := h
    refine ⟨_, (pss_cons (ps_expr (pe_callS G_check_form (hr.mono (by omega)) (by rfl) T.g_check_form T.F_check_form.kp T.b_check_form (fun σ => passAt (takes_of rfl rfl rfl rfl) σ) (pa_cons (pv 1) pa_nil)))
      (pss_cons (ps_for (passes_of rfl) rfl (pi_tupK (K := K) rfl (pe_call G_names_in (hr.mono (by omega)) (by rfl) T.g_names_in T.F_names_in.kp T.b_names_in .nil pass0 (pa_cons (pv 1) pa_nil))) (pg_name (i := 2) sc_Key___init__.nd rfl (Or.inl rfl)) (pss_one (ps_if (pt_cmpR (op_notIn_seqK (K := K) rfl) (pv 2) (pe_tup (pa_cons pe_str (pa_cons pe_str pa_nil))) (by rfl)) (pss_one (ps_raise rfl (takes_of rfl rfl rfl rfl) (pmk_oex T.ox_NoName T.iC_NoName T.tI_NoName G_NoName___init__ (hr.mono (by omega)) T.b_NoName___init__ .nil pass0 (by rfl) T.g_NoName (pa_cons (pv 2) pa_nil)))) pss_nil)))
      (pss_one (ps_fld (pv 0) (pv 1) rfl)))), ?_⟩
    walk_at "g"
    refine ⟨v, d, M, n0, rfl, hR, hM, ho, hn, qb, ql, fun e1 e2 H1 s1 => ?_⟩
    obtain ⟨f, rfl, hok, hdep, qs, qn⟩ := qg e1 e2
    walk_at "g"
    refine ⟨v, f, M, rfl, hR.sx (Sx.same s1), hM.gr (Gr.same s1), hdep, by decide, fun w' H2 d s2 hR2 hd => ?_⟩
    subst hd
    obtain ⟨b, xs, rfl, nb, hb, rx⟩ := Rp.tupN hR2
    have ex := rx.ofStrs
    subst ex
    walk_at "g"
    refine ⟨⟨_, .inl hb⟩, ?_⟩
    refine for_tup (K := K) (a := b) (xs := f.names.map V.str) (fun i σ H' => ∃ y, σ = [some (.ref a), some v, y] ∧ Same H2 H' ∧ strange (f.names.take i) = none) ⟨none, rfl, Same.refl _, rfl⟩ (fun i σ H' _ p => ?_) (fun i x σ H' hx p => ?_) (fun σ H' p => ?_)
    · obtain ⟨y, rfl, hs, _⟩ := p
      exact same_sqt hs (.inl hb)
    · obtain ⟨y, rfl, hs, hst⟩ := p
      rw [List.getElem?_map] at hx
      obtain ⟨nm, hn, rfl⟩ := Option.map_eq_some_iff.mp hx
      walk_at "g"
      refine ⟨by decide, fun p hp => ?_⟩
      refine ⟨p, _, rfl, .inr (SqT.of upd_same), rfl, rfl, ?_⟩
      have s3 := hs.trans (same_new (o := .tup [.str sItem, .str sAt]) hp)
      cases e1 : inV (.str nm) [.str sItem, .str sAt] with
      | true =>
        refine ⟨_, rfl, ?_⟩
        show if (!inV (.str nm) [.str sItem, .str sAt]) = true then _ else _
        rw [e1]
        refine ⟨_, rfl, s3, ?_⟩
        unfold strange at hst ⊢
        rw [List.take_add_one, hn, Option.toList_some, List.find?_append, hst]
        rw [Option.none_or, List.find?_cons, e1]
        rfl
      | false =>
        refine ⟨_, rfl, ?_⟩
        show if (!inV (.str nm) [.str sItem, .str sAt]) = true then _ else _
        rw [e1]
        have est : strange f.names = some nm := by
          have hi := (List.getElem?_eq_some_iff.mp hn)
          obtain ⟨hi, e0⟩ := hi
          have e : f.names = f.names.take i ++ nm :: f.names.drop (i + 1) := by
            rw [← e0, List.getElem_cons_drop hi, List.take_append_drop]
          unfold strange at hst ⊢
          rw [e, List.find?_append, hst, Option.none_or, List.find?_cons, e1]
          rfl
        walk_at "g"
        exact mk_err1 T.ox_NoName T.nf_NoName_name (fun dd hdd => qs nm est _ dd (s1.trans (s2.trans s3)) hdd)
    · obtain ⟨y, rfl, hs, hst⟩ := p
      walk_at "g"
      have s3 := s1.trans (s2.trans hs)
      rw [List.length_map, List.take_of_length_le (Nat.le_refl _)] at hst
      exact ⟨a, _, dx, [], rfl, s3 _ _ ha, T.cl_Key, T.nA_Key__parts, by decide, qn hst _ s3⟩
end
end D

namespace D
open PySem PySem.Spec PyProof.Rows L2
local macro_rules | `(tactic| walk_at "st") => `(tactic| first | exact SqT.of (by assumption) | exact Or.inl (by assumption) | exact SqT.of upd_same | fail "st")
local macro_rules | `(tactic| walk_at "ixt") => `(tactic| refine ⟨_, _, _, _, rfl, rfl, (by walk_at "st" : SqT _ _ _ _), by rfl, ?_⟩)
local macro_rules | `(tactic| walk_at "sq") => `(tactic| first | exact SqL.of (by assumption) | assumption | exact Or.inl (by assumption) | exact SqL.of upd_same | fail "sq")
local macro_rules | `(tactic| walk_at "ix") => `(tactic| refine ⟨_, _, _, _, rfl, rfl, (by walk_at "sq" : SqL _ _ _ _), by rfl, ?_⟩)
local macro_rules | `(tactic| walk_at "set") => `(tactic| refine ⟨_, _, _, _, rfl, rfl, by first | assumption | exact upd_same, by rfl, ?_⟩)
local macro_rules | `(tactic| walk_at "len") => `(tactic| refine ⟨_, _, rfl, Or.inl (by walk_at "sq" : SqL _ _ _ _), ?_⟩)
local macro_rules | `(tactic| walk_at "g") => `(tactic| repeat (first | refine ⟨_, rfl, ?_⟩ | refine ⟨_, _, rfl, rfl, ?_⟩ | refine ⟨Or.inr (by decide), ?_⟩ | refine ⟨Or.inl (by decide), ?_⟩ | refine ⟨(by decide : (0 : Int) < _), ?_⟩ | refine ⟨(⟨by decide, by decide⟩ : CDiv _ _), ?_⟩ | refine ⟨(⟨by decide, by decide, by decide⟩ : CPow _ _), ?_⟩ | refine Or.inl ⟨_, rfl, ?_⟩ | refine ⟨rfl, ?_⟩ | walk_at "ix" | walk_at "ixt" | walk_at "len" | fail "g"))
local macro_rules | `(tactic| walk_at "if") => `(tactic| refine ite2 (fun e => ?_) (fun e => ?_))
section
variable {P : Program} {w : World} {K : PySem.W.Frag} {mg : Str → Option Value} {base : Heap}
def sRowF : Str := Str.ofString "row"
theorem ok_badrow (T : Txt K mg) : FnOk P w K mg base CX0 1 T.f_BadRow___init__ T.d_BadRow___init__ ["self", "row"] (sp_err1 K T.C_BadRow sRowF) := by
  refine T.F_BadRow___init__.ok sc_BadRow___init__ (fun vs H Q E h => ?_) (fun cdv A outer s H vs Q E hr h => ?_)
  · obtain ⟨_, _, rfl, _⟩ := h
    rfl
  · obtain ⟨a, y, rfl, ox, no, ha, q⟩ := h
    refine ⟨_, (pss_one (ps_ost (pv 0) (pv 1))), ?_⟩
    walk_at "g"
    exact ⟨a, _, rfl, ox, no, .inl ⟨ha, fun dx h n => q dx h n⟩⟩
def pRow : PyData → Bool
  | .tuple ds => decide (ds.length ≤ 5) && (ds.all pVal && decide ((ds.map unI).Nodup))
  | _ => false
theorem all_ints : ∀ {ds : List PyData}, ds.all pVal = true → ds = (ds.map unI).map PyData.int
  | [], _ => rfl
  | d :: r, h => by
    rw [List.all_cons, Bool.and_eq_true] at h
    rw [List.map_cons, List.map_cons, ← all_ints h.2]
    cases d <;> first | rfl | cases h.1
def lenC (d : PyData) : Prop := ∀ ds, d = .tuple ds → ds.length ≤ 1000
def sp_drow : Sp := fun vs H Q _ => ∃ (v : V) (d : PyData) (M : Ms), vs = [v] ∧ Rp M H v d ∧ lenC d ∧ ∀ H', Same H H' → Q (.bl (pRow d)) H'
theorem okd_row (T : Txt K mg) : FnOk P w K mg base CX0 3 T.f_is_row T.d_is_row ["thing"] sp_drow := by
  have G_is_value := okd_value (P := P) (w := w) (base := base) T
  refine T.F_is_row.ok sc_is_row (fun vs H Q E h => ?_) (fun cdv A outer s H vs Q E hr h => ?_)
  · obtain ⟨_, _, _, rfl, _⟩ := h
    rfl
  · obtain ⟨v, d, M, rfl, hR, hlc, q⟩ := h
    refine ⟨_, (pss_cons (ps_if (PW.pt (pw_or (pt_not (pt_val (pe_callB (call_isi1K (K := K) rfl) (by rfl) T.m_isinstance (by decide +kernel) (pa_cons (pv 0) (pa_cons (pe_bltn (v := .ty "tuple") (u := .type "tuple") (by rfl) T.m_tuple (by decide +kernel) rfl) pa_nil))))) (pw_or1 (pt_cmpR op_gt (pe_callB (call_lenK (K := K) rfl) (by rfl) T.m_len PySem.boot_len (pa_cons (pv 0) pa_nil)) (pe_glob (v := .int 5) rfl T.c_MOST_ITEMS ⟨_, rfl⟩) (nomark _))))) (pss_one (ps_ret pe_bl)) pss_nil)
      (pss_one (ps_ret (pe_and (pe_callB (cr_allK (K := K) rfl rfl) (by rfl) T.m_all (by decide +kernel) (pa_cons (pe_lc (own := [("item", 1)]) (g := gName 1) (tt := tYes) (by rfl) sc_is_row.nd (pi_tupK (K := K) rfl (pv 0)) (blkOk_by (own := [("item", 1)]) (N := ["thing", "item"]) (sc := defScope s_is_row) (by decide +kernel)) (fun _ _ _ _ _ => (pg_name (i := 1) sc_is_row.nd rfl (Or.inl rfl))) (fun _ _ _ _ _ => pts_nil) (fun _ _ _ _ _ => (pe_call G_is_value (hr.mono (by omega)) (by rfl) T.g_is_value T.F_is_value.kp T.b_is_value .nil pass0 (pa_cons (pv 1) pa_nil)))) pa_nil)) (pe_one (pe_cmpR op_eq (pe_lenSetT (K := K) rfl rfl (by rfl) T.m_len (by rfl) T.m_set (pv 0)) (pe_callB (call_lenK (K := K) rfl) (by rfl) T.m_len PySem.boot_len (pa_cons (pv 0) pa_nil)) (nomark _))))))), ?_⟩
    walk_at "g"
    refine ⟨_, _, _, _, _, rfl, .ty _, hR.tyX, kit_ty hR.isTup, ?_⟩
    cases hR with
    | @tup a xs ds na ha rx =>
      have l1000 := hlc ds rfl
      have ha := ha.at
      have lx := rx.length
      walk_at "g"
      refine ⟨_, _, rfl, .inr (SqT.of ha), ?_⟩
      walk_at "g"
      by_cases c5 : (5 : Int) < (xs.length : Int)
      · rw [decide_eq_true c5]
        walk_at "g"
        have q' := q _ (Same.refl H)
        rw [show pRow (.tuple ds) = false by
          show (decide (ds.length ≤ 5) && _) = false
          rw [decide_eq_false (show ¬ ds.length ≤ 5 by omega), Bool.false_and]] at q'
        exact q'
      · rw [decide_eq_false c5]
        have l5 : decide (ds.length ≤ 5) = true := decide_eq_true (by omega)
        walk_at "g"
        refine ⟨⟨_, SqT.of ha⟩, fun D hD => ?_⟩
        refine lc_valsT (ys := (ds.map pVal).map V.bl) hD (SqT.of ha) (by rw [List.length_map, List.length_map]; omega) (by omega) (fun i x y H' C N hx hy hs hC => ?_) (fun H' hs hD' => ?_)
        · obtain ⟨d4, hd4, rd⟩ := rx.get hx
          rw [List.getElem?_map, List.getElem?_map, hd4] at hy
          cases hy
          refine ⟨rfl, ?_⟩
          walk_at "g"
          exact ⟨x, d4, M, rfl, rd.sx (Sx.same hs), hC⟩
        · refine ⟨D, ds.map pVal, rfl, SqL.of hD', ?_⟩
          have q' := q _ hs
          have eq0 : pRow (.tuple ds) = ((ds.map pVal).all id && decide ((ds.map unI).Nodup)) := by
            show (decide (ds.length ≤ 5) && (ds.all pVal && _)) = _
            rw [l5, Bool.true_and, List.all_map]
            rfl
          rw [eq0] at q'
          cases hall : (ds.map pVal).all id with
          | false =>
            rw [hall] at q'
            walk_at "g"
            exact q'
          | true =>
            rw [hall, Bool.true_and] at q'
            rw [List.all_map] at hall
            have eds := all_ints hall
            obtain ⟨ns, hns⟩ : ∃ ns, ns = ds.map unI := ⟨_, rfl⟩
            rw [← hns] at q' eds
            subst eds
            have ex := rx.ofInts
            subst ex
            rw [List.length_map] at lx c5
            walk_at "g"
            have ha' := hs _ _ ha
            refine ⟨a, ns, rfl, SqT.of ha', by omega, fun c hc => ?_⟩
            walk_at "g"
            refine ⟨_, _, rfl, .inr (SqT.of ha'), ?_⟩
            refine ⟨rfl, ?_⟩
            have e : decide (V.int (c : Nat) = V.int ((ns.map V.int).length : Nat)) = decide ns.Nodup := by
              rw [len_int, decide_eq_decide, List.length_map]
              exact ⟨fun z => hc.mp (by omega), fun z => by rw [hc.mpr z]⟩
            rw [← e] at q'
            exact q'
    | _ =>
      walk_at "g"
      exact q _ (Same.refl _)
/-- a row of a list: a good one, or data that is none -/
def ItAt (M : Ms) (H : Hp) (x : V) : Option PyData → Prop
  | none => ∃ ns, RowAt M H x ns ∧ goodRow ns
  | some d => Rp M H x d ∧ lenC d ∧ pRow d = false
theorem ItAt.sx {M : Ms} {H H' : Hp} {x : V} {o : Option PyData} (h : ItAt M H x o) (s : Sx M H H') : ItAt M H' x o := by
  cases o with
  | none =>
    obtain ⟨ns, r, g⟩ := h
    exact ⟨ns, r.sx s, g⟩
  | some d => exact ⟨h.1.sx s, h.2⟩
def ItsAt (M : Ms) (H : Hp) (xs : List V) (bs : List (Option PyData)) : Prop := xs.length = bs.length ∧ ∀ (i : Nat) (x : V), xs[i]? = some x → ∃ b, bs[i]? = some b ∧ ItAt M H x b
def firstO (bs : List (Option PyData)) : Option PyData := bs.findSome? id
def sp_isrow : Sp := fun vs H Q _ => ∃ (x : V) (b : Option PyData) (M : Ms), vs = [x] ∧ ItAt M H x b ∧ ∀ H', Same H H' → Q (.bl b.isNone) H'
theorem okd_isrow (T : Txt K mg) : FnOk P w K mg base CX0 3 T.f_is_row T.d_is_row ["thing"] sp_isrow := by
  have G1 := okis_row (P := P) (w := w) (base := base) T
  have G2 := okd_row (P := P) (w := w) (base := base) T
  refine ⟨fun vs H Q E h => ?_, fun A o s H args us vs Q E hr he hb hv h => ?_⟩
  · obtain ⟨_, _, _, rfl, _⟩ := h
    rfl
  · obtain ⟨x, b, M, rfl, hi, q⟩ := h
    cases b with
    | none =>
      obtain ⟨ns, r, g⟩ := hi
      exact G1.run A o s H args us _ Q E hr he hb hv ⟨x, ns, M, rfl, r, g, q⟩
    | some d =>
      refine G2.run A o s H args us _ Q E hr he hb hv ⟨x, d, M, rfl, hi.1, hi.2.1, fun H' s => ?_⟩
      rw [hi.2.2]
      exact q H' s
def sp_drowsL (CE : Addr) : Sp := fun vs H Q E => ∃ (a : Addr) (xs : List V) (bs : List (Option PyData)) (M : Ms), vs = [.ref a] ∧ SqL K H a xs ∧ ItsAt M H xs bs ∧
  (∀ d, firstO bs = some d → ∀ H' v dd, Same H H' → Rp M H' v d → H' dd = none → E (.ref CE) (some dd) (upd H' dd (.xd [(sRowF, v)]))) ∧ (firstO bs = none → ∀ H', Same H H' → Q .non H')
theorem okd_rowsL (T : Txt K mg) : FnOk P w K mg base (L2.CX P w) 4 T.f_check_rows T.d_check_rows ["rows"] (sp_drowsL (K := K) T.C_BadRow) := by
  have G_is_row := okd_isrow (P := P) (w := w) (base := base) T
  have G_BadRow___init__ := ok_badrow (P := P) (w := w) (base := base) T
  refine T.F_check_rows.okX sc_check_rows (fun vs H Q E h => ?_) (fun cdv A outer s H vs Q E hr h => ?_)
  · obtain ⟨_, _, _, _, rfl, _⟩ := h
    rfl
  · obtain ⟨a, xs, bs, M, rfl, ha, ⟨lx, rx⟩, qb, qg⟩ := h
    refine ⟨_, (pss_one (ps_for (passes_of rfl) rfl (pi_listK (K := K) rfl (pv 0)) (pg_name (i := 1) sc_check_rows.nd rfl (Or.inl rfl)) (pss_one (ps_if (pt_not (pt_val (pe_call G_is_row (hr.mono (by omega)) (by rfl) T.g_is_row T.F_is_row.kp T.b_is_row .nil pass0 (pa_cons (pv 1) pa_nil)))) (pss_one (ps_raise rfl (takes_of rfl rfl rfl rfl) (pmk_oex T.ox_BadRow T.iC_BadRow T.tI_BadRow G_BadRow___init__ (hr.mono (by omega)) T.b_BadRow___init__ .nil pass0 (by rfl) T.g_BadRow (pa_cons (pv 1) pa_nil)))) pss_nil)))), ?_⟩
    walk_at "g"
    refine ⟨⟨_, ha⟩, ?_⟩
    refine for_list (K := K) (a := a) (xs := xs) (fun i σ H' => ∃ y, σ = [some (.ref a), y] ∧ Same H H' ∧ firstO (bs.take i) = none) ⟨none, rfl, Same.refl H, rfl⟩ (fun i σ H' _ p => ?_) (fun i x σ H' hx p => ?_) (fun σ H' p => ?_)
    · obtain ⟨y, rfl, hs, _⟩ := p
      exact sx_l (M := fun _ => False) (Sx.same hs) (fun z => z) ha
    · obtain ⟨y, rfl, hs, hb⟩ := p
      obtain ⟨b, hbi, it⟩ := rx i x hx
      have it' := it.sx (Sx.same hs)
      walk_at "g"
      refine ⟨x, b, M, rfl, it', fun H2 s2 => ?_⟩
      cases b with
      | none =>
        walk_at "g"
        refine ⟨hs.trans s2, ?_⟩
        unfold firstO at hb ⊢
        rw [List.take_add_one, hbi, Option.toList_some, List.findSome?_append, hb]
        rfl
      | some d =>
        walk_at "g"
        refine mk_err1 T.ox_BadRow T.nf_BadRow_row (fun dd hdd => qb d ?_ _ x dd (hs.trans s2) (it'.1.sx (Sx.same s2)) hdd)
        obtain ⟨hi, e0⟩ := List.getElem?_eq_some_iff.mp hbi
        have e : bs = bs.take i ++ some d :: bs.drop (i + 1) := by
          rw [← e0, List.getElem_cons_drop hi, List.take_append_drop]
        unfold firstO at hb ⊢
        rw [e, List.findSome?_append, hb]
        rfl
    · obtain ⟨y, rfl, hs, hb⟩ := p
      rw [List.take_of_length_le (by omega)] at hb
      exact qg hb _ hs
def sp_drowsT (CE : Addr) : Sp := fun vs H Q E => ∃ (a : Addr) (xs : List V) (bs : List (Option PyData)) (M : Ms), vs = [.ref a] ∧ SqT K H a xs ∧ ItsAt M H xs bs ∧
  (∀ d, firstO bs = some d → ∀ H' v dd, Same H H' → Rp M H' v d → H' dd = none → E (.ref CE) (some dd) (upd H' dd (.xd [(sRowF, v)]))) ∧ (firstO bs = none → ∀ H', Same H H' → Q .non H')
theorem okd_rowsT (T : Txt K mg) : FnOk P w K mg base (L2.CX P w) 4 T.f_check_rows T.d_check_rows ["rows"] (sp_drowsT (K := K) T.C_BadRow) := by
  have G_is_row := okd_isrow (P := P) (w := w) (base := base) T
  have G_BadRow___init__ := ok_badrow (P := P) (w := w) (base := base) T
  refine T.F_check_rows.okX sc_check_rows (fun vs H Q E h => ?_) (fun cdv A outer s H vs Q E hr h => ?_)
  · obtain ⟨_, _, _, _, rfl, _⟩ := h
    rfl
  · obtain ⟨a, xs, bs, M, rfl, ha, ⟨lx, rx⟩, qb, qg⟩ := h
    refine ⟨_, (pss_one (ps_for (passes_of rfl) rfl (pi_tupK (K := K) rfl (pv 0)) (pg_name (i := 1) sc_check_rows.nd rfl (Or.inl rfl)) (pss_one (ps_if (pt_not (pt_val (pe_call G_is_row (hr.mono (by omega)) (by rfl) T.g_is_row T.F_is_row.kp T.b_is_row .nil pass0 (pa_cons (pv 1) pa_nil)))) (pss_one (ps_raise rfl (takes_of rfl rfl rfl rfl) (pmk_oex T.ox_BadRow T.iC_BadRow T.tI_BadRow G_BadRow___init__ (hr.mono (by omega)) T.b_BadRow___init__ .nil pass0 (by rfl) T.g_BadRow (pa_cons (pv 1) pa_nil)))) pss_nil)))), ?_⟩
    walk_at "g"
    refine ⟨⟨_, ha⟩, ?_⟩
    refine for_tup (K := K) (a := a) (xs := xs) (fun i σ H' => ∃ y, σ = [some (.ref a), y] ∧ Same H H' ∧ firstO (bs.take i) = none) ⟨none, rfl, Same.refl H, rfl⟩ (fun i σ H' _ p => ?_) (fun i x σ H' hx p => ?_) (fun σ H' p => ?_)
    · obtain ⟨y, rfl, hs, _⟩ := p
      exact same_sqt hs ha
    · obtain ⟨y, rfl, hs, hb⟩ := p
      obtain ⟨b, hbi, it⟩ := rx i x hx
      have it' := it.sx (Sx.same hs)
      walk_at "g"
      refine ⟨x, b, M, rfl, it', fun H2 s2 => ?_⟩
      cases b with
      | none =>
        walk_at "g"
        refine ⟨hs.trans s2, ?_⟩
        unfold firstO at hb ⊢
        rw [List.take_add_one, hbi, Option.toList_some, List.findSome?_append, hb]
        rfl
      | some d =>
        walk_at "g"
        refine mk_err1 T.ox_BadRow T.nf_BadRow_row (fun dd hdd => qb d ?_ _ x dd (hs.trans s2) (it'.1.sx (Sx.same s2)) hdd)
        obtain ⟨hi, e0⟩ := List.getElem?_eq_some_iff.mp hbi
        have e : bs = bs.take i ++ some d :: bs.drop (i + 1) := by
          rw [← e0, List.getElem_cons_drop hi, List.take_append_drop]
        unfold firstO at hb ⊢
        rw [e, List.findSome?_append, hb]
        rfl
    · obtain ⟨y, rfl, hs, hb⟩ := p
      rw [List.take_of_length_le (by omega)] at hb
      exact qg hb _ hs
end
end D

namespace D
open PySem PySem.Spec PyProof.Rows L2
local macro_rules | `(tactic| walk_at "st") => `(tactic| first | exact SqT.of (by assumption) | exact Or.inl (by assumption) | exact SqT.of upd_same | fail "st")
local macro_rules | `(tactic| walk_at "ixt") => `(tactic| refine ⟨_, _, _, _, rfl, rfl, (by walk_at "st" : SqT _ _ _ _), by rfl, ?_⟩)
local macro_rules | `(tactic| walk_at "sq") => `(tactic| first | exact SqL.of (by assumption) | assumption | exact Or.inl (by assumption) | exact SqL.of upd_same | fail "sq")
local macro_rules | `(tactic| walk_at "ix") => `(tactic| refine ⟨_, _, _, _, rfl, rfl, (by walk_at "sq" : SqL _ _ _ _), by rfl, ?_⟩)
local macro_rules | `(tactic| walk_at "set") => `(tactic| refine ⟨_, _, _, _, rfl, rfl, by first | assumption | exact upd_same, by rfl, ?_⟩)
local macro_rules | `(tactic| walk_at "len") => `(tactic| refine ⟨_, _, rfl, Or.inl (by walk_at "sq" : SqL _ _ _ _), ?_⟩)
local macro_rules | `(tactic| walk_at "g") => `(tactic| repeat (first | refine ⟨_, rfl, ?_⟩ | refine ⟨_, _, rfl, rfl, ?_⟩ | refine ⟨Or.inr (by decide), ?_⟩ | refine ⟨Or.inl (by decide), ?_⟩ | refine ⟨(by decide : (0 : Int) < _), ?_⟩ | refine ⟨(⟨by decide, by decide⟩ : CDiv _ _), ?_⟩ | refine ⟨(⟨by decide, by decide, by decide⟩ : CPow _ _), ?_⟩ | refine Or.inl ⟨_, rfl, ?_⟩ | refine ⟨rfl, ?_⟩ | walk_at "ix" | walk_at "ixt" | walk_at "len" | fail "g"))
local macro_rules | `(tactic| walk_at "if") => `(tactic| refine ite2 (fun e => ?_) (fun e => ?_))
section
variable {P : Program} {w : World} {K : PySem.W.Frag} {mg : Str → Option Value} {base : Heap}
theorem FnOk.lift {CX : CXT} {k : Nat} {f : Addr} {fd : FuncData} {ps : List Str} {sp : Sp} (F : FnOk P w K mg base CX0 k f fd ps sp) : FnOk P w K mg base CX k f fd ps sp :=
  ⟨F.len, fun A fr s H args us vs Q E hr he hb hv hs => codeAny_mono (F.run A fr s H args us vs Q E hr he hb hv hs) fun r s' h => by
    cases r with
    | error e => exact h.elim
    | ok fl => cases fl <;> exact h⟩
theorem FnOk.or {CX : CXT} {k : Nat} {f : Addr} {fd : FuncData} {ps : List Str} {sp sq : Sp} (F : FnOk P w K mg base CX k f fd ps sp) (G : FnOk P w K mg base CX k f fd ps sq) : FnOk P w K mg base CX k f fd ps (fun vs H Q E => sp vs H Q E ∨ sq vs H Q E) :=
  ⟨fun vs H Q E h => h.elim (F.len vs H Q E) (G.len vs H Q E), fun A fr s H args us vs Q E hr he hb hv hs => hs.elim (F.run A fr s H args us vs Q E hr he hb hv) (G.run A fr s H args us vs Q E hr he hb hv)⟩
def BadE (CE : Addr) (M : Ms) (H : Hp) (E : XK) (d : PyData) : Prop := ∀ H' v dd, Same H H' → Rp M H' v d → H' dd = none → E (.ref CE) (some dd) (upd H' dd (.xd [(sRowF, v)]))
def sp_bad1 (CE : Addr) : Sp := fun vs H Q E => ∃ (k v : V) (d : PyData) (M : Ms), vs = [k, v] ∧ Rp M H v d ∧ lenC d ∧ pRow d = false ∧ BadE CE M H E d
def sp_bad2 (CE : Addr) : Sp := fun vs H Q E => ∃ (k v1 v2 : V) (b1 b2 : Option PyData) (d : PyData) (M : Ms), vs = [k, v1, v2] ∧ ItAt M H v1 b1 ∧ ItAt M H v2 b2 ∧ firstO [b1, b2] = some d ∧ BadE CE M H E d
def sp_badM (K : PySem.W.Frag) (CE : Addr) : Sp := fun vs H Q E => ∃ (k : V) (m : Addr) (xs : List V) (bs : List (Option PyData)) (d : PyData) (M : Ms), vs = [k, .ref m] ∧ SqT K H m xs ∧ ItsAt M H xs bs ∧ firstO bs = some d ∧ BadE CE M H E d
theorem its1 {M : Ms} {H : Hp} {x : V} {b : Option PyData} (h : ItAt M H x b) : ItsAt M H [x] [b] := ⟨rfl, fun i y e => by
  match i, e with
  | 0, e => cases e; exact ⟨b, rfl, h⟩⟩
theorem its2 {M : Ms} {H : Hp} {x y : V} {b c : Option PyData} (h : ItAt M H x b) (g : ItAt M H y c) : ItsAt M H [x, y] [b, c] := ⟨rfl, fun i z e => by
  match i, e with
  | 0, e => cases e; exact ⟨b, rfl, h⟩
  | 1, e => cases e; exact ⟨c, rfl, g⟩⟩
theorem ItsAt.sx {M : Ms} {H H' : Hp} {xs : List V} {bs : List (Option PyData)} (h : ItsAt M H xs bs) (s : Sx M H H') : ItsAt M H' xs bs := ⟨h.1, fun i x e => by
  obtain ⟨b, e1, r⟩ := h.2 i x e
  exact ⟨b, e1, r.sx s⟩⟩
theorem okb_idents (T : Txt K mg) : FnOk P w K mg base (L2.CX P w) 10 T.f_Key_idents T.d_Key_idents ["self", "row"] (sp_bad1 T.C_BadRow) := by
  have G_check_rows := okd_rowsL (P := P) (w := w) (base := base) T
  have G__idents := ok_ids (P := P) (w := w) (base := base) T
  refine T.F_Key_idents.okX sc_Key_idents (fun vs H Q E h => ?_) (fun cdv A outer s H vs Q E hr h => ?_)
  · obtain ⟨_, _, _, _, rfl, _⟩ := h
    rfl
  · obtain ⟨k, v, d, M, rfl, hR, hl, hp, q⟩ := h
    refine ⟨_, (pss_cons (ps_expr (pe_callS G_check_rows (hr.mono (by omega)) (by rfl) T.g_check_rows T.F_check_rows.kp T.b_check_rows (fun σ => passAt (takes_of rfl rfl rfl rfl) σ) (pa_cons (pe_lst (pa_cons (pv 1) pa_nil)) pa_nil)))
      (pss_one (ps_ret (pe_call G__idents (hr.mono (by omega)) (by rfl) T.g__idents T.F__idents.kp T.b__idents .nil pass0 (pa_cons (pv 0) (pa_cons (pv 1) pa_nil)))))), ?_⟩
    walk_at "g"
    refine ⟨szK rfl, fun p hp1 => ?_⟩
    have n1 : Same H (upd H p (.lst [v])) := same_new hp1
    refine ⟨p, [v], [some d], M, rfl, SqL.of upd_same, its1 (ItAt.sx (o := some d) ⟨hR, hl, hp⟩ (Sx.same n1)), fun d1 e1 H1 v1 dd s1 r1 hd => ?_, fun z => by cases z⟩
    cases e1
    exact q _ _ _ (n1.trans s1) r1 hd
theorem okb_matched (T : Txt K mg) : FnOk P w K mg base (L2.CX P w) 10 T.f_matched T.d_matched ["key", "old", "new"] (sp_bad2 T.C_BadRow) := by
  have G_check_rows := okd_rowsL (P := P) (w := w) (base := base) T
  have G__idents := ok_ids (P := P) (w := w) (base := base) T
  have G__matches := ok_matches (P := P) (w := w) (base := base) T
  refine T.F_matched.okX sc_matched (fun vs H Q E h => ?_) (fun cdv A outer s H vs Q E hr h => ?_)
  · obtain ⟨_, _, _, _, _, _, _, rfl, _⟩ := h
    rfl
  · obtain ⟨k, v1, v2, b1, b2, d, M, rfl, h1, h2, hd, q⟩ := h
    refine ⟨_, (pss_cons (ps_expr (pe_callS G_check_rows (hr.mono (by omega)) (by rfl) T.g_check_rows T.F_check_rows.kp T.b_check_rows (fun σ => passAt (takes_of rfl rfl rfl rfl) σ) (pa_cons (pe_lst (pa_cons (pv 1) (pa_cons (pv 2) pa_nil))) pa_nil)))
      (pss_one (ps_ret (pe_callTy (call_tupleK (K := K) rfl) (by rfl) T.m_tuple (by decide +kernel) (pa_cons (pe_call G__matches (hr.mono (by omega)) (by rfl) T.g__matches T.F__matches.kp T.b__matches .nil pass0 (pa_cons (pe_call G__idents (hr.mono (by omega)) (by rfl) T.g__idents T.F__idents.kp T.b__idents .nil pass0 (pa_cons (pv 0) (pa_cons (pv 1) pa_nil))) (pa_cons (pe_call G__idents (hr.mono (by omega)) (by rfl) T.g__idents T.F__idents.kp T.b__idents .nil pass0 (pa_cons (pv 0) (pa_cons (pv 2) pa_nil))) pa_nil))) pa_nil))))), ?_⟩
    walk_at "g"
    refine ⟨szK rfl, fun p hp1 => ?_⟩
    have n1 : Same H (upd H p (.lst [v1, v2])) := same_new hp1
    refine ⟨p, [v1, v2], [b1, b2], M, rfl, SqL.of upd_same, (its2 h1 h2).sx (Sx.same n1), fun d1 e1 H1 v1 dd s1 r1 hd1 => ?_, fun z => by rw [hd] at z; cases z⟩
    rw [hd] at e1
    cases e1
    exact q _ _ _ (n1.trans s1) r1 hd1
theorem okb_slips (T : Txt K mg) : FnOk P w K mg base (L2.CX P w) 11 T.f_slips T.d_slips ["key", "old", "new"] (sp_bad2 T.C_BadRow) := by
  have G_matched := okb_matched (P := P) (w := w) (base := base) T
  have G__slipped := ok_slippedT (P := P) (w := w) (base := base) T
  refine T.F_slips.okX sc_slips (fun vs H Q E h => ?_) (fun cdv A outer s H vs Q E hr h => ?_)
  · obtain ⟨_, _, _, _, _, _, _, rfl, _⟩ := h
    rfl
  · obtain ⟨k, v1, v2, b1, b2, d, M, rfl, h1, h2, hd, q⟩ := h
    refine ⟨_, (pss_one (ps_ret (pe_callTy (call_tupleK (K := K) rfl) (by rfl) T.m_tuple (by decide +kernel) (pa_cons (pe_call G__slipped (hr.mono (by omega)) (by rfl) T.g__slipped T.F__slipped.kp T.b__slipped .nil pass0 (pa_cons (pe_callS G_matched (hr.mono (by omega)) (by rfl) T.g_matched T.F_matched.kp T.b_matched (fun σ => passAt (takes_of rfl rfl rfl rfl) σ) (pa_cons (pv 0) (pa_cons (pv 1) (pa_cons (pv 2) pa_nil)))) (pa_cons (pv 1) (pa_cons (pv 2) pa_nil)))) pa_nil)))), ?_⟩
    walk_at "g"
    exact ⟨k, v1, v2, b1, b2, d, M, rfl, h1, h2, hd, q⟩
theorem okb_losses (T : Txt K mg) : FnOk P w K mg base (L2.CX P w) 11 T.f_losses T.d_losses ["key", "old", "new"] (sp_bad2 T.C_BadRow) := by
  have G_matched := okb_matched (P := P) (w := w) (base := base) T
  have G__lost := ok_lostT (P := P) (w := w) (base := base) T
  refine T.F_losses.okX sc_losses (fun vs H Q E h => ?_) (fun cdv A outer s H vs Q E hr h => ?_)
  · obtain ⟨_, _, _, _, _, _, _, rfl, _⟩ := h
    rfl
  · obtain ⟨k, v1, v2, b1, b2, d, M, rfl, h1, h2, hd, q⟩ := h
    refine ⟨_, (pss_one (ps_ret (pe_callTy (call_tupleK (K := K) rfl) (by rfl) T.m_tuple (by decide +kernel) (pa_cons (pe_call G__lost (hr.mono (by omega)) (by rfl) T.g__lost T.F__lost.kp T.b__lost .nil pass0 (pa_cons (pe_callS G_matched (hr.mono (by omega)) (by rfl) T.g_matched T.F_matched.kp T.b_matched (fun σ => passAt (takes_of rfl rfl rfl rfl) σ) (pa_cons (pv 0) (pa_cons (pv 1) (pa_cons (pv 2) pa_nil)))) (pa_cons (pv 1) (pa_cons (pv 2) pa_nil)))) pa_nil)))), ?_⟩
    walk_at "g"
    exact ⟨k, v1, v2, b1, b2, d, M, rfl, h1, h2, hd, q⟩
theorem okb_faithful (T : Txt K mg) : FnOk P w K mg base (L2.CX P w) 10 T.f_faithful T.d_faithful ["key", "menu"] (sp_badM K T.C_BadRow) := by
  have G_check_rows := okd_rowsT (P := P) (w := w) (base := base) T
  have G__idents := ok_ids (P := P) (w := w) (base := base) T
  have G__first_parted := ok_fp (P := P) (w := w) (base := base) T
  refine T.F_faithful.okX sc_faithful (fun vs H Q E h => ?_) (fun cdv A outer s H vs Q E hr h => ?_)
  · obtain ⟨_, _, _, _, _, _, rfl, _⟩ := h
    rfl
  · obtain ⟨k, m, xs, bs, d, M, rfl, hS, hI, hd, q⟩ := h
    refine ⟨_, (pss_cons (ps_expr (pe_callS G_check_rows (hr.mono (by omega)) (by rfl) T.g_check_rows T.F_check_rows.kp T.b_check_rows (fun σ => passAt (takes_of rfl rfl rfl rfl) σ) (pa_cons (pv 1) pa_nil)))
      (pss_cons (ps_setLc2 (i := 2) (own := [("old", 3), ("new", 4)]) (vs1 := [4]) (g := gName 3) (g1 := gName 4) (tt := tYes) (tt1 := tYes)  (by rfl) sc_faithful.nd rfl rfl (sw_true rfl rfl rfl (by decide +kernel)) (pi_tupK (K := K) rfl (pv 1)) (blkOk_by (own := [("old", 3), ("new", 4)]) (N := ["key", "menu", "pairs", "old", "new", "row"]) (sc := defScope s_faithful) (by decide +kernel)) (by decide) (fun _ _ _ _ _ => (pg_name (i := 3) sc_faithful.nd rfl (Or.inl rfl))) (fun _ _ _ _ _ => pts_nil) (fun _ _ _ _ _ => (pi_tupK (K := K) rfl (pv 1))) (fun _ _ _ _ _ => (pg_name (i := 4) sc_faithful.nd rfl (Or.inl rfl))) (fun _ _ _ _ _ => pts_nil) (fun _ _ _ _ _ => (pe_tup (pa_cons (pv 3) (pa_cons (pv 4) pa_nil)))))
      (pss_one (ps_ret (pe_call G__first_parted (hr.mono (by omega)) (by rfl) T.g__first_parted T.F__first_parted.kp T.b__first_parted .nil pass0 (pa_cons (pv 2) (pa_cons (pe_dcX (P := P) (w := w) rfl rfl (own := [("row", 5)]) (g := gName 5) (tt := tYes) (hu_of hr) (by rfl) sc_faithful.nd (pi_tupK (K := K) rfl (pv 1)) (blkOk_by (own := [("row", 5)]) (N := ["key", "menu", "pairs", "old", "new", "row"]) (sc := defScope s_faithful) (by decide +kernel)) (fun _ _ _ _ _ => (pg_name (i := 5) sc_faithful.nd rfl (Or.inl rfl))) (fun _ _ _ _ _ => pts_nil) (fun _ _ _ _ _ => (pv 5)) (fun _ _ _ _ _ => (pe_call G__idents (hr.mono (by omega)) (by rfl) T.g__idents T.F__idents.kp T.b__idents .nil pass0 (pa_cons (pv 0) (pa_cons (pv 5) pa_nil))))) pa_nil))))))), ?_⟩
    walk_at "g"
    refine ⟨m, xs, bs, M, rfl, hS, hI, fun d1 e1 H1 v1 dd s1 r1 hd1 => ?_, fun z => by rw [hd] at z; cases z⟩
    rw [hd] at e1
    cases e1
    exact q _ _ _ s1 r1 hd1
end
end D

namespace D
open PySem PySem.Spec PyProof.Rows L2
local macro_rules | `(tactic| walk_at "st") => `(tactic| first | exact SqT.of (by assumption) | exact Or.inl (by assumption) | exact SqT.of upd_same | fail "st")
local macro_rules | `(tactic| walk_at "ixt") => `(tactic| refine ⟨_, _, _, _, rfl, rfl, (by walk_at "st" : SqT _ _ _ _), by rfl, ?_⟩)
local macro_rules | `(tactic| walk_at "sq") => `(tactic| first | exact SqL.of (by assumption) | assumption | exact Or.inl (by assumption) | exact SqL.of upd_same | fail "sq")
local macro_rules | `(tactic| walk_at "ix") => `(tactic| refine ⟨_, _, _, _, rfl, rfl, (by walk_at "sq" : SqL _ _ _ _), by rfl, ?_⟩)
local macro_rules | `(tactic| walk_at "set") => `(tactic| refine ⟨_, _, _, _, rfl, rfl, by first | assumption | exact upd_same, by rfl, ?_⟩)
local macro_rules | `(tactic| walk_at "len") => `(tactic| refine ⟨_, _, rfl, Or.inl (by walk_at "sq" : SqL _ _ _ _), ?_⟩)
local macro_rules | `(tactic| walk_at "g") => `(tactic| repeat (first | refine ⟨_, rfl, ?_⟩ | refine ⟨_, _, rfl, rfl, ?_⟩ | refine ⟨Or.inr (by decide), ?_⟩ | refine ⟨Or.inl (by decide), ?_⟩ | refine ⟨(by decide : (0 : Int) < _), ?_⟩ | refine ⟨(⟨by decide, by decide⟩ : CDiv _ _), ?_⟩ | refine ⟨(⟨by decide, by decide, by decide⟩ : CPow _ _), ?_⟩ | refine Or.inl ⟨_, rfl, ?_⟩ | refine ⟨rfl, ?_⟩ | walk_at "ix" | walk_at "ixt" | walk_at "len" | fail "g"))
local macro_rules | `(tactic| walk_at "if") => `(tactic| refine ite2 (fun e => ?_) (fun e => ?_))
section
variable {P : Program} {w : World} {K : PySem.W.Frag} {mg : Str → Option Value} {base : Heap}
theorem okb_coarse (T : Txt K mg) : FnOk P w K mg base (L2.CX P w) 11 T.f_coarsest T.d_coarsest ["keys", "menu"] (sp_badM K T.C_BadRow) := by
  have G_check_rows := okd_rowsT (P := P) (w := w) (base := base) T
  have G_faithful := ok_faithful (P := P) (w := w) (base := base) T
  have G__is_beneath := ok_ben (P := P) (w := w) (base := base) T
  refine T.F_coarsest.okX sc_coarsest (fun vs H Q E h => ?_) (fun cdv A outer s H vs Q E hr h => ?_)
  · obtain ⟨_, _, _, _, _, _, rfl, _⟩ := h
    rfl
  · obtain ⟨k, m, xs, bs, d, M, rfl, hS, hI, hd, q⟩ := h
    refine ⟨_, (pss_cons (ps_expr (pe_callS G_check_rows (hr.mono (by omega)) (by rfl) T.g_check_rows T.F_check_rows.kp T.b_check_rows (fun σ => passAt (takes_of rfl rfl rfl rfl) σ) (pa_cons (pv 1) pa_nil)))
      (pss_cons (ps_set (i := 2) sc_coarsest.nd rfl (Or.inr rfl) (pe_lc (own := [("place", 3), ("key", 4)]) (g := gTup K 2 (gCons (gName 3) (gCons (gName 4) gNil)))  (by rfl) sc_coarsest.nd (pi_enumK (K := K) rfl (by rfl) T.m_enumerate (pa_cons (pv 0) pa_nil)) (blkOk_by (own := [("place", 3), ("key", 4)]) (N := ["keys", "menu", "places", "place", "key", "other"]) (sc := defScope s_coarsest) (by decide +kernel)) (fun _ _ _ _ _ => (pg_tupK (K := K) rfl rfl (pgs_cons (pg_name (i := 3) sc_coarsest.nd rfl (Or.inl rfl)) (pgs_cons (pg_name (i := 4) sc_coarsest.nd rfl (Or.inl rfl)) pgs_nil)))) (fun _ _ _ _ _ => (pts_one (pt_cmpR op_isN (pe_call G_faithful (hr.mono (by omega)) (by rfl) T.g_faithful T.F_faithful.kp T.b_faithful .nil pass0 (pa_cons (pv 4) (pa_cons (pv 1) pa_nil))) pe_non (nomark _)))) (fun _ _ _ _ _ => (pv 3))))
      (pss_one (ps_ret (pe_lc (own := [("place", 3)]) (g := gName 3)  (by rfl) sc_coarsest.nd (pi_listK (K := K) rfl (pv 2)) (blkOk_by (own := [("place", 3)]) (N := ["keys", "menu", "places", "place", "key", "other"]) (sc := defScope s_coarsest) (by decide +kernel)) (fun _ _ _ _ _ => (pg_name (i := 3) sc_coarsest.nd rfl (Or.inr rfl))) (fun _ _ _ _ _ => (pts_one (pt_not (pt_val (pe_callB (cr_anyK (K := K) rfl rfl) (by rfl) T.m_any (by decide +kernel) (pa_cons (pe_lc (own := [("other", 5)]) (g := gName 5) (tt := tYes) (by rfl) sc_coarsest.nd (pi_listK (K := K) rfl (pv 2)) (blkOk_by (own := [("other", 5)]) (N := ["keys", "menu", "places", "place", "key", "other"]) (sc := { kind := .function, names := [(PySem.Str.ofString ".0", PySem.NameKind.local), (PySem.Str.ofString "place", PySem.NameKind.cell), (PySem.Str.ofString "any", PySem.NameKind.globalImplicit), (PySem.Str.ofString "keys", PySem.NameKind.cell), (PySem.Str.ofString "places", PySem.NameKind.cell)], isGenerator := false, isCoroutine := false }) (by decide +kernel)) (fun _ _ _ _ _ => (pg_name (i := 5) sc_coarsest.nd rfl (Or.inl rfl))) (fun _ _ _ _ _ => pts_nil) (fun _ _ _ _ _ => (pe_call G__is_beneath (hr.mono (by omega)) (by rfl) T.g__is_beneath T.F__is_beneath.kp T.b__is_beneath .nil pass0 (pa_cons (pe_ix (ix_listK (K := K) rfl) (pv 0) (pv 5) (fun _ _ => rfl)) (pa_cons (pe_ix (ix_listK (K := K) rfl) (pv 0) (pv 3) (fun _ _ => rfl)) pa_nil))))) pa_nil)))))) (fun _ _ _ _ _ => (pv 3))))))), ?_⟩
    walk_at "g"
    refine ⟨m, xs, bs, M, rfl, hS, hI, fun d1 e1 H1 v1 dd s1 r1 hd1 => ?_, fun z => by rw [hd] at z; cases z⟩
    rw [hd] at e1
    cases e1
    exact q _ _ _ s1 r1 hd1
end
end D


namespace D
open PySem PySem.Spec PyProof.Rows L2
local macro_rules | `(tactic| walk_at "st") => `(tactic| first | exact SqT.of (by assumption) | exact Or.inl (by assumption) | exact SqT.of upd_same | fail "st")
local macro_rules | `(tactic| walk_at "ixt") => `(tactic| refine ⟨_, _, _, _, rfl, rfl, (by walk_at "st" : SqT _ _ _ _), by rfl, ?_⟩)
local macro_rules | `(tactic| walk_at "sq") => `(tactic| first | exact SqL.of (by assumption) | assumption | exact Or.inl (by assumption) | exact SqL.of upd_same | fail "sq")
local macro_rules | `(tactic| walk_at "ix") => `(tactic| refine ⟨_, _, _, _, rfl, rfl, (by walk_at "sq" : SqL _ _ _ _), by rfl, ?_⟩)
local macro_rules | `(tactic| walk_at "set") => `(tactic| refine ⟨_, _, _, _, rfl, rfl, by first | assumption | exact upd_same, by rfl, ?_⟩)
local macro_rules | `(tactic| walk_at "len") => `(tactic| refine ⟨_, _, rfl, Or.inl (by walk_at "sq" : SqL _ _ _ _), ?_⟩)
local macro_rules | `(tactic| walk_at "g") => `(tactic| repeat (first | refine ⟨_, rfl, ?_⟩ | refine ⟨_, _, rfl, rfl, ?_⟩ | refine ⟨Or.inr (by decide), ?_⟩ | refine ⟨Or.inl (by decide), ?_⟩ | refine ⟨(by decide : (0 : Int) < _), ?_⟩ | refine ⟨(⟨by decide, by decide⟩ : CDiv _ _), ?_⟩ | refine ⟨(⟨by decide, by decide, by decide⟩ : CPow _ _), ?_⟩ | refine Or.inl ⟨_, rfl, ?_⟩ | refine ⟨rfl, ?_⟩ | walk_at "ix" | walk_at "ixt" | walk_at "len" | fail "g"))
local macro_rules | `(tactic| walk_at "if") => `(tactic| refine ite2 (fun e => ?_) (fun e => ?_))
section
variable {P : Program} {w : World} {K : PySem.W.Frag} {mg : Str → Option Value} {base : Heap}
def namesD (ns : List Str) : PyData := .list (ns.map PyData.str)
def sp_form (K : PySem.W.Frag) (n : Nat) : Sp := fun vs H Q _ => ∃ (b : Addr) (v : V) (lv : Int) (ns : List Str) (M : Ms), vs = [.ref b, v, .int lv] ∧ Bag K M H b ∧ Mk M H ∧ Rp M H v (namesD ns) ∧ ns ≠ [] ∧ ns.length < 1000000 ∧ 1 ≤ lv ∧ lv ≤ n ∧
  Dr K M b H (fun x => ∃ f : Fm, x = f.enc ∧ (f.dep : Int) ≤ lv ∧ f.ok (· ∈ ns)) Q
theorem ok_form (T : Txt K mg) : ∀ n, FnOk P w K mg base CX0 (n + 3) T.f__law_form T.d__law_form ["_law_bag_here", "_law_readable", "_law_levels"] (sp_form K n) := by
  intro n
  induction n with
  | zero =>
    refine T.F__law_form.ok sc__law_form (fun vs H Q E h => ?_) (fun cdv A outer s H vs Q E hr h => ?_)
    · obtain ⟨_, _, _, _, _, _, _, _, _, _, _, h1, h2, _⟩ := h
      omega
    · obtain ⟨_, _, _, _, _, _, _, _, _, _, _, h1, h2, _⟩ := h
      omega
  | succ n ih =>
  have G__law_pick := ok_pick (P := P) (w := w) (base := base) T
  have G__law_choice := ok_choice (P := P) (w := w) (base := base) T
  have G__law_form := ih
  refine T.F__law_form.ok sc__law_form (fun vs H Q E h => ?_) (fun cdv A outer s H vs Q E hr h => ?_)
  · obtain ⟨_, _, _, _, _, rfl, _⟩ := h
    rfl
  · obtain ⟨b, v, lv, ns, M, rfl, hB, hM, hR, hne, hl, hlv1, hlv, q⟩ := h
    obtain ⟨a, xs, rfl, na, ha, rx⟩ := Rp.lstN hR
    have ex := rx.ofStrs
    subst ex
    have hpos : 0 < ns.length := List.length_pos_iff.mpr hne
    have hab : a ≠ b := fun z => na (by rw [z]; exact hB.w)
    have fin : ∀ (f : Fm) (H2 : Hp) (p : Addr) (us : List V), Sx (one b) H H2 → Gr H H2 → Bag K M H2 b → H2 p = none → FmAt M (upd H2 p (.tup us)) f us → (f.dep : Int) ≤ lv → f.ok (· ∈ ns) → Q (.ref p) (upd H2 p (.tup us)) := fun f H2 p us s g hB2 hp hf hd ho =>
      q _ _ f.enc (s.trans (Sx.new hp)) (g.trans Gr.upd) (hB2.same (same_new hp)) (hf.rp ((hM.gr g).out hp) (.inl upd_same)) ⟨f, rfl, hd, ho⟩
    refine ⟨_, (pss_cons (ps_set (i := 3) sc__law_form.nd rfl (Or.inl rfl) (pe_call G__law_pick (hr.mono (by omega)) (by rfl) T.g__law_pick T.F__law_pick.kp T.b__law_pick .nil pass0 (pa_cons (pv 0) (pa_cons pe_int pa_nil))))
      (pss_cons (ps_if (PW.pt (pw_or (pt_cmpR op_le (pv 2) pe_int (nomark _)) (pw_or1 (pt_cmpR op_lt (pv 3) pe_int (nomark _))))) (pss_cons (ps_if (PW.pt (pw_or (pt_not (pt_truthK (K := K) rfl (pv 1) (by intro _; rfl))) (pw_or1 (PW.pt (pw_and (pt_cmpR op_eq (pv 3) pe_int (nomark _)) (pw_and1 (pt_cmpR op_eq (pe_call G__law_pick (hr.mono (by omega)) (by rfl) T.g__law_pick T.F__law_pick.kp T.b__law_pick .nil pass0 (pa_cons (pv 0) (pa_cons pe_int pa_nil))) pe_int (nomark _)))))))) (pss_one (ps_ret (pe_tup (pa_cons pe_str (pa_cons (pe_call G__law_pick (hr.mono (by omega)) (by rfl) T.g__law_pick T.F__law_pick.kp T.b__law_pick .nil pass0 (pa_cons (pv 0) (pa_cons pe_int pa_nil))) pa_nil))))) pss_nil)
      (pss_one (ps_ret (pe_tup (pa_cons pe_str (pa_cons (pe_call G__law_choice (hr.mono (by omega)) (by rfl) T.g__law_choice T.F__law_choice.kp T.b__law_choice .nil pass0 (pa_cons (pv 0) (pa_cons (pv 1) pa_nil))) pa_nil)))))) pss_nil)
      (pss_cons (ps_set (i := 4) sc__law_form.nd rfl (Or.inl rfl) (pe_call G__law_form (hr.mono (by omega)) (by rfl) T.g__law_form T.F__law_form.kp T.b__law_form .nil pass0 (pa_cons (pv 0) (pa_cons (pv 1) (pa_cons (pe_op op_sub (pv 2) pe_int) pa_nil)))))
      (pss_cons (ps_set (i := 5) sc__law_form.nd rfl (Or.inl rfl) (pe_call G__law_form (hr.mono (by omega)) (by rfl) T.g__law_form T.F__law_form.kp T.b__law_form .nil pass0 (pa_cons (pv 0) (pa_cons (pv 1) (pa_cons (pe_op op_sub (pv 2) pe_int) pa_nil)))))
      (pss_cons (ps_if (pt_cmpR op_lt (pv 3) pe_int (nomark _)) (pss_one (ps_ret (pe_tup (pa_cons (pe_ix (ix_listK (K := K) rfl) (pe_lst (pa_cons pe_str (pa_cons pe_str (pa_cons pe_str pa_nil)))) (pe_op op_sub (pv 3) pe_int) (fun _ _ => rfl)) (pa_cons (pv 4) (pa_cons (pv 5) pa_nil)))))) pss_nil)
      (pss_one (ps_ret (pe_tup (pa_cons pe_str (pa_cons (pv 4) (pa_cons (pv 5) (pa_cons (pe_call G__law_form (hr.mono (by omega)) (by rfl) T.g__law_form T.F__law_form.kp T.b__law_form .nil pass0 (pa_cons (pv 0) (pa_cons (pv 1) (pa_cons (pe_op op_sub (pv 2) pe_int) pa_nil)))) pa_nil)))))))))))), ?_⟩
    walk_at "g"
    refine ⟨b, _, M, rfl, hB, by omega, by omega, fun way H1 h0 h1 hA1 hB1 => ?_⟩
    have g1 := At.gr hA1 hB1.there
    walk_at "g"
    have sM1 : Sx M H H1 := hA1.sx.le (one_le hB.w)
    have rest : ∀ f4 f5 : Fm, (f4.dep : Int) ≤ lv - 1 → (f5.dep : Int) ≤ lv - 1 → ((max f4.dep f5.dep + 1 : Nat) : Int) ≤ lv := fun f4 f5 h4 h5 => by omega
    have rest3 : ∀ f4 f5 f6 : Fm, (f4.dep : Int) ≤ lv - 1 → (f5.dep : Int) ≤ lv - 1 → (f6.dep : Int) ≤ lv - 1 → ((max f4.dep (max f5.dep f6.dep) + 1 : Nat) : Int) ≤ lv := fun f4 f5 f6 h4 h5 h6 => by omega
    have hw := hB.w
    refine ite2 (fun c1 => ?_) (fun c1 => ?_)
    rotate_left 1
    · walk_at "g"
      have c1' : ¬ lv ≤ 1 := fun z => c1 (decide_eq_true z)
      refine ite2 (fun c2 => ?_) (fun c2 => ?_)
      rotate_left 1
      · have c2' : ¬ way < 3 := fun z => c2 (decide_eq_true z)
        walk_at "g"
        refine ⟨b, .ref a, _, ns, M, rfl, hB1, hM.gr g1, hR.sx sM1, hne, hl, by omega, by omega, fun v4 H2 d4 s2 g2 hB2 hR4 hd4 => ?_⟩
        obtain ⟨f4, rfl, l4, o4⟩ := hd4
        have sM2 : Sx M H1 H2 := s2.le (one_le hw)
        walk_at "g"
        refine ⟨b, .ref a, _, ns, M, rfl, hB2, hM.gr (g1.trans g2), hR.sx (sM1.trans sM2), hne, hl, by omega, by omega, fun v5 H3 d5 s3 g3 hB3 hR5 hd5 => ?_⟩
        obtain ⟨f5, rfl, l5, o5⟩ := hd5
        have sM3 : Sx M H2 H3 := s3.le (one_le hw)
        have hR4' := hR4.sx sM3
        walk_at "g"
        walk_at "if"
        · rename_i c3
          have c3' : way < 6 := of_decide_eq_true c3
          have sf : ∀ p o, H3 p = none → Sx (one b) H (upd H3 p o) := fun p o hp => hA1.sx.trans (s2.trans (s3.trans (Sx.new hp)))
          have gf : ∀ p o, Gr H (upd H3 p o) := fun p o => g1.trans (g2.trans (g3.trans Gr.upd))
          obtain e | e | e : way = 3 ∨ way = 4 ∨ way = 5 := by omega
          all_goals
            subst e
            walk_at "g"
            refine ⟨szK rfl, fun p hp => ?_⟩
            walk_at "g"
            refine ⟨szK rfl, fun p2 hp2 => ?_⟩
          · exact fin (.sum f4 f5) _ p2 _ (sf _ _ hp) (gf _ _) (hB3.same (same_new hp)) hp2 (.sum ((hR4'.sx (Sx.new hp)).sx (Sx.new hp2)) ((hR5.sx (Sx.new hp)).sx (Sx.new hp2))) (rest f4 f5 l4 l5) ⟨o4, o5⟩
          · exact fin (.sum f4 f5) _ p2 _ (sf _ _ hp) (gf _ _) (hB3.same (same_new hp)) hp2 (.sum ((hR4'.sx (Sx.new hp)).sx (Sx.new hp2)) ((hR5.sx (Sx.new hp)).sx (Sx.new hp2))) (rest f4 f5 l4 l5) ⟨o4, o5⟩
          · exact fin (.same f4 f5) _ p2 _ (sf _ _ hp) (gf _ _) (hB3.same (same_new hp)) hp2 (.same ((hR4'.sx (Sx.new hp)).sx (Sx.new hp2)) ((hR5.sx (Sx.new hp)).sx (Sx.new hp2))) (rest f4 f5 l4 l5) ⟨o4, o5⟩
        · walk_at "g"
          refine ⟨b, .ref a, _, ns, M, rfl, hB3, hM.gr (g1.trans (g2.trans g3)), hR.sx (sM1.trans (sM2.trans sM3)), hne, hl, by omega, by omega, fun v6 H4 d6 s4 g4 hB4 hR6 hd6 => ?_⟩
          obtain ⟨f6, rfl, l6, o6⟩ := hd6
          have sM4 : Sx M H3 H4 := s4.le (one_le hw)
          refine ⟨szK rfl, fun p2 hp2 => ?_⟩
          exact fin (.pick f4 f5 f6) _ p2 _ (hA1.sx.trans (s2.trans (s3.trans s4))) (g1.trans (g2.trans (g3.trans g4))) hB4 hp2 (.pick ((hR4'.sx sM4).sx (Sx.new hp2)) ((hR5.sx sM4).sx (Sx.new hp2)) (hR6.sx (Sx.new hp2))) (rest3 f4 f5 f6 l4 l5 l6) ⟨o4, o5, o6⟩
      walk_at "g"
      have hS1 : SqL K H1 a (ns.map V.str) := sx_l hA1.sx (fun z : a = b => hab z) (.inl ha)
      refine ⟨true, .inl ⟨ns.map V.str, hS1, by cases ns with | nil => exact absurd rfl hne | cons _ _ => rfl⟩, ?_⟩
      walk_at "g"
      have one_lv : ((1 : Nat) : Int) ≤ lv := by omega
      have get : ∀ H2, At b H1 H2 → Bag K M H2 b → Gr H H2 → sp_choice K ([.ref b, .ref a] ++ []) H2 (fun v H3 => [V.str sGet, v].length ≤ sizeLine ∧ ∀ p, H3 p = none → Q (.ref p) (upd H3 p (.tup [.str sGet, v]))) E0 := fun H2 hA2 hB2 g2 => by
        refine ⟨b, a, _, M, rfl, hB2, sx_l hA2.sx (fun z : a = b => hab z) hS1, hab, by rw [List.length_map]; exact hpos, by rw [List.length_map]; exact hl, fun v H3 hv hA3 hB3 => ?_⟩
        obtain ⟨x, hx, rfl⟩ := List.mem_map.mp hv
        refine ⟨szK rfl, fun p hp => ?_⟩
        exact fin (.get x) _ p _ (hA1.sx.trans (hA2.sx.trans hA3.sx)) (g2.trans (At.gr hA3 hB3.there)) hB3 hp (.get x) one_lv hx
      walk_at "if"
      · walk_at "g"
        refine ⟨b, _, M, rfl, hB1, by omega, by omega, fun w2 H2 k0 k1 hA2 hB2 => ?_⟩
        walk_at "g"
        have g2 := g1.trans (At.gr hA2 hB2.there)
        walk_at "if"
        · walk_at "g"
          refine ⟨b, _, M, rfl, hB2, by omega, by omega, fun w3 H3 m0 m1 hA3 hB3 => ?_⟩
          refine ⟨szK rfl, fun p hp => ?_⟩
          exact fin (.is w3) _ p _ (hA1.sx.trans (hA2.sx.trans hA3.sx)) (g2.trans (At.gr hA3 hB3.there)) hB3 hp (.is _) one_lv ⟨m0, by omega⟩
        · walk_at "g"
          exact get H2 hA2 hB2 g2
      · walk_at "g"
        exact get H1 (fun _ _ => rfl) hB1 g1
    walk_at "g"
    have hS1 : SqL K H1 a (ns.map V.str) := sx_l hA1.sx (fun z : a = b => hab z) (.inl ha)
    refine ⟨true, .inl ⟨ns.map V.str, hS1, by cases ns with | nil => exact absurd rfl hne | cons _ _ => rfl⟩, ?_⟩
    walk_at "g"
    have one_lv : ((1 : Nat) : Int) ≤ lv := by omega
    have get : ∀ H2, At b H1 H2 → Bag K M H2 b → Gr H H2 → sp_choice K ([.ref b, .ref a] ++ []) H2 (fun v H3 => [V.str sGet, v].length ≤ sizeLine ∧ ∀ p, H3 p = none → Q (.ref p) (upd H3 p (.tup [.str sGet, v]))) E0 := fun H2 hA2 hB2 g2 => by
      refine ⟨b, a, _, M, rfl, hB2, sx_l hA2.sx (fun z : a = b => hab z) hS1, hab, by rw [List.length_map]; exact hpos, by rw [List.length_map]; exact hl, fun v H3 hv hA3 hB3 => ?_⟩
      obtain ⟨x, hx, rfl⟩ := List.mem_map.mp hv
      refine ⟨szK rfl, fun p hp => ?_⟩
      exact fin (.get x) _ p _ (hA1.sx.trans (hA2.sx.trans hA3.sx)) (g2.trans (At.gr hA3 hB3.there)) hB3 hp (.get x) one_lv hx
    walk_at "if"
    · walk_at "g"
      refine ⟨b, _, M, rfl, hB1, by omega, by omega, fun w2 H2 k0 k1 hA2 hB2 => ?_⟩
      walk_at "g"
      have g2 := g1.trans (At.gr hA2 hB2.there)
      walk_at "if"
      · walk_at "g"
        refine ⟨b, _, M, rfl, hB2, by omega, by omega, fun w3 H3 m0 m1 hA3 hB3 => ?_⟩
        refine ⟨szK rfl, fun p hp => ?_⟩
        exact fin (.is w3) _ p _ (hA1.sx.trans (hA2.sx.trans hA3.sx)) (g2.trans (At.gr hA3 hB3.there)) hB3 hp (.is _) one_lv ⟨m0, by omega⟩
      · walk_at "g"
        exact get H2 hA2 hB2 g2
    · walk_at "g"
      exact get H1 (fun _ _ => rfl) hB1 g1
end
end D

namespace D
open PySem PySem.Spec PyProof.Rows L2
local macro_rules | `(tactic| walk_at "st") => `(tactic| first | exact SqT.of (by assumption) | exact Or.inl (by assumption) | exact SqT.of upd_same | fail "st")
local macro_rules | `(tactic| walk_at "ixt") => `(tactic| refine ⟨_, _, _, _, rfl, rfl, (by walk_at "st" : SqT _ _ _ _), by rfl, ?_⟩)
local macro_rules | `(tactic| walk_at "sq") => `(tactic| first | exact SqL.of (by assumption) | assumption | exact Or.inl (by assumption) | exact SqL.of upd_same | fail "sq")
local macro_rules | `(tactic| walk_at "ix") => `(tactic| refine ⟨_, _, _, _, rfl, rfl, (by walk_at "sq" : SqL _ _ _ _), by rfl, ?_⟩)
local macro_rules | `(tactic| walk_at "set") => `(tactic| refine ⟨_, _, _, _, rfl, rfl, by first | assumption | exact upd_same, by rfl, ?_⟩)
local macro_rules | `(tactic| walk_at "len") => `(tactic| refine ⟨_, _, rfl, Or.inl (by walk_at "sq" : SqL _ _ _ _), ?_⟩)
local macro_rules | `(tactic| walk_at "g") => `(tactic| repeat (first | refine ⟨_, rfl, ?_⟩ | refine ⟨_, _, rfl, rfl, ?_⟩ | refine ⟨Or.inr (by decide), ?_⟩ | refine ⟨Or.inl (by decide), ?_⟩ | refine ⟨(by decide : (0 : Int) < _), ?_⟩ | refine ⟨(⟨by decide, by decide⟩ : CDiv _ _), ?_⟩ | refine ⟨(⟨by decide, by decide, by decide⟩ : CPow _ _), ?_⟩ | refine Or.inl ⟨_, rfl, ?_⟩ | refine ⟨rfl, ?_⟩ | walk_at "ix" | walk_at "ixt" | walk_at "len" | fail "g"))
local macro_rules | `(tactic| walk_at "if") => `(tactic| refine ite2 (fun e => ?_) (fun e => ?_))
section
variable {P : Program} {w : World} {K : PySem.W.Frag} {mg : Str → Option Value} {base : Heap}
/-- the class of a caught error -/
theorem exm_own {K : PySem.W.Frag} {D C : Addr} {b : Bool} (be : PySem.W.subIn K (.ref C) (.type "BaseException") = some true) (hd : PySem.W.hasDictIn K C = true) (ty : PySem.W.typeIn K (.ref C) = some (.type "type")) (h : PySem.W.subIn K (.ref D) (.ref C) = some b) : PySem.W.exmOne K (.ref D) (.ref C) = some b := by
  obtain ⟨cd, hc, _⟩ := PySem.W.any_some hd
  unfold PySem.W.exmOne
  rw [if_pos (by rw [be]; rfl)]
  show (if ((PySem.W.clsIn K C).isSome && PySem.W.typeIn K (.ref C) == some (.type "type")) = true then PySem.W.subIn K (.ref D) (.ref C) else none) = some b
  rw [if_pos (by rw [hc, ty]; rfl), h]
theorem kit_any2 {K : PySem.W.Frag} {D A B : Addr} (h1 : PySem.W.kitOne K (.ref D) (.ref A) = some false) (h2 : PySem.W.kitOne K (.ref D) (.ref B) = some false) : PySem.W.kitAny K (.ref D) ([A, B].map Value.ref) = some false := by
  unfold PySem.W.kitAny
  dsimp only [List.map]
  rw [h1]
  unfold PySem.W.kitAny
  dsimp only [List.map]
  rw [h2]
  rfl
def sBadForm : Str := Str.ofString "BadForm"
def sNoName : Str := Str.ofString "NoName"
def sGood : Str := Str.ofString "good"
inductive Outc (n0 : Nat) (d : PyData) : Str → PyData → Prop
  | bad {p : PyData} : fbF n0 d = some p → Outc n0 d sBadForm p
  | high : fbF n0 d = none → 5 < depF n0 d → Outc n0 d sBadForm d
  | nn {f : Fm} {x : Str} : d = f.enc → f.ok isNm → f.dep ≤ 5 → f.dep ≤ n0 → strange f.names = some x → Outc n0 d sNoName (.str x)
  | good {f : Fm} : d = f.enc → f.ok isKN → f.dep ≤ 5 → f.dep ≤ n0 → strange f.names = none → Outc n0 d sGood d
def sp_told : Sp := fun vs H Q _ => ∃ (v : V) (d : PyData) (M : Ms) (n0 : Nat) (wd : Str) (e : PyData), vs = [v] ∧ Rp M H v d ∧ Mk M H ∧ okF n0 d ∧ n0 ≤ 7 ∧ Outc n0 d wd e ∧ Gd 100000 30 e ∧ ∀ v' H', Same H H' → Rp M H' v' (.tuple [.str wd, .str e.shown]) → Q v' H'
theorem ok_told (T : Txt K mg) (U : TManyA K mg w) : FnG P w K mg base CX0 10 T.f__law_key_told T.d__law_key_told ["_law_form_here"] sp_told := by
  have G_Key___init__ := okd_key (P := P) (w := w) (base := base) T U
  have G_Key_parts := ok_parts (P := P) (w := w) (base := base) T
  refine Fun.okG T.F__law_key_told sc__law_key_told (fun vs H Q E h => ?_) (fun cdv A outer s H vs Q E gd hr h => ?_)
  · obtain ⟨_, _, _, _, _, _, rfl, _⟩ := h
    rfl
  · obtain ⟨v, d, M, n0, wd, e, rfl, hR, hM, ho, hn, hout, hge, q⟩ := h
    refine ⟨_, (pss_cons (ps_try_as (i := 2) rfl rfl sc__law_key_told.nd rfl rfl ⟨rfl, by decide, .inl T.g_ScreenError⟩ takes0 (fun W pn xe tk _ => (pss_one (ps_set (i := 1) sc__law_key_told.nd rfl (Or.inl rfl) (pe_makeS ⟨T.mk_Key, T.a_Key___init__, T.i_Key___init__, T.kc_Key⟩ G_Key___init__ (hr.mono (by omega)) (by rfl) T.g_Key T.b_Key___init__ .nil (fun σ => passAt tk σ) (pa_cons (pv 0) pa_nil))))) (fun a oe cls d pn hz hf => (pss_cons (ps_if (PW.pt (pw_and (pt_val (pe_callB (call_isX hz hf) (by rfl) T.m_isinstance (by decide +kernel) (pa_cons (pv 2) (pa_cons (pe_glob (v := .ref T.C_BadForm) rfl T.g_BadForm rfl) pa_nil)))) (pw_and (pt_val (pe_callB (call_isX hz hf) (by rfl) T.m_isinstance (by decide +kernel) (pa_cons (pv 2) (pa_cons (pe_bltn (v := .ty "ValueError") (u := .type "ValueError") (by rfl) T.m_ValueError (by decide +kernel) rfl) pa_nil)))) (pw_and1 (pt_not (pt_val (pe_callB (call_isXT hz hf) (by rfl) T.m_isinstance (by decide +kernel) (pa_cons (pv 2) (pa_cons (pe_tup (pa_cons (pe_glob (v := .ref T.C_NoName) rfl T.g_NoName rfl) (pa_cons (pe_glob (v := .ref T.C_BadRow) rfl T.g_BadRow rfl) pa_nil))) pa_nil))))))))) (pss_one (ps_ret (pe_tup (pa_cons pe_str (pa_cons (pe_callB (call_reprVK (K := K) rfl gd (have z := un200 hr; z)) (by rfl) T.m_repr (by decide +kernel) (pa_cons (pe_xf T.xf_BadForm T.nf_BadForm_part hz hf (pv 2)) pa_nil)) pa_nil))))) pss_nil)
      (pss_cons (ps_if (PW.pt (pw_and (pt_val (pe_callB (call_isX hz hf) (by rfl) T.m_isinstance (by decide +kernel) (pa_cons (pv 2) (pa_cons (pe_glob (v := .ref T.C_NoName) rfl T.g_NoName rfl) pa_nil)))) (pw_and (pt_val (pe_callB (call_isX hz hf) (by rfl) T.m_isinstance (by decide +kernel) (pa_cons (pv 2) (pa_cons (pe_bltn (v := .ty "ValueError") (u := .type "ValueError") (by rfl) T.m_ValueError (by decide +kernel) rfl) pa_nil)))) (pw_and1 (pt_not (pt_val (pe_callB (call_isXT hz hf) (by rfl) T.m_isinstance (by decide +kernel) (pa_cons (pv 2) (pa_cons (pe_tup (pa_cons (pe_glob (v := .ref T.C_BadForm) rfl T.g_BadForm rfl) (pa_cons (pe_glob (v := .ref T.C_BadRow) rfl T.g_BadRow rfl) pa_nil))) pa_nil))))))))) (pss_one (ps_ret (pe_tup (pa_cons pe_str (pa_cons (pe_callB (call_reprVK (K := K) rfl gd (have z := un200 hr; z)) (by rfl) T.m_repr (by decide +kernel) (pa_cons (pe_xf T.xf_NoName T.nf_NoName_name hz hf (pv 2)) pa_nil)) pa_nil))))) pss_nil)
      (pss_one (ps_ret (pe_tup (pa_cons pe_str (pa_cons pe_str pa_nil)))))))))
      (pss_one (ps_ret (pe_tup (pa_cons pe_str (pa_cons (pe_callB (call_reprV gd (un200 hr)) (by rfl) T.m_repr (by decide +kernel) (pa_cons (pe_prop (pv 1) T.cl_Key T.P_Key_parts G_Key_parts (hr.mono (by omega)) T.b_Key_parts .nil pass0 rfl) pa_nil)) pa_nil)))))), ?_⟩
    have Z := fun (x dx : Addr) (hx : H x = none) (hdx : H dx = none) (hne : dx ≠ x) => (same_new (o := .own x) hdx).trans (same_new (p := x) (o := .ins T.C_Key dx []) (by rw [upd_ne (fun z => hne z.symm)]; exact hx))
    have SH := hge.showing (by omega) (by omega)
    cases hout with
    | bad hp =>
      walk_at "g"
      intro x dx hx hdx hne
      have SA := Z x dx hx hdx hne
      refine ⟨x, dx, v, d, M, n0, rfl, upd_same, hR.sx (Sx.same SA), hM.gr (Gr.same SA), ho, hn, fun p hp2 H' vp dd s' r' hd' => ?_, fun z => (by rw [hp] at z; cases z), fun z => (by rw [hp] at z; cases z)⟩
      rw [hp] at hp2
      cases hp2
      refine ⟨true, exm_own T.be_ScreenError T.hd_ScreenError T.ty_ScreenError T.s_BadForm_ScreenError, fun _ ex hex => ?_, fun z => by cases z⟩
      have sd : Same H' (upd H' dd (.xd [(sPart, vp)])) := same_new hd'
      have ed0 : upd H' dd (.xd [(sPart, vp)]) dd = some (.xd [(sPart, vp)]) := upd_same
      have rd0 := r'.sx (Sx.same (M := M) sd)
      have hM2 : Mk M (upd H' dd (.xd [(sPart, vp)])) := (hM.gr (Gr.same (SA.trans s'))).gr (Gr.same sd)
      generalize upd H' dd (.xd [(sPart, vp)]) = H2 at sd ed0 rd0 hM2
      walk_at "g"
      refine ⟨T.C_BadForm, dd, _, .ref T.C_BadForm, .ref T.C_BadForm, true, rfl, rfl, T.is_BadForm, ed0, rfl, fun u r => r, kit_self, ?_⟩
      walk_at "g"
      refine ⟨T.C_BadForm, dd, _, .ty "ValueError", .type "ValueError", true, rfl, rfl, T.is_BadForm, ed0, rfl, fun u r => r, kit_ty2 (by decide +kernel) T.vb_BadForm, ?_⟩
      walk_at "g"
      refine ⟨szK rfl, fun p3 hp3 => ?_⟩
      have s3 : Same H2 (upd H2 p3 (.tup [.ref T.C_NoName, .ref T.C_BadRow])) := same_new hp3
      have ed3 := s3 _ _ ed0
      refine ⟨T.C_BadForm, dd, p3, _, [T.C_NoName, T.C_BadRow], false, rfl, rfl, T.is_BadForm, ed3, rfl, upd_same, ?_, ?_⟩
      · exact kit_any2 (kit_err T.hd_NoName T.ty_NoName T.ne_BadForm_NoName T.s_BadForm_NoName) (kit_err T.hd_BadRow T.ty_BadRow T.ne_BadForm_BadRow T.s_BadForm_BadRow)
      have rd3 := rd0.sx (Sx.same (M := M) s3)
      have hM3 := hM2.gr (Gr.same s3)
      generalize upd H2 p3 (.tup [.ref T.C_NoName, .ref T.C_BadRow]) = H3 at s3 ed3 rd3 hM3
      walk_at "g"
      refine ⟨dd, _, _, rfl, ed3, rfl, ?_⟩
      refine ⟨_, _, rfl, Rp.dp (K := K) _ _ rd3, SH.1, SH.2.1, SH.2.2.1, SH.2.2.2, ?_⟩
      refine ⟨szK rfl, fun p4 hp4 => ?_⟩
      exact q _ _ (SA.trans (s'.trans (sd.trans (s3.trans (same_new hp4))))) (Rp.newT hM3 hp4 (.cons (.str _) (.one (.str _))))
    | high hb h5 =>
      walk_at "g"
      intro x dx hx hdx hne
      have SA := Z x dx hx hdx hne
      refine ⟨x, dx, v, d, M, n0, rfl, upd_same, hR.sx (Sx.same SA), hM.gr (Gr.same SA), ho, hn, fun p hp2 => (by rw [hb] at hp2; cases hp2), fun _ _ H' dd s' hd' => ?_, fun _ z => absurd h5 (by omega)⟩
      have r' := hR.sx (Sx.same (M := M) (SA.trans s'))
      refine ⟨true, exm_own T.be_ScreenError T.hd_ScreenError T.ty_ScreenError T.s_BadForm_ScreenError, fun _ ex hex => ?_, fun z => by cases z⟩
      have sd : Same H' (upd H' dd (.xd [(sPart, v)])) := same_new hd'
      have ed0 : upd H' dd (.xd [(sPart, v)]) dd = some (.xd [(sPart, v)]) := upd_same
      have rd0 := r'.sx (Sx.same (M := M) sd)
      have hM2 : Mk M (upd H' dd (.xd [(sPart, v)])) := (hM.gr (Gr.same (SA.trans s'))).gr (Gr.same sd)
      generalize upd H' dd (.xd [(sPart, v)]) = H2 at sd ed0 rd0 hM2
      walk_at "g"
      refine ⟨T.C_BadForm, dd, _, .ref T.C_BadForm, .ref T.C_BadForm, true, rfl, rfl, T.is_BadForm, ed0, rfl, fun u r => r, kit_self, ?_⟩
      walk_at "g"
      refine ⟨T.C_BadForm, dd, _, .ty "ValueError", .type "ValueError", true, rfl, rfl, T.is_BadForm, ed0, rfl, fun u r => r, kit_ty2 (by decide +kernel) T.vb_BadForm, ?_⟩
      walk_at "g"
      refine ⟨szK rfl, fun p3 hp3 => ?_⟩
      have s3 : Same H2 (upd H2 p3 (.tup [.ref T.C_NoName, .ref T.C_BadRow])) := same_new hp3
      have ed3 := s3 _ _ ed0
      refine ⟨T.C_BadForm, dd, p3, _, [T.C_NoName, T.C_BadRow], false, rfl, rfl, T.is_BadForm, ed3, rfl, upd_same, ?_, ?_⟩
      · exact kit_any2 (kit_err T.hd_NoName T.ty_NoName T.ne_BadForm_NoName T.s_BadForm_NoName) (kit_err T.hd_BadRow T.ty_BadRow T.ne_BadForm_BadRow T.s_BadForm_BadRow)
      have rd3 := rd0.sx (Sx.same (M := M) s3)
      have hM3 := hM2.gr (Gr.same s3)
      generalize upd H2 p3 (.tup [.ref T.C_NoName, .ref T.C_BadRow]) = H3 at s3 ed3 rd3 hM3
      walk_at "g"
      refine ⟨dd, _, _, rfl, ed3, rfl, ?_⟩
      refine ⟨_, _, rfl, Rp.dp (K := K) _ _ rd3, SH.1, SH.2.1, SH.2.2.1, SH.2.2.2, ?_⟩
      refine ⟨szK rfl, fun p4 hp4 => ?_⟩
      exact q _ _ (SA.trans (s'.trans (sd.trans (s3.trans (same_new hp4))))) (Rp.newT hM3 hp4 (.cons (.str _) (.one (.str _))))
    | @nn f x0 ed hok hd5 hdn hst =>
      subst ed
      have hb := fm_fbF n0 f hok
      have hdp := fm_depF n0 f hok hdn
      walk_at "g"
      intro x dx hx hdx hne
      have SA := Z x dx hx hdx hne
      refine ⟨x, dx, v, _, M, n0, rfl, upd_same, hR.sx (Sx.same SA), hM.gr (Gr.same SA), ho, hn, fun p hp2 => (by rw [hb] at hp2; cases hp2), fun _ z => absurd z (by omega), fun _ _ => ⟨f, rfl, hok, hd5, fun x1 hx1 H' dd s' hd' => ?_, fun z => (by rw [hst] at z; cases z)⟩⟩
      rw [hst] at hx1
      cases hx1
      have r' : Rp M H' (.str x0) (.str x0) := .str x0
      refine ⟨true, exm_own T.be_ScreenError T.hd_ScreenError T.ty_ScreenError T.s_NoName_ScreenError, fun _ ex hex => ?_, fun z => by cases z⟩
      have sd : Same H' (upd H' dd (.xd [(sName, .str x0)])) := same_new hd'
      have ed0 : upd H' dd (.xd [(sName, .str x0)]) dd = some (.xd [(sName, .str x0)]) := upd_same
      have rd0 := r'.sx (Sx.same (M := M) sd)
      have hM2 : Mk M (upd H' dd (.xd [(sName, .str x0)])) := (hM.gr (Gr.same (SA.trans s'))).gr (Gr.same sd)
      generalize upd H' dd (.xd [(sName, .str x0)]) = H2 at sd ed0 rd0 hM2
      walk_at "g"
      refine ⟨T.C_NoName, dd, _, .ref T.C_BadForm, .ref T.C_BadForm, false, rfl, rfl, T.is_NoName, ed0, rfl, fun u r => r, kit_err T.hd_BadForm T.ty_BadForm T.ne_NoName_BadForm T.s_NoName_BadForm, ?_⟩
      walk_at "g"
      refine ⟨T.C_NoName, dd, _, .ref T.C_NoName, .ref T.C_NoName, true, rfl, rfl, T.is_NoName, ed0, rfl, fun u r => r, kit_self, ?_⟩
      walk_at "g"
      refine ⟨T.C_NoName, dd, _, .ty "ValueError", .type "ValueError", true, rfl, rfl, T.is_NoName, ed0, rfl, fun u r => r, kit_ty2 (by decide +kernel) T.vb_NoName, ?_⟩
      walk_at "g"
      refine ⟨szK rfl, fun p3 hp3 => ?_⟩
      have s3 : Same H2 (upd H2 p3 (.tup [.ref T.C_BadForm, .ref T.C_BadRow])) := same_new hp3
      have ed3 := s3 _ _ ed0
      refine ⟨T.C_NoName, dd, p3, _, [T.C_BadForm, T.C_BadRow], false, rfl, rfl, T.is_NoName, ed3, rfl, upd_same, ?_, ?_⟩
      · exact kit_any2 (kit_err T.hd_BadForm T.ty_BadForm T.ne_NoName_BadForm T.s_NoName_BadForm) (kit_err T.hd_BadRow T.ty_BadRow T.ne_NoName_BadRow T.s_NoName_BadRow)
      have rd3 := rd0.sx (Sx.same (M := M) s3)
      have hM3 := hM2.gr (Gr.same s3)
      generalize upd H2 p3 (.tup [.ref T.C_BadForm, .ref T.C_BadRow]) = H3 at s3 ed3 rd3 hM3
      walk_at "g"
      refine ⟨dd, _, _, rfl, ed3, rfl, ?_⟩
      refine ⟨_, _, rfl, Rp.dp (K := K) _ _ rd3, SH.1, SH.2.1, SH.2.2.1, SH.2.2.2, ?_⟩
      refine ⟨szK rfl, fun p4 hp4 => ?_⟩
      exact q _ _ (SA.trans (s'.trans (sd.trans (s3.trans (same_new hp4))))) (Rp.newT hM3 hp4 (.cons (.str _) (.one (.str _))))
    | @good f ed hok hd5 hdn hst =>
      subst ed
      have hokn := f.ok_imp isKN_nm hok
      have hb := fm_fbF n0 f hokn
      have hdp := fm_depF n0 f hokn hdn
      walk_at "g"
      intro x dx hx hdx hne
      have SA := Z x dx hx hdx hne
      have nx : ¬ M x := hM.out hx
      refine ⟨x, dx, v, _, M, n0, rfl, upd_same, hR.sx (Sx.same SA), hM.gr (Gr.same SA), ho, hn, fun p hp2 => (by rw [hb] at hp2; cases hp2), fun _ z => absurd z (by omega), fun _ _ => ⟨f, rfl, hokn, hd5, fun x1 hx1 => (by rw [hst] at hx1; cases hx1), fun _ H' s' => ⟨rfl, ?_⟩⟩⟩
      have s1 : Same H (upd H' x (.ins T.C_Key dx [(sParts, v)])) := same_put (SA.trans s') hx
      have eK : upd H' x (.ins T.C_Key dx [(sParts, v)]) x = some (.ins T.C_Key dx [(sParts, v)]) := upd_same
      generalize upd H' x (.ins T.C_Key dx [(sParts, v)]) = H2 at s1 eK
      have hK : KeyAt T.C_Key M H2 (.ref x) f := ⟨x, dx, v, rfl, nx, eK, hR.sx (Sx.same s1), hd5, hok⟩
      walk_at "g"
      refine ⟨x, dx, _, rfl, eK, .ref x, f, M, rfl, hK, fun u ru => ?_⟩
      refine ⟨_, _, rfl, Rp.dp (K := K) _ _ ru, SH.1, SH.2.1, SH.2.2.1, SH.2.2.2, ?_⟩
      refine ⟨szK rfl, fun p4 hp4 => ?_⟩
      exact q _ _ (s1.trans (same_new hp4)) (Rp.newT (hM.gr (Gr.same s1)) hp4 (.cons (.str _) (.one (.str _))))
end
end D

namespace D
open PySem PySem.Spec PyProof.Rows L2
local macro_rules | `(tactic| walk_at "st") => `(tactic| first | exact SqT.of (by assumption) | exact Or.inl (by assumption) | exact SqT.of upd_same | fail "st")
local macro_rules | `(tactic| walk_at "ixt") => `(tactic| refine ⟨_, _, _, _, rfl, rfl, (by walk_at "st" : SqT _ _ _ _), by rfl, ?_⟩)
local macro_rules | `(tactic| walk_at "sq") => `(tactic| first | exact SqL.of (by assumption) | assumption | exact Or.inl (by assumption) | exact SqL.of upd_same | fail "sq")
local macro_rules | `(tactic| walk_at "ix") => `(tactic| refine ⟨_, _, _, _, rfl, rfl, (by walk_at "sq" : SqL _ _ _ _), by rfl, ?_⟩)
local macro_rules | `(tactic| walk_at "set") => `(tactic| refine ⟨_, _, _, _, rfl, rfl, by first | assumption | exact upd_same, by rfl, ?_⟩)
local macro_rules | `(tactic| walk_at "len") => `(tactic| refine ⟨_, _, rfl, Or.inl (by walk_at "sq" : SqL _ _ _ _), ?_⟩)
local macro_rules | `(tactic| walk_at "g") => `(tactic| repeat (first | refine ⟨_, rfl, ?_⟩ | refine ⟨_, _, rfl, rfl, ?_⟩ | refine ⟨Or.inr (by decide), ?_⟩ | refine ⟨Or.inl (by decide), ?_⟩ | refine ⟨(by decide : (0 : Int) < _), ?_⟩ | refine ⟨(⟨by decide, by decide⟩ : CDiv _ _), ?_⟩ | refine ⟨(⟨by decide, by decide, by decide⟩ : CPow _ _), ?_⟩ | refine Or.inl ⟨_, rfl, ?_⟩ | refine ⟨rfl, ?_⟩ | walk_at "ix" | walk_at "ixt" | walk_at "len" | fail "g"))
local macro_rules | `(tactic| walk_at "if") => `(tactic| refine ite2 (fun e => ?_) (fun e => ?_))
section
variable {P : Program} {w : World} {K : PySem.W.Frag} {mg : Str → Option Value} {base : Heap}
theorem addN_fold {l acc : List Str} (h : l.Nodup) : l.foldl addN acc = acc ++ l.filter fun x => !decide (x ∈ acc) := by
  induction l generalizing acc with
  | nil => simp
  | cons x r ih =>
    obtain ⟨hx, hr⟩ := List.nodup_cons.mp h
    rw [List.foldl_cons, ih hr]
    unfold addN
    by_cases c : x ∈ acc
    · rw [if_pos c, List.filter_cons, if_neg (by simp [c])]
    · rw [if_neg c, List.filter_cons, if_pos (by simp [c]), List.append_assoc]
      congr 1
      show x :: r.filter _ = _
      congr 1
      apply List.filter_congr
      intro y hy
      have : y ≠ x := fun z => hx (by rw [← z]; exact hy)
      simp [this]
theorem addN_nodup : ∀ (l acc : List Str), acc.Nodup → (l.foldl addN acc).Nodup
  | [], acc, h => h
  | x :: r, acc, h => by
    refine addN_nodup r (addN acc x) ?_
    unfold addN
    split
    · exact h
    · rename_i c
      rw [List.nodup_append]
      exact ⟨h, by simp, fun a ha b hb => by rw [List.mem_singleton.mp hb]; exact fun z => c (by rw [← z]; exact ha)⟩
theorem names_nodup : ∀ f : Fm, f.names.Nodup
  | .is _ => by simp [Fm.names]
  | .get x => by simp [Fm.names]
  | .sum f g => addN_nodup _ _ (addN_nodup _ _ (by simp))
  | .same f g => addN_nodup _ _ (addN_nodup _ _ (by simp))
  | .pick f g k => addN_nodup _ _ (addN_nodup _ _ (addN_nodup _ _ (by simp)))
def addL (acc l : List Str) : List Str := l.foldl addN acc
theorem names_subs (f : Fm) (h : f.subs ≠ []) : f.names = (f.subs.map Fm.names).foldl addL [] := by
  cases f with
  | is n => exact absurd rfl h
  | get x => exact absurd rfl h
  | _ => rfl
def sp_read (n : Nat) : Sp := fun vs H Q _ => ∃ (v : V) (f : Fm) (M : Ms), vs = [v] ∧ Rp M H v f.enc ∧ Mk M H ∧ f.dep ≤ n ∧ n ≤ 5 ∧ ∀ H' p, Same H H' → H p = none → H' p = some (.lst (f.names.map V.str)) → Q (.ref p) H'
theorem ok_read (T : Txt K mg) : ∀ n, FnOk P w K mg base CX0 (n + 1) T.f__law_read T.d__law_read ["_law_form_here"] (sp_read n) := by
  intro n
  induction n with
  | zero =>
    refine T.F__law_read.ok sc__law_read (fun vs H Q E h => ?_) (fun cdv A outer s H vs Q E hr h => ?_)
    · obtain ⟨_, _, _, rfl, _⟩ := h
      rfl
    · obtain ⟨v, f, M, rfl, _, _, hd, _⟩ := h
      exact absurd f.dep_pos (by omega)
  | succ n ih =>
    have G__law_read := ih
    refine T.F__law_read.ok sc__law_read (fun vs H Q E h => ?_) (fun cdv A outer s H vs Q E hr h => ?_)
    · obtain ⟨_, _, _, rfl, _⟩ := h
      rfl
    · obtain ⟨v, f, M, rfl, hR, hM, hd, hn5, q⟩ := h
      refine ⟨_, (pss_cons (ps_if (PW.pt (pw_or (pt_cmpR op_eq (pe_ix (ix_tupK (K := K) rfl) (pv 0) pe_int (fun _ _ => rfl)) pe_str (nomark _)) (pw_or1 (pt_cmpR op_eq (pe_ix (ix_tupK (K := K) rfl) (pv 0) pe_int (fun _ _ => rfl)) pe_str (nomark _))))) (pss_one (ps_ret (pe_ifExp (pt_cmpR op_eq (pe_ix (ix_tupK (K := K) rfl) (pv 0) pe_int (fun _ _ => rfl)) pe_str (nomark _)) (pe_lst pa_nil) (pe_lst (pa_cons (pe_ix (ix_tupK (K := K) rfl) (pv 0) pe_int (fun _ _ => rfl)) pa_nil))))) pss_nil)
      (pss_cons (ps_set (i := 1) sc__law_read.nd rfl (Or.inr rfl) (pe_lst pa_nil))
      (pss_cons (ps_for PassesOwn.never rfl (pi_tupK (K := K) rfl (pe_slice (sl_tupK (K := K) rfl) (pv 0) (po_some pe_int) po_none)) (pg_name (i := 2) sc__law_read.nd rfl (Or.inl rfl)) (pss_one (ps_expr (pe_bmK2 (K := K) rfl PySem.F.plainAttrs_list PySem.F.slot_list_extend PySem.F.type_list_extend mt_extend (pv 1) (pa_cons (pe_lc (own := [("_law_told", 3)]) (g := gName 3)  (by rfl) sc__law_read.nd (pi_listK (K := K) rfl (pe_call G__law_read (hr.mono (by omega)) (by rfl) T.g__law_read T.F__law_read.kp T.b__law_read .nil pass0 (pa_cons (pv 2) pa_nil))) (blkOk_by (own := [("_law_told", 3)]) (N := ["_law_form_here", "_law_out", "_law_part", "_law_told"]) (sc := defScope s__law_read) (by decide +kernel)) (fun _ _ _ _ _ => (pg_name (i := 3) sc__law_read.nd rfl (Or.inl rfl))) (fun _ _ _ _ _ => (pts_one (pt_cmpR (op_notIn_seqK (K := K) rfl) (pv 3) (pv 1) (by rfl)))) (fun _ _ _ _ _ => (pv 3))) pa_nil)))))
      (pss_one (ps_ret (pv 1)))))), ?_⟩
      obtain ⟨a, xs, rfl, na, ha, hx⟩ := id hR.form
      have big : f.subs = [] ∨ ∃ (wd : Str) (ys : List V), xs = .str wd :: ys ∧ decide (V.str wd = V.str (Str.ofString "is")) = false ∧ decide (V.str wd = V.str (Str.ofString "get")) = false ∧ RpAll M H ys (f.subs.map Fm.enc) ∧ f.subs ≠ [] ∧ f.subs.length ≤ 3 := by
        cases hx with
        | is k => exact .inl rfl
        | get x => exact .inl rfl
        | sum r1 r2 => exact .inr ⟨_, _, rfl, by decide +kernel, by decide +kernel, .cons r1 (.one r2), by simp [Fm.subs], by simp [Fm.subs]⟩
        | same r1 r2 => exact .inr ⟨_, _, rfl, by decide +kernel, by decide +kernel, .cons r1 (.one r2), by simp [Fm.subs], by simp [Fm.subs]⟩
        | pick r1 r2 r3 => exact .inr ⟨_, _, rfl, by decide +kernel, by decide +kernel, .cons r1 (.cons r2 (.one r3)), by simp [Fm.subs], by simp [Fm.subs]⟩
      rcases big with hnil | ⟨wd, ys, rfl, e1, e2, ry, hne, hl3⟩
      · cases hx with
        | is k =>
          walk_at "g"
          refine ⟨szK rfl, fun p hp => ?_⟩
          exact q _ _ (same_new hp) hp upd_same
        | get x =>
          walk_at "g"
          refine ⟨szK rfl, fun p hp => ?_⟩
          exact q _ _ (same_new hp) hp upd_same
        | _ => simp [Fm.subs] at hnil
      · clear hx
        have ly := ry.length
        rw [List.length_map] at ly
        walk_at "g"
        refine ⟨_, _, _, _, rfl, rfl, .inl ha, atI_nat (j := 0) rfl, ?_⟩
        walk_at "g"
        rw [e1]
        walk_at "g"
        refine ⟨_, _, _, _, rfl, rfl, .inl ha, atI_nat (j := 0) rfl, ?_⟩
        walk_at "g"
        rw [e2]
        walk_at "g"
        refine ⟨szK rfl, fun o ho => ?_⟩
        have t1 : Same H (upd H o (.lst [])) := same_new ho
        have eo1 : upd H o (.lst []) o = some (.lst []) := upd_same
        generalize upd H o (.lst []) = H1 at t1 eo1
        walk_at "g"
        refine ⟨a, _, rfl, .inl (same_rd t1 ha), fun z => ?_, fun _ p2 hp2 => ?_⟩
        · exfalso
          have z1 := z.1
          rw [show HT.sIx (V.str wd :: ys).length 0 (some 1) = min 1 (V.str wd :: ys).length from HT.sIx_nat _ _ 1] at z1
          rw [List.length_cons] at z1
          omega
        rw [cut1]
        have t2 : Same H1 (upd H1 p2 (.tup ys)) := same_new hp2
        have e3 : upd H1 p2 (.tup ys) p2 = some (.tup ys) := upd_same
        generalize upd H1 p2 (.tup ys) = H2 at t2 e3
        refine ⟨p2, rfl, ⟨_, SqT.of e3⟩, ?_⟩
        have t12 := t1.trans t2
        have pre : ∀ (i : Nat) (g : Fm), f.subs[i]? = some g → ((f.subs.take (i + 1)).map Fm.names).foldl addL [] = addL (((f.subs.take i).map Fm.names).foldl addL []) g.names := fun i g hg => by
          rw [List.take_add_one, hg, Option.toList_some, List.map_append, List.foldl_append]
          rfl
        refine for_tup (K := K) (a := p2) (xs := ys) (fun i σ H' => (∃ y2 y3, σ = [some (.ref a), some (.ref o), y2, y3]) ∧ Same H H' ∧ H' p2 = some (.tup ys) ∧ ∃ acc : List Str, H' o = some (.lst (acc.map V.str)) ∧ acc = ((f.subs.take i).map Fm.names).foldl addL [] ∧ acc.length ≤ i * 10000) ⟨⟨_, _, rfl⟩, t12, e3, [], t2 _ _ eo1, rfl, Nat.zero_le _⟩ (fun i σ H' _ p => SqT.of p.2.2.1) (fun i x σ H' hx p => ?_) (fun σ H' p => ?_)
        · obtain ⟨⟨y2, y3, rfl⟩, s3, ep2, acc, eo, eacc, lacc⟩ := p
          have hi : i < f.subs.length := by rw [← ly]; exact (List.getElem?_eq_some_iff.mp hx).1
          obtain ⟨d, hd2, rd⟩ := ry.get hx
          rw [List.getElem?_map] at hd2
          obtain ⟨g, hg, rfl⟩ := Option.map_eq_some_iff.mp hd2
          have gd := subs_dep (List.mem_of_getElem? hg)
          walk_at "g"
          refine ⟨.inl ⟨rfl, _, SqL.of eo⟩, ?_⟩
          walk_at "g"
          refine ⟨x, g, M, rfl, rd.sx (Sx.same s3), hM.gr (Gr.same s3), by omega, by omega, fun H4 p4 s4 hp4 e4 => ?_⟩
          have eo4 := s4 _ _ eo
          have ep4 := s4 _ _ ep2
          refine ⟨p4, rfl, ⟨_, SqL.of e4⟩, fun D hD => ?_⟩
          have lg : g.names.length ≤ 10000 := by
            have := g.names_len
            have := Fm.size_le 5 g (by omega)
            omega
          refine list_loop (K := K) (a := p4) (xs := g.names.map V.str) (fun j H' => Same H4 H' ∧ H' D = some (.lst (((g.names.take j).filter fun x => !decide (x ∈ acc)).map V.str))) ⟨same_new hD, upd_same⟩ (fun j H' _ p => SqL.of (p.1 _ _ e4)) (fun j y H5 hy p => ?_) (fun H5 p => ?_)
          · obtain ⟨s5, eD⟩ := p
            rw [List.getElem?_map] at hy
            obtain ⟨nm, hn, rfl⟩ := Option.map_eq_some_iff.mp hy
            have lf : ((g.names.take j).filter fun x => !decide (x ∈ acc)).length ≤ 10000 := by
              have h1 := List.length_filter_le (fun x => !decide (x ∈ acc)) (g.names.take j)
              rw [List.length_take] at h1
              omega
            have nxt : ((g.names.take (j + 1)).filter fun x => !decide (x ∈ acc)) = ((g.names.take j).filter fun x => !decide (x ∈ acc)) ++ (if nm ∈ acc then [] else [nm]) := by
              rw [List.take_add_one, hn, Option.toList_some, List.filter_append]
              congr 1
              by_cases c : nm ∈ acc
              · simp [c]
              · simp [c]
            refine ⟨rfl, ?_⟩
            walk_at "g"
            refine ⟨o, acc.map V.str, rfl, .inl (SqL.of (s5 _ _ eo4)), rfl, flat_strs _, ?_⟩
            rw [in_strs]
            by_cases c : nm ∈ acc
            · rw [decide_eq_true c]
              rw [if_pos c, List.append_nil] at nxt
              walk_at "g"
              exact ⟨s5, by rw [nxt]; exact eD⟩
            · rw [decide_eq_false c]
              rw [if_neg c] at nxt
              walk_at "g"
              refine ⟨_, eD, small1000000 (by rw [List.length_map]; omega), same_put s5 hD, ?_⟩
              rw [upd_same, nxt, List.map_append]
              rfl
          · obtain ⟨s5, eD⟩ := p
            rw [List.length_map, List.take_of_length_le (Nat.le_refl _)] at eD
            have eo5 := s5 _ _ eo4
            have ep5 := s5 _ _ ep4
            have oD : o ≠ D := fun z => by rw [← z, eo4] at hD; cases hD
            have op : p2 ≠ o := fun z => by rw [z, eo] at ep2; cases ep2
            refine ⟨o, D, _, _, rfl, rfl, eo5, eD, ?_, ?_⟩
            · have h1 := List.length_filter_le (fun x => !decide (x ∈ acc)) g.names
              rw [List.length_map, List.length_map]
              exact Nat.le_of_lt (small1000000 (by have : i * 10000 ≤ 3 * 10000 := Nat.mul_le_mul_right _ (by omega); omega))
            · have e := addN_fold (acc := acc) (names_nodup g)
              refine ⟨⟨_, _, rfl⟩, same_put ((s3.trans s4).trans s5) ho, by rw [upd_ne op]; exact ep5, addL acc g.names, ?_, by rw [pre i g hg, ← eacc], ?_⟩
              · rw [upd_same]
                unfold addL
                rw [e, List.map_append]
              · have := addsN_len g.names acc
                unfold addL
                rw [Nat.succ_mul]
                omega
        · obtain ⟨⟨y2, y3, rfl⟩, s3, ep2, acc, eo, eacc, lacc⟩ := p
          rw [List.take_of_length_le (by omega), ← names_subs f hne] at eacc
          walk_at "g"
          rw [eacc] at eo
          exact q _ _ s3 ho eo
end
end D

namespace D
open PySem PySem.Spec PyProof.Rows L2
local macro_rules | `(tactic| walk_at "st") => `(tactic| first | exact SqT.of (by assumption) | exact Or.inl (by assumption) | exact SqT.of upd_same | fail "st")
local macro_rules | `(tactic| walk_at "ixt") => `(tactic| refine ⟨_, _, _, _, rfl, rfl, (by walk_at "st" : SqT _ _ _ _), by rfl, ?_⟩)
local macro_rules | `(tactic| walk_at "sq") => `(tactic| first | exact SqL.of (by assumption) | assumption | exact Or.inl (by assumption) | exact SqL.of upd_same | fail "sq")
local macro_rules | `(tactic| walk_at "ix") => `(tactic| refine ⟨_, _, _, _, rfl, rfl, (by walk_at "sq" : SqL _ _ _ _), by rfl, ?_⟩)
local macro_rules | `(tactic| walk_at "set") => `(tactic| refine ⟨_, _, _, _, rfl, rfl, by first | assumption | exact upd_same, by rfl, ?_⟩)
local macro_rules | `(tactic| walk_at "len") => `(tactic| refine ⟨_, _, rfl, Or.inl (by walk_at "sq" : SqL _ _ _ _), ?_⟩)
local macro_rules | `(tactic| walk_at "g") => `(tactic| repeat (first | refine ⟨_, rfl, ?_⟩ | refine ⟨_, _, rfl, rfl, ?_⟩ | refine ⟨Or.inr (by decide), ?_⟩ | refine ⟨Or.inl (by decide), ?_⟩ | refine ⟨(by decide : (0 : Int) < _), ?_⟩ | refine ⟨(⟨by decide, by decide⟩ : CDiv _ _), ?_⟩ | refine ⟨(⟨by decide, by decide, by decide⟩ : CPow _ _), ?_⟩ | refine Or.inl ⟨_, rfl, ?_⟩ | refine ⟨rfl, ?_⟩ | walk_at "ix" | walk_at "ixt" | walk_at "len" | fail "g"))
local macro_rules | `(tactic| walk_at "if") => `(tactic| refine ite2 (fun e => ?_) (fun e => ?_))
section
variable {P : Program} {w : World} {K : PySem.W.Frag} {mg : Str → Option Value} {base : Heap}
theorem enc_str {g : Fm} {y : Str} (e : [g.enc] = [PyData.str y]) : y.length ≤ 1000 := by
  cases g <;> cases e
/-- parts that are none -/
def OddD (d : PyData) : Prop := partC d ∧ pWell d = false ∧ Gd 40000 14 d
theorem RpAll.memD {M : Ms} {H : Hp} : ∀ {xs : List V} {ds : List PyData}, RpAll M H xs ds → ∀ v ∈ xs, ∃ d ∈ ds, Rp M H v d
  | _, _, .nil, v, h => (nomatch h)
  | _, _, .cons h1 h2, v, h => by
    rcases List.mem_cons.mp h with rfl | h
    · exact ⟨_, List.mem_cons_self, h1⟩
    · obtain ⟨d, hd, r⟩ := RpAll.memD h2 v h
      exact ⟨d, List.mem_cons_of_mem _ hd, r⟩
theorem nm_gd {x : Str} (h : isNm x) : Gd 8 0 (.str x) := Gd.str (fun c hc => by have := h.2.2 c hc; omega) h.2.1
theorem gword (x : Str) (h : (x.cps.toList.all fun c => decide (c < 0x110000)) = true) (hl : x.length ≤ 8) : Gd 8 0 (.str x) := Gd.str (fun c hc => of_decide_eq_true (List.all_eq_true.mp h c hc)) hl
theorem fm_gd : ∀ (f : Fm), f.ok isNm → Gd (20 * f.size) f.dep f.enc
  | .is n, h => ((GdAll.nil.cons (Gd.int (i := n) (by have h1 : 0 ≤ n := h.1; have h2 : n ≤ 9 := h.2; omega))).cons (gword sIs (by decide +kernel) (by decide +kernel))).tup.le (by show _ ≤ 20 * 1; omega) (by show _ ≤ 1; omega)
  | .get x, h => ((GdAll.nil.cons (nm_gd h)).cons (gword sGet (by decide +kernel) (by decide +kernel))).tup.le (by show _ ≤ 20 * 1; omega) (by show _ ≤ 1; omega)
  | .sum f g, h => by
    have h1 := (fm_gd f h.1).le (Nat.le_refl _) (show f.dep ≤ max f.dep g.dep by omega)
    have h2 := (fm_gd g h.2).le (Nat.le_refl _) (show g.dep ≤ max f.dep g.dep by omega)
    exact (((GdAll.nil.cons h2).cons h1).cons (gword sSum (by decide +kernel) (by decide +kernel)).up).tup.le (by show _ ≤ 20 * (f.size + g.size + 1); omega) (Nat.le_refl _)
  | .same f g, h => by
    have h1 := (fm_gd f h.1).le (Nat.le_refl _) (show f.dep ≤ max f.dep g.dep by omega)
    have h2 := (fm_gd g h.2).le (Nat.le_refl _) (show g.dep ≤ max f.dep g.dep by omega)
    exact (((GdAll.nil.cons h2).cons h1).cons (gword sSame (by decide +kernel) (by decide +kernel)).up).tup.le (by show _ ≤ 20 * (f.size + g.size + 1); omega) (Nat.le_refl _)
  | .pick f g k, h => by
    have h1 := (fm_gd f h.1).le (Nat.le_refl _) (show f.dep ≤ max f.dep (max g.dep k.dep) by omega)
    have h2 := (fm_gd g h.2.1).le (Nat.le_refl _) (show g.dep ≤ max f.dep (max g.dep k.dep) by omega)
    have h3 := (fm_gd k h.2.2).le (Nat.le_refl _) (show k.dep ≤ max f.dep (max g.dep k.dep) by omega)
    exact ((((GdAll.nil.cons h3).cons h2).cons h1).cons (gword sPick (by decide +kernel) (by decide +kernel)).up).tup.le (by show _ ≤ 20 * (f.size + g.size + k.size + 1); omega) (Nat.le_refl _)
theorem gS (x : String) (h : ((Str.ofString x).cps.toList.all fun c => decide (c < 0x110000)) = true) (hl : (Str.ofString x).length ≤ 20) : Gd 20 0 (.str (Str.ofString x)) := gstr x 20 h hl
theorem Gd.bool (b : Bool) : Gd 0 0 (.bool b) := ⟨by simp [PyData.canLay0], Nat.le_refl _, by cases b <;> decide +kernel, rfl, rfl, Nat.le_refl _⟩
theorem odd_all {g : Fm} {d : PyData} (hok : g.ok isNm) (hdep : g.dep ≤ 4) (hd : d ∈ [.none, .int (3), .str (Str.ofString "item"), .tuple [], .tuple [.str (Str.ofString "is")], .tuple [.str (Str.ofString "is"), .int (10)], .tuple [.str (Str.ofString "is"), .int (-1)], .tuple [.str (Str.ofString "is"), .bool true], .tuple [.str (Str.ofString "is"), .none], .tuple [.str (Str.ofString "is"), .str (Str.ofString "a")], .tuple [.str (Str.ofString "is"), .int (1), .int (2)], .tuple [.str (Str.ofString "get")], .tuple [.str (Str.ofString "get"), .str (Str.ofString "")], .tuple [.str (Str.ofString "get"), .str (Str.ofString "Item")], .tuple [.str (Str.ofString "get"), .str (Str.ofString "abcdefghi")], .tuple [.str (Str.ofString "get"), .int (7)], .tuple [.str (Str.ofString "get"), .none], .tuple [.str (Str.ofString "get"), .str (Str.ofString "at1")], .tuple [.str (Str.ofString "get"), .str (Str.ofString "at"), .str (Str.ofString "at")], .tuple [.str (Str.ofString "get"), .str (Str.ofString "a b")], .tuple [.str (Str.ofString "sum"), g.enc], .tuple [.str (Str.ofString "sum"), g.enc, g.enc, g.enc], .tuple [.str (Str.ofString "same"), g.enc], .tuple [.str (Str.ofString "same"), g.enc, g.enc, g.enc], .tuple [.str (Str.ofString "pick"), g.enc, g.enc], .tuple [.str (Str.ofString "add"), g.enc, g.enc], .tuple [.int (7)], .tuple [.none, g.enc], .list [.str (Str.ofString "is"), .int (3)], .list [.str (Str.ofString "get"), .str (Str.ofString "item")]]) : OddD d := by
  have hsz := Fm.size_le 4 g hdep
  have e4 : 4 ^ 4 = 256 := by decide
  rw [e4] at hsz
  have hg : Gd 5120 4 g.enc := (fm_gd g hok).le (by omega) hdep
  simp only [List.mem_cons, List.not_mem_nil, or_false] at hd
  rcases hd with rfl | rfl | rfl | rfl | rfl | rfl | rfl | rfl | rfl | rfl | rfl | rfl | rfl | rfl | rfl | rfl | rfl | rfl | rfl | rfl | rfl | rfl | rfl | rfl | rfl | rfl | rfl | rfl | rfl | rfl
  · exact ⟨fun w r e => by (cases e), rfl, Gd.non.le (by omega) (by omega)⟩
  · exact ⟨fun w r e => by (cases e), rfl, (Gd.int (i := 3) (by decide)).le (by omega) (by omega)⟩
  · exact ⟨fun w r e => by (cases e), rfl, (gS "item" (by decide +kernel) (by decide +kernel)).le (by omega) (by omega)⟩
  · exact ⟨fun w r e => by (cases e), rfl, (GdAll.nil (n := 4)).tup.le (by omega) (by omega)⟩
  · exact ⟨fun w r e => by (cases e; exact ⟨.inl rfl, by simp, fun y e => by (have := congrArg List.length e; simp at this)⟩), (well_is _).trans (by decide +kernel), ((GdAll.nil (n := 4)).cons (gS "is" (by decide +kernel) (by decide +kernel)).up).tup.le (by omega) (by omega)⟩
  · exact ⟨fun w r e => by (cases e; exact ⟨.inl rfl, by simp, fun y e => by (cases e)⟩), (well_is _).trans (by decide +kernel), (((GdAll.nil (n := 4)).cons (Gd.int (i := 10) (by decide)).up).cons (gS "is" (by decide +kernel) (by decide +kernel)).up).tup.le (by omega) (by omega)⟩
  · exact ⟨fun w r e => by (cases e; exact ⟨.inl rfl, by simp, fun y e => by (cases e)⟩), (well_is _).trans (by decide +kernel), (((GdAll.nil (n := 4)).cons (Gd.int (i := -1) (by decide)).up).cons (gS "is" (by decide +kernel) (by decide +kernel)).up).tup.le (by omega) (by omega)⟩
  · exact ⟨fun w r e => by (cases e; exact ⟨.inl rfl, by simp, fun y e => by (cases e)⟩), (well_is _).trans (by decide +kernel), (((GdAll.nil (n := 4)).cons (Gd.bool true).up).cons (gS "is" (by decide +kernel) (by decide +kernel)).up).tup.le (by omega) (by omega)⟩
  · exact ⟨fun w r e => by (cases e; exact ⟨.inl rfl, by simp, fun y e => by (cases e)⟩), (well_is _).trans (by decide +kernel), (((GdAll.nil (n := 4)).cons Gd.non.up).cons (gS "is" (by decide +kernel) (by decide +kernel)).up).tup.le (by omega) (by omega)⟩
  · exact ⟨fun w r e => by (cases e; exact ⟨.inl rfl, by simp, fun y e => by (cases e; decide +kernel)⟩), (well_is _).trans (by decide +kernel), (((GdAll.nil (n := 4)).cons (gS "a" (by decide +kernel) (by decide +kernel)).up).cons (gS "is" (by decide +kernel) (by decide +kernel)).up).tup.le (by omega) (by omega)⟩
  · exact ⟨fun w r e => by (cases e; exact ⟨.inl rfl, by simp, fun y e => by (have := congrArg List.length e; simp at this)⟩), (well_is _).trans (by decide +kernel), ((((GdAll.nil (n := 4)).cons (Gd.int (i := 2) (by decide)).up).cons (Gd.int (i := 1) (by decide)).up).cons (gS "is" (by decide +kernel) (by decide +kernel)).up).tup.le (by omega) (by omega)⟩
  · exact ⟨fun w r e => by (cases e; exact ⟨.inr (.inl rfl), by simp, fun y e => by (have := congrArg List.length e; simp at this)⟩), (well_get _).trans (by decide +kernel), ((GdAll.nil (n := 4)).cons (gS "get" (by decide +kernel) (by decide +kernel)).up).tup.le (by omega) (by omega)⟩
  · exact ⟨fun w r e => by (cases e; exact ⟨.inr (.inl rfl), by simp, fun y e => by (cases e; decide +kernel)⟩), (well_get _).trans (by decide +kernel), (((GdAll.nil (n := 4)).cons (gS "" (by decide +kernel) (by decide +kernel)).up).cons (gS "get" (by decide +kernel) (by decide +kernel)).up).tup.le (by omega) (by omega)⟩
  · exact ⟨fun w r e => by (cases e; exact ⟨.inr (.inl rfl), by simp, fun y e => by (cases e; decide +kernel)⟩), (well_get _).trans (by decide +kernel), (((GdAll.nil (n := 4)).cons (gS "Item" (by decide +kernel) (by decide +kernel)).up).cons (gS "get" (by decide +kernel) (by decide +kernel)).up).tup.le (by omega) (by omega)⟩
  · exact ⟨fun w r e => by (cases e; exact ⟨.inr (.inl rfl), by simp, fun y e => by (cases e; decide +kernel)⟩), (well_get _).trans (by decide +kernel), (((GdAll.nil (n := 4)).cons (gS "abcdefghi" (by decide +kernel) (by decide +kernel)).up).cons (gS "get" (by decide +kernel) (by decide +kernel)).up).tup.le (by omega) (by omega)⟩
  · exact ⟨fun w r e => by (cases e; exact ⟨.inr (.inl rfl), by simp, fun y e => by (cases e)⟩), (well_get _).trans (by decide +kernel), (((GdAll.nil (n := 4)).cons (Gd.int (i := 7) (by decide)).up).cons (gS "get" (by decide +kernel) (by decide +kernel)).up).tup.le (by omega) (by omega)⟩
  · exact ⟨fun w r e => by (cases e; exact ⟨.inr (.inl rfl), by simp, fun y e => by (cases e)⟩), (well_get _).trans (by decide +kernel), (((GdAll.nil (n := 4)).cons Gd.non.up).cons (gS "get" (by decide +kernel) (by decide +kernel)).up).tup.le (by omega) (by omega)⟩
  · exact ⟨fun w r e => by (cases e; exact ⟨.inr (.inl rfl), by simp, fun y e => by (cases e; decide +kernel)⟩), (well_get _).trans (by decide +kernel), (((GdAll.nil (n := 4)).cons (gS "at1" (by decide +kernel) (by decide +kernel)).up).cons (gS "get" (by decide +kernel) (by decide +kernel)).up).tup.le (by omega) (by omega)⟩
  · exact ⟨fun w r e => by (cases e; exact ⟨.inr (.inl rfl), by simp, fun y e => by (have := congrArg List.length e; simp at this)⟩), (well_get _).trans (by decide +kernel), ((((GdAll.nil (n := 4)).cons (gS "at" (by decide +kernel) (by decide +kernel)).up).cons (gS "at" (by decide +kernel) (by decide +kernel)).up).cons (gS "get" (by decide +kernel) (by decide +kernel)).up).tup.le (by omega) (by omega)⟩
  · exact ⟨fun w r e => by (cases e; exact ⟨.inr (.inl rfl), by simp, fun y e => by (cases e; decide +kernel)⟩), (well_get _).trans (by decide +kernel), (((GdAll.nil (n := 4)).cons (gS "a b" (by decide +kernel) (by decide +kernel)).up).cons (gS "get" (by decide +kernel) (by decide +kernel)).up).tup.le (by omega) (by omega)⟩
  · exact ⟨fun w r e => by (cases e; exact ⟨.inr (.inr (.inl rfl)), by simp, fun y e => enc_str e⟩), (well_many (by decide) (by decide) (show pMany sSum = some 2 by decide) _).trans rfl, (((GdAll.nil (n := 4)).cons hg).cons (gS "sum" (by decide +kernel) (by decide +kernel)).up).tup.le (by omega) (by omega)⟩
  · exact ⟨fun w r e => by (cases e; exact ⟨.inr (.inr (.inl rfl)), by simp, fun y e => by (have := congrArg List.length e; simp at this)⟩), (well_many (by decide) (by decide) (show pMany sSum = some 2 by decide) _).trans rfl, (((((GdAll.nil (n := 4)).cons hg).cons hg).cons hg).cons (gS "sum" (by decide +kernel) (by decide +kernel)).up).tup.le (by omega) (by omega)⟩
  · exact ⟨fun w r e => by (cases e; exact ⟨.inr (.inr (.inr (.inl rfl))), by simp, fun y e => enc_str e⟩), (well_many (by decide) (by decide) (show pMany sSame = some 2 by decide) _).trans rfl, (((GdAll.nil (n := 4)).cons hg).cons (gS "same" (by decide +kernel) (by decide +kernel)).up).tup.le (by omega) (by omega)⟩
  · exact ⟨fun w r e => by (cases e; exact ⟨.inr (.inr (.inr (.inl rfl))), by simp, fun y e => by (have := congrArg List.length e; simp at this)⟩), (well_many (by decide) (by decide) (show pMany sSame = some 2 by decide) _).trans rfl, (((((GdAll.nil (n := 4)).cons hg).cons hg).cons hg).cons (gS "same" (by decide +kernel) (by decide +kernel)).up).tup.le (by omega) (by omega)⟩
  · exact ⟨fun w r e => by (cases e; exact ⟨.inr (.inr (.inr (.inr (.inl rfl)))), by simp, fun y e => by (have := congrArg List.length e; simp at this)⟩), (well_many (by decide) (by decide) (show pMany sPick = some 3 by decide) _).trans rfl, ((((GdAll.nil (n := 4)).cons hg).cons hg).cons (gS "pick" (by decide +kernel) (by decide +kernel)).up).tup.le (by omega) (by omega)⟩
  · exact ⟨fun w r e => by (cases e; exact ⟨.inr (.inr (.inr (.inr (.inr rfl)))), by simp, fun y e => by (have := congrArg List.length e; simp at this)⟩), well_add _, ((((GdAll.nil (n := 4)).cons hg).cons hg).cons (gS "add" (by decide +kernel) (by decide +kernel)).up).tup.le (by omega) (by omega)⟩
  · exact ⟨fun w r e => by (cases e), rfl, ((GdAll.nil (n := 4)).cons (Gd.int (i := 7) (by decide)).up).tup.le (by omega) (by omega)⟩
  · exact ⟨fun w r e => by (cases e), rfl, (((GdAll.nil (n := 4)).cons hg).cons Gd.non.up).tup.le (by omega) (by omega)⟩
  · exact ⟨fun w r e => by (cases e), rfl, (((GdAll.nil (n := 4)).cons (Gd.int (i := 3) (by decide)).up).cons (gS "is" (by decide +kernel) (by decide +kernel)).up).lst.le (by omega) (by omega)⟩
  · exact ⟨fun w r e => by (cases e), rfl, (((GdAll.nil (n := 4)).cons (gS "item" (by decide +kernel) (by decide +kernel)).up).cons (gS "get" (by decide +kernel) (by decide +kernel)).up).lst.le (by omega) (by omega)⟩
def sp_odd (K : PySem.W.Frag) : Sp := fun vs H Q _ => ∃ (b : Addr) (v : V) (g : Fm) (M : Ms), vs = [.ref b, v] ∧ Bag K M H b ∧ Mk M H ∧ Rp M H v g.enc ∧ g.ok isNm ∧ g.dep ≤ 4 ∧ Dr K M b H OddD Q
theorem ok_odd (T : Txt K mg) : FnOk P w K mg base CX0 4 T.f__law_odd_part T.d__law_odd_part ["_law_bag_here", "_law_good"] (sp_odd K) := by
  have G__law_choice := ok_choice (P := P) (w := w) (base := base) T
  refine T.F__law_odd_part.ok sc__law_odd_part (fun vs H Q E h => ?_) (fun cdv A outer s H vs Q E hr h => ?_)
  · obtain ⟨_, _, _, _, rfl, _⟩ := h
    rfl
  · obtain ⟨b, v, g, M, rfl, hB, hM, rv, hok, hdep, q⟩ := h
    refine ⟨_, (pss_cons (ps_set (i := 2) sc__law_odd_part.nd rfl (Or.inl rfl) (pe_lst (pa_cons pe_non (pa_cons pe_int (pa_cons pe_str (pa_cons (pe_tup pa_nil) (pa_cons (pe_tup (pa_cons pe_str pa_nil)) (pa_cons (pe_tup (pa_cons pe_str (pa_cons pe_int pa_nil))) (pa_cons (pe_tup (pa_cons pe_str (pa_cons (pe_un un_neg pe_int) pa_nil))) (pa_cons (pe_tup (pa_cons pe_str (pa_cons pe_bl pa_nil))) (pa_cons (pe_tup (pa_cons pe_str (pa_cons pe_non pa_nil))) (pa_cons (pe_tup (pa_cons pe_str (pa_cons pe_str pa_nil))) (pa_cons (pe_tup (pa_cons pe_str (pa_cons pe_int (pa_cons pe_int pa_nil)))) pa_nil)))))))))))))
      (pss_cons (ps_set (i := 2) sc__law_odd_part.nd rfl (Or.inl rfl) (pe_op op_cat (pv 2) (pe_lst (pa_cons (pe_tup (pa_cons pe_str pa_nil)) (pa_cons (pe_tup (pa_cons pe_str (pa_cons pe_str pa_nil))) (pa_cons (pe_tup (pa_cons pe_str (pa_cons pe_str pa_nil))) (pa_cons (pe_tup (pa_cons pe_str (pa_cons pe_str pa_nil))) (pa_cons (pe_tup (pa_cons pe_str (pa_cons pe_int pa_nil))) (pa_cons (pe_tup (pa_cons pe_str (pa_cons pe_non pa_nil))) pa_nil)))))))))
      (pss_cons (ps_set (i := 2) sc__law_odd_part.nd rfl (Or.inl rfl) (pe_op op_cat (pv 2) (pe_lst (pa_cons (pe_tup (pa_cons pe_str (pa_cons pe_str pa_nil))) (pa_cons (pe_tup (pa_cons pe_str (pa_cons pe_str (pa_cons pe_str pa_nil)))) (pa_cons (pe_tup (pa_cons pe_str (pa_cons pe_str pa_nil))) (pa_cons (pe_tup (pa_cons pe_str (pa_cons (pv 1) pa_nil))) (pa_cons (pe_tup (pa_cons pe_str (pa_cons (pv 1) (pa_cons (pv 1) (pa_cons (pv 1) pa_nil))))) pa_nil))))))))
      (pss_cons (ps_set (i := 2) sc__law_odd_part.nd rfl (Or.inl rfl) (pe_op op_cat (pv 2) (pe_lst (pa_cons (pe_tup (pa_cons pe_str (pa_cons (pv 1) pa_nil))) (pa_cons (pe_tup (pa_cons pe_str (pa_cons (pv 1) (pa_cons (pv 1) (pa_cons (pv 1) pa_nil))))) pa_nil)))))
      (pss_cons (ps_set (i := 2) sc__law_odd_part.nd rfl (Or.inl rfl) (pe_op op_cat (pv 2) (pe_lst (pa_cons (pe_tup (pa_cons pe_str (pa_cons (pv 1) (pa_cons (pv 1) pa_nil)))) (pa_cons (pe_tup (pa_cons pe_str (pa_cons (pv 1) (pa_cons (pv 1) pa_nil)))) (pa_cons (pe_tup (pa_cons pe_int pa_nil)) (pa_cons (pe_tup (pa_cons pe_non (pa_cons (pv 1) pa_nil))) (pa_cons (pe_lst (pa_cons pe_str (pa_cons pe_int pa_nil))) (pa_cons (pe_lst (pa_cons pe_str (pa_cons pe_str pa_nil))) pa_nil)))))))))
      (pss_one (ps_ret (pe_call G__law_choice (hr.mono (by omega)) (by rfl) T.g__law_choice T.F__law_choice.kp T.b__law_choice .nil pass0 (pa_cons (pv 0) (pa_cons (pv 2) pa_nil)))))))))), ?_⟩
    have s0 : Same H H := Same.refl H
    have A0 : RpAll M H [] [] := .nil
    have A0 : RpAll M H [.non] [.none] := A0.append (.one .non)
    have A0 : RpAll M H [.non, .int (3)] [.none, .int (3)] := A0.append (.one (.int _))
    have A0 : RpAll M H [.non, .int (3), .str (Str.ofString "item")] [.none, .int (3), .str (Str.ofString "item")] := A0.append (.one (.str _))
    walk_at "g"
    refine ⟨szK rfl, fun p1 hp1 => ?_⟩
    have t1 : Same H (upd H p1 (.tup [])) := same_new hp1
    have r1 : Rp M (upd H p1 (.tup [])) (.ref p1) (.tuple []) := Rp.newT (hM.gr (Gr.same s0)) hp1 .nil
    have A0 := A0.sx (Sx.same (M := M) t1)
    have s1 := s0.trans t1
    have rv := rv.sx (Sx.same (M := M) t1)
    generalize upd H p1 (.tup []) = K1 at t1 r1 A0 s1 rv 
    have A0 : RpAll M K1 [.non, .int (3), .str (Str.ofString "item"), .ref p1] [.none, .int (3), .str (Str.ofString "item"), .tuple []] := A0.append (.one r1)
    walk_at "g"
    refine ⟨szK rfl, fun p2 hp2 => ?_⟩
    have t2 : Same K1 (upd K1 p2 (.tup [.str (Str.ofString "is")])) := same_new hp2
    have r2 : Rp M (upd K1 p2 (.tup [.str (Str.ofString "is")])) (.ref p2) (.tuple [.str (Str.ofString "is")]) := Rp.newT (hM.gr (Gr.same s1)) hp2 (.cons (.str _) .nil)
    have A0 := A0.sx (Sx.same (M := M) t2)
    have s2 := s1.trans t2
    have rv := rv.sx (Sx.same (M := M) t2)
    generalize upd K1 p2 (.tup [.str (Str.ofString "is")]) = K2 at t2 r2 A0 s2 rv 
    have A0 : RpAll M K2 [.non, .int (3), .str (Str.ofString "item"), .ref p1, .ref p2] [.none, .int (3), .str (Str.ofString "item"), .tuple [], .tuple [.str (Str.ofString "is")]] := A0.append (.one r2)
    walk_at "g"
    refine ⟨szK rfl, fun p3 hp3 => ?_⟩
    have t3 : Same K2 (upd K2 p3 (.tup [.str (Str.ofString "is"), .int (10)])) := same_new hp3
    have r3 : Rp M (upd K2 p3 (.tup [.str (Str.ofString "is"), .int (10)])) (.ref p3) (.tuple [.str (Str.ofString "is"), .int (10)]) := Rp.newT (hM.gr (Gr.same s2)) hp3 (.cons (.str _) (.cons (.int _) .nil))
    have A0 := A0.sx (Sx.same (M := M) t3)
    have s3 := s2.trans t3
    have rv := rv.sx (Sx.same (M := M) t3)
    generalize upd K2 p3 (.tup [.str (Str.ofString "is"), .int (10)]) = K3 at t3 r3 A0 s3 rv 
    have A0 : RpAll M K3 [.non, .int (3), .str (Str.ofString "item"), .ref p1, .ref p2, .ref p3] [.none, .int (3), .str (Str.ofString "item"), .tuple [], .tuple [.str (Str.ofString "is")], .tuple [.str (Str.ofString "is"), .int (10)]] := A0.append (.one r3)
    walk_at "g"
    refine ⟨szK rfl, fun p4 hp4 => ?_⟩
    have t4 : Same K3 (upd K3 p4 (.tup [.str (Str.ofString "is"), .int (-1)])) := same_new hp4
    have r4 : Rp M (upd K3 p4 (.tup [.str (Str.ofString "is"), .int (-1)])) (.ref p4) (.tuple [.str (Str.ofString "is"), .int (-1)]) := Rp.newT (hM.gr (Gr.same s3)) hp4 (.cons (.str _) (.cons (.int _) .nil))
    have A0 := A0.sx (Sx.same (M := M) t4)
    have s4 := s3.trans t4
    have rv := rv.sx (Sx.same (M := M) t4)
    generalize upd K3 p4 (.tup [.str (Str.ofString "is"), .int (-1)]) = K4 at t4 r4 A0 s4 rv 
    have A0 : RpAll M K4 [.non, .int (3), .str (Str.ofString "item"), .ref p1, .ref p2, .ref p3, .ref p4] [.none, .int (3), .str (Str.ofString "item"), .tuple [], .tuple [.str (Str.ofString "is")], .tuple [.str (Str.ofString "is"), .int (10)], .tuple [.str (Str.ofString "is"), .int (-1)]] := A0.append (.one r4)
    walk_at "g"
    refine ⟨szK rfl, fun p5 hp5 => ?_⟩
    have t5 : Same K4 (upd K4 p5 (.tup [.str (Str.ofString "is"), .bl true])) := same_new hp5
    have r5 : Rp M (upd K4 p5 (.tup [.str (Str.ofString "is"), .bl true])) (.ref p5) (.tuple [.str (Str.ofString "is"), .bool true]) := Rp.newT (hM.gr (Gr.same s4)) hp5 (.cons (.str _) (.cons (.bl true) .nil))
    have A0 := A0.sx (Sx.same (M := M) t5)
    have s5 := s4.trans t5
    have rv := rv.sx (Sx.same (M := M) t5)
    generalize upd K4 p5 (.tup [.str (Str.ofString "is"), .bl true]) = K5 at t5 r5 A0 s5 rv 
    have A0 : RpAll M K5 [.non, .int (3), .str (Str.ofString "item"), .ref p1, .ref p2, .ref p3, .ref p4, .ref p5] [.none, .int (3), .str (Str.ofString "item"), .tuple [], .tuple [.str (Str.ofString "is")], .tuple [.str (Str.ofString "is"), .int (10)], .tuple [.str (Str.ofString "is"), .int (-1)], .tuple [.str (Str.ofString "is"), .bool true]] := A0.append (.one r5)
    walk_at "g"
    refine ⟨szK rfl, fun p6 hp6 => ?_⟩
    have t6 : Same K5 (upd K5 p6 (.tup [.str (Str.ofString "is"), .non])) := same_new hp6
    have r6 : Rp M (upd K5 p6 (.tup [.str (Str.ofString "is"), .non])) (.ref p6) (.tuple [.str (Str.ofString "is"), .none]) := Rp.newT (hM.gr (Gr.same s5)) hp6 (.cons (.str _) (.cons .non .nil))
    have A0 := A0.sx (Sx.same (M := M) t6)
    have s6 := s5.trans t6
    have rv := rv.sx (Sx.same (M := M) t6)
    generalize upd K5 p6 (.tup [.str (Str.ofString "is"), .non]) = K6 at t6 r6 A0 s6 rv 
    have A0 : RpAll M K6 [.non, .int (3), .str (Str.ofString "item"), .ref p1, .ref p2, .ref p3, .ref p4, .ref p5, .ref p6] [.none, .int (3), .str (Str.ofString "item"), .tuple [], .tuple [.str (Str.ofString "is")], .tuple [.str (Str.ofString "is"), .int (10)], .tuple [.str (Str.ofString "is"), .int (-1)], .tuple [.str (Str.ofString "is"), .bool true], .tuple [.str (Str.ofString "is"), .none]] := A0.append (.one r6)
    walk_at "g"
    refine ⟨szK rfl, fun p7 hp7 => ?_⟩
    have t7 : Same K6 (upd K6 p7 (.tup [.str (Str.ofString "is"), .str (Str.ofString "a")])) := same_new hp7
    have r7 : Rp M (upd K6 p7 (.tup [.str (Str.ofString "is"), .str (Str.ofString "a")])) (.ref p7) (.tuple [.str (Str.ofString "is"), .str (Str.ofString "a")]) := Rp.newT (hM.gr (Gr.same s6)) hp7 (.cons (.str _) (.cons (.str _) .nil))
    have A0 := A0.sx (Sx.same (M := M) t7)
    have s7 := s6.trans t7
    have rv := rv.sx (Sx.same (M := M) t7)
    generalize upd K6 p7 (.tup [.str (Str.ofString "is"), .str (Str.ofString "a")]) = K7 at t7 r7 A0 s7 rv 
    have A0 : RpAll M K7 [.non, .int (3), .str (Str.ofString "item"), .ref p1, .ref p2, .ref p3, .ref p4, .ref p5, .ref p6, .ref p7] [.none, .int (3), .str (Str.ofString "item"), .tuple [], .tuple [.str (Str.ofString "is")], .tuple [.str (Str.ofString "is"), .int (10)], .tuple [.str (Str.ofString "is"), .int (-1)], .tuple [.str (Str.ofString "is"), .bool true], .tuple [.str (Str.ofString "is"), .none], .tuple [.str (Str.ofString "is"), .str (Str.ofString "a")]] := A0.append (.one r7)
    walk_at "g"
    refine ⟨szK rfl, fun p8 hp8 => ?_⟩
    have t8 : Same K7 (upd K7 p8 (.tup [.str (Str.ofString "is"), .int (1), .int (2)])) := same_new hp8
    have r8 : Rp M (upd K7 p8 (.tup [.str (Str.ofString "is"), .int (1), .int (2)])) (.ref p8) (.tuple [.str (Str.ofString "is"), .int (1), .int (2)]) := Rp.newT (hM.gr (Gr.same s7)) hp8 (.cons (.str _) (.cons (.int _) (.cons (.int _) .nil)))
    have A0 := A0.sx (Sx.same (M := M) t8)
    have s8 := s7.trans t8
    have rv := rv.sx (Sx.same (M := M) t8)
    generalize upd K7 p8 (.tup [.str (Str.ofString "is"), .int (1), .int (2)]) = K8 at t8 r8 A0 s8 rv 
    have A0 : RpAll M K8 [.non, .int (3), .str (Str.ofString "item"), .ref p1, .ref p2, .ref p3, .ref p4, .ref p5, .ref p6, .ref p7, .ref p8] [.none, .int (3), .str (Str.ofString "item"), .tuple [], .tuple [.str (Str.ofString "is")], .tuple [.str (Str.ofString "is"), .int (10)], .tuple [.str (Str.ofString "is"), .int (-1)], .tuple [.str (Str.ofString "is"), .bool true], .tuple [.str (Str.ofString "is"), .none], .tuple [.str (Str.ofString "is"), .str (Str.ofString "a")], .tuple [.str (Str.ofString "is"), .int (1), .int (2)]] := A0.append (.one r8)
    walk_at "g"
    refine ⟨szK rfl, fun p9 hp9 => ?_⟩
    have t9 : Same K8 (upd K8 p9 (.lst [.non, .int (3), .str (Str.ofString "item"), .ref p1, .ref p2, .ref p3, .ref p4, .ref p5, .ref p6, .ref p7, .ref p8])) := same_new hp9
    have e9 : upd K8 p9 (.lst [.non, .int (3), .str (Str.ofString "item"), .ref p1, .ref p2, .ref p3, .ref p4, .ref p5, .ref p6, .ref p7, .ref p8]) p9 = some (.lst [.non, .int (3), .str (Str.ofString "item"), .ref p1, .ref p2, .ref p3, .ref p4, .ref p5, .ref p6, .ref p7, .ref p8]) := upd_same
    have A0 := A0.sx (Sx.same (M := M) t9)
    have s9 := s8.trans t9
    have rv := rv.sx (Sx.same (M := M) t9)
    generalize upd K8 p9 (.lst [.non, .int (3), .str (Str.ofString "item"), .ref p1, .ref p2, .ref p3, .ref p4, .ref p5, .ref p6, .ref p7, .ref p8]) = K9 at t9 e9 A0 s9 rv 
    have A1 : RpAll M K9 [] [] := .nil
    walk_at "g"
    refine ⟨szK rfl, fun p10 hp10 => ?_⟩
    have t10 : Same K9 (upd K9 p10 (.tup [.str (Str.ofString "get")])) := same_new hp10
    have r10 : Rp M (upd K9 p10 (.tup [.str (Str.ofString "get")])) (.ref p10) (.tuple [.str (Str.ofString "get")]) := Rp.newT (hM.gr (Gr.same s9)) hp10 (.cons (.str _) .nil)
    have A1 := A1.sx (Sx.same (M := M) t10)
    have s10 := s9.trans t10
    have rv := rv.sx (Sx.same (M := M) t10)
    have e9 := t10 _ _ e9
    have A0 := A0.sx (Sx.same (M := M) t10)
    generalize upd K9 p10 (.tup [.str (Str.ofString "get")]) = K10 at t10 r10 A1 s10 rv e9 A0
    have A1 : RpAll M K10 [.ref p10] [.tuple [.str (Str.ofString "get")]] := A1.append (.one r10)
    walk_at "g"
    refine ⟨szK rfl, fun p11 hp11 => ?_⟩
    have t11 : Same K10 (upd K10 p11 (.tup [.str (Str.ofString "get"), .str (Str.ofString "")])) := same_new hp11
    have r11 : Rp M (upd K10 p11 (.tup [.str (Str.ofString "get"), .str (Str.ofString "")])) (.ref p11) (.tuple [.str (Str.ofString "get"), .str (Str.ofString "")]) := Rp.newT (hM.gr (Gr.same s10)) hp11 (.cons (.str _) (.cons (.str _) .nil))
    have A1 := A1.sx (Sx.same (M := M) t11)
    have s11 := s10.trans t11
    have rv := rv.sx (Sx.same (M := M) t11)
    have e9 := t11 _ _ e9
    have A0 := A0.sx (Sx.same (M := M) t11)
    generalize upd K10 p11 (.tup [.str (Str.ofString "get"), .str (Str.ofString "")]) = K11 at t11 r11 A1 s11 rv e9 A0
    have A1 : RpAll M K11 [.ref p10, .ref p11] [.tuple [.str (Str.ofString "get")], .tuple [.str (Str.ofString "get"), .str (Str.ofString "")]] := A1.append (.one r11)
    walk_at "g"
    refine ⟨szK rfl, fun p12 hp12 => ?_⟩
    have t12 : Same K11 (upd K11 p12 (.tup [.str (Str.ofString "get"), .str (Str.ofString "Item")])) := same_new hp12
    have r12 : Rp M (upd K11 p12 (.tup [.str (Str.ofString "get"), .str (Str.ofString "Item")])) (.ref p12) (.tuple [.str (Str.ofString "get"), .str (Str.ofString "Item")]) := Rp.newT (hM.gr (Gr.same s11)) hp12 (.cons (.str _) (.cons (.str _) .nil))
    have A1 := A1.sx (Sx.same (M := M) t12)
    have s12 := s11.trans t12
    have rv := rv.sx (Sx.same (M := M) t12)
    have e9 := t12 _ _ e9
    have A0 := A0.sx (Sx.same (M := M) t12)
    generalize upd K11 p12 (.tup [.str (Str.ofString "get"), .str (Str.ofString "Item")]) = K12 at t12 r12 A1 s12 rv e9 A0
    have A1 : RpAll M K12 [.ref p10, .ref p11, .ref p12] [.tuple [.str (Str.ofString "get")], .tuple [.str (Str.ofString "get"), .str (Str.ofString "")], .tuple [.str (Str.ofString "get"), .str (Str.ofString "Item")]] := A1.append (.one r12)
    walk_at "g"
    refine ⟨szK rfl, fun p13 hp13 => ?_⟩
    have t13 : Same K12 (upd K12 p13 (.tup [.str (Str.ofString "get"), .str (Str.ofString "abcdefghi")])) := same_new hp13
    have r13 : Rp M (upd K12 p13 (.tup [.str (Str.ofString "get"), .str (Str.ofString "abcdefghi")])) (.ref p13) (.tuple [.str (Str.ofString "get"), .str (Str.ofString "abcdefghi")]) := Rp.newT (hM.gr (Gr.same s12)) hp13 (.cons (.str _) (.cons (.str _) .nil))
    have A1 := A1.sx (Sx.same (M := M) t13)
    have s13 := s12.trans t13
    have rv := rv.sx (Sx.same (M := M) t13)
    have e9 := t13 _ _ e9
    have A0 := A0.sx (Sx.same (M := M) t13)
    generalize upd K12 p13 (.tup [.str (Str.ofString "get"), .str (Str.ofString "abcdefghi")]) = K13 at t13 r13 A1 s13 rv e9 A0
    have A1 : RpAll M K13 [.ref p10, .ref p11, .ref p12, .ref p13] [.tuple [.str (Str.ofString "get")], .tuple [.str (Str.ofString "get"), .str (Str.ofString "")], .tuple [.str (Str.ofString "get"), .str (Str.ofString "Item")], .tuple [.str (Str.ofString "get"), .str (Str.ofString "abcdefghi")]] := A1.append (.one r13)
    walk_at "g"
    refine ⟨szK rfl, fun p14 hp14 => ?_⟩
    have t14 : Same K13 (upd K13 p14 (.tup [.str (Str.ofString "get"), .int (7)])) := same_new hp14
    have r14 : Rp M (upd K13 p14 (.tup [.str (Str.ofString "get"), .int (7)])) (.ref p14) (.tuple [.str (Str.ofString "get"), .int (7)]) := Rp.newT (hM.gr (Gr.same s13)) hp14 (.cons (.str _) (.cons (.int _) .nil))
    have A1 := A1.sx (Sx.same (M := M) t14)
    have s14 := s13.trans t14
    have rv := rv.sx (Sx.same (M := M) t14)
    have e9 := t14 _ _ e9
    have A0 := A0.sx (Sx.same (M := M) t14)
    generalize upd K13 p14 (.tup [.str (Str.ofString "get"), .int (7)]) = K14 at t14 r14 A1 s14 rv e9 A0
    have A1 : RpAll M K14 [.ref p10, .ref p11, .ref p12, .ref p13, .ref p14] [.tuple [.str (Str.ofString "get")], .tuple [.str (Str.ofString "get"), .str (Str.ofString "")], .tuple [.str (Str.ofString "get"), .str (Str.ofString "Item")], .tuple [.str (Str.ofString "get"), .str (Str.ofString "abcdefghi")], .tuple [.str (Str.ofString "get"), .int (7)]] := A1.append (.one r14)
    walk_at "g"
    refine ⟨szK rfl, fun p15 hp15 => ?_⟩
    have t15 : Same K14 (upd K14 p15 (.tup [.str (Str.ofString "get"), .non])) := same_new hp15
    have r15 : Rp M (upd K14 p15 (.tup [.str (Str.ofString "get"), .non])) (.ref p15) (.tuple [.str (Str.ofString "get"), .none]) := Rp.newT (hM.gr (Gr.same s14)) hp15 (.cons (.str _) (.cons .non .nil))
    have A1 := A1.sx (Sx.same (M := M) t15)
    have s15 := s14.trans t15
    have rv := rv.sx (Sx.same (M := M) t15)
    have e9 := t15 _ _ e9
    have A0 := A0.sx (Sx.same (M := M) t15)
    generalize upd K14 p15 (.tup [.str (Str.ofString "get"), .non]) = K15 at t15 r15 A1 s15 rv e9 A0
    have A1 : RpAll M K15 [.ref p10, .ref p11, .ref p12, .ref p13, .ref p14, .ref p15] [.tuple [.str (Str.ofString "get")], .tuple [.str (Str.ofString "get"), .str (Str.ofString "")], .tuple [.str (Str.ofString "get"), .str (Str.ofString "Item")], .tuple [.str (Str.ofString "get"), .str (Str.ofString "abcdefghi")], .tuple [.str (Str.ofString "get"), .int (7)], .tuple [.str (Str.ofString "get"), .none]] := A1.append (.one r15)
    walk_at "g"
    refine ⟨szK rfl, fun p16 hp16 => ?_⟩
    have t16 : Same K15 (upd K15 p16 (.lst [.ref p10, .ref p11, .ref p12, .ref p13, .ref p14, .ref p15])) := same_new hp16
    have e16 : upd K15 p16 (.lst [.ref p10, .ref p11, .ref p12, .ref p13, .ref p14, .ref p15]) p16 = some (.lst [.ref p10, .ref p11, .ref p12, .ref p13, .ref p14, .ref p15]) := upd_same
    have A1 := A1.sx (Sx.same (M := M) t16)
    have s16 := s15.trans t16
    have rv := rv.sx (Sx.same (M := M) t16)
    have e9 := t16 _ _ e9
    have A0 := A0.sx (Sx.same (M := M) t16)
    generalize upd K15 p16 (.lst [.ref p10, .ref p11, .ref p12, .ref p13, .ref p14, .ref p15]) = K16 at t16 e16 A1 s16 rv e9 A0
    walk_at "g"
    refine ⟨p9, p16, _, _, rfl, rfl, e9, e16, szK rfl, fun p17 hp17 => ?_⟩
    have t17 : Same K16 (upd K16 p17 (.lst (([.non, .int (3), .str (Str.ofString "item"), .ref p1, .ref p2, .ref p3, .ref p4, .ref p5, .ref p6, .ref p7, .ref p8] : List V) ++ [.ref p10, .ref p11, .ref p12, .ref p13, .ref p14, .ref p15]))) := same_new hp17
    have e17 : upd K16 p17 (.lst (([.non, .int (3), .str (Str.ofString "item"), .ref p1, .ref p2, .ref p3, .ref p4, .ref p5, .ref p6, .ref p7, .ref p8] : List V) ++ [.ref p10, .ref p11, .ref p12, .ref p13, .ref p14, .ref p15])) p17 = some (.lst [.non, .int (3), .str (Str.ofString "item"), .ref p1, .ref p2, .ref p3, .ref p4, .ref p5, .ref p6, .ref p7, .ref p8, .ref p10, .ref p11, .ref p12, .ref p13, .ref p14, .ref p15]) := upd_same
    have B1 : RpAll M (upd K16 p17 (.lst (([.non, .int (3), .str (Str.ofString "item"), .ref p1, .ref p2, .ref p3, .ref p4, .ref p5, .ref p6, .ref p7, .ref p8] : List V) ++ [.ref p10, .ref p11, .ref p12, .ref p13, .ref p14, .ref p15]))) [.non, .int (3), .str (Str.ofString "item"), .ref p1, .ref p2, .ref p3, .ref p4, .ref p5, .ref p6, .ref p7, .ref p8, .ref p10, .ref p11, .ref p12, .ref p13, .ref p14, .ref p15] [.none, .int (3), .str (Str.ofString "item"), .tuple [], .tuple [.str (Str.ofString "is")], .tuple [.str (Str.ofString "is"), .int (10)], .tuple [.str (Str.ofString "is"), .int (-1)], .tuple [.str (Str.ofString "is"), .bool true], .tuple [.str (Str.ofString "is"), .none], .tuple [.str (Str.ofString "is"), .str (Str.ofString "a")], .tuple [.str (Str.ofString "is"), .int (1), .int (2)], .tuple [.str (Str.ofString "get")], .tuple [.str (Str.ofString "get"), .str (Str.ofString "")], .tuple [.str (Str.ofString "get"), .str (Str.ofString "Item")], .tuple [.str (Str.ofString "get"), .str (Str.ofString "abcdefghi")], .tuple [.str (Str.ofString "get"), .int (7)], .tuple [.str (Str.ofString "get"), .none]] := (A0.append A1).sx (Sx.same (M := M) t17)
    have s17 := s16.trans t17
    have rv := rv.sx (Sx.same (M := M) t17)
    generalize upd K16 p17 (.lst (([.non, .int (3), .str (Str.ofString "item"), .ref p1, .ref p2, .ref p3, .ref p4, .ref p5, .ref p6, .ref p7, .ref p8] : List V) ++ [.ref p10, .ref p11, .ref p12, .ref p13, .ref p14, .ref p15])) = K17 at t17 e17 B1 s17 rv
    have A2 : RpAll M K17 [] [] := .nil
    walk_at "g"
    refine ⟨szK rfl, fun p18 hp18 => ?_⟩
    have t18 : Same K17 (upd K17 p18 (.tup [.str (Str.ofString "get"), .str (Str.ofString "at1")])) := same_new hp18
    have r18 : Rp M (upd K17 p18 (.tup [.str (Str.ofString "get"), .str (Str.ofString "at1")])) (.ref p18) (.tuple [.str (Str.ofString "get"), .str (Str.ofString "at1")]) := Rp.newT (hM.gr (Gr.same s17)) hp18 (.cons (.str _) (.cons (.str _) .nil))
    have A2 := A2.sx (Sx.same (M := M) t18)
    have s18 := s17.trans t18
    have rv := rv.sx (Sx.same (M := M) t18)
    have e17 := t18 _ _ e17
    have B1 := B1.sx (Sx.same (M := M) t18)
    generalize upd K17 p18 (.tup [.str (Str.ofString "get"), .str (Str.ofString "at1")]) = K18 at t18 r18 A2 s18 rv e17 B1
    have A2 : RpAll M K18 [.ref p18] [.tuple [.str (Str.ofString "get"), .str (Str.ofString "at1")]] := A2.append (.one r18)
    walk_at "g"
    refine ⟨szK rfl, fun p19 hp19 => ?_⟩
    have t19 : Same K18 (upd K18 p19 (.tup [.str (Str.ofString "get"), .str (Str.ofString "at"), .str (Str.ofString "at")])) := same_new hp19
    have r19 : Rp M (upd K18 p19 (.tup [.str (Str.ofString "get"), .str (Str.ofString "at"), .str (Str.ofString "at")])) (.ref p19) (.tuple [.str (Str.ofString "get"), .str (Str.ofString "at"), .str (Str.ofString "at")]) := Rp.newT (hM.gr (Gr.same s18)) hp19 (.cons (.str _) (.cons (.str _) (.cons (.str _) .nil)))
    have A2 := A2.sx (Sx.same (M := M) t19)
    have s19 := s18.trans t19
    have rv := rv.sx (Sx.same (M := M) t19)
    have e17 := t19 _ _ e17
    have B1 := B1.sx (Sx.same (M := M) t19)
    generalize upd K18 p19 (.tup [.str (Str.ofString "get"), .str (Str.ofString "at"), .str (Str.ofString "at")]) = K19 at t19 r19 A2 s19 rv e17 B1
    have A2 : RpAll M K19 [.ref p18, .ref p19] [.tuple [.str (Str.ofString "get"), .str (Str.ofString "at1")], .tuple [.str (Str.ofString "get"), .str (Str.ofString "at"), .str (Str.ofString "at")]] := A2.append (.one r19)
    walk_at "g"
    refine ⟨szK rfl, fun p20 hp20 => ?_⟩
    have t20 : Same K19 (upd K19 p20 (.tup [.str (Str.ofString "get"), .str (Str.ofString "a b")])) := same_new hp20
    have r20 : Rp M (upd K19 p20 (.tup [.str (Str.ofString "get"), .str (Str.ofString "a b")])) (.ref p20) (.tuple [.str (Str.ofString "get"), .str (Str.ofString "a b")]) := Rp.newT (hM.gr (Gr.same s19)) hp20 (.cons (.str _) (.cons (.str _) .nil))
    have A2 := A2.sx (Sx.same (M := M) t20)
    have s20 := s19.trans t20
    have rv := rv.sx (Sx.same (M := M) t20)
    have e17 := t20 _ _ e17
    have B1 := B1.sx (Sx.same (M := M) t20)
    generalize upd K19 p20 (.tup [.str (Str.ofString "get"), .str (Str.ofString "a b")]) = K20 at t20 r20 A2 s20 rv e17 B1
    have A2 : RpAll M K20 [.ref p18, .ref p19, .ref p20] [.tuple [.str (Str.ofString "get"), .str (Str.ofString "at1")], .tuple [.str (Str.ofString "get"), .str (Str.ofString "at"), .str (Str.ofString "at")], .tuple [.str (Str.ofString "get"), .str (Str.ofString "a b")]] := A2.append (.one r20)
    walk_at "g"
    refine ⟨szK rfl, fun p21 hp21 => ?_⟩
    have t21 : Same K20 (upd K20 p21 (.tup [.str (Str.ofString "sum"), v])) := same_new hp21
    have r21 : Rp M (upd K20 p21 (.tup [.str (Str.ofString "sum"), v])) (.ref p21) (.tuple [.str (Str.ofString "sum"), g.enc]) := Rp.newT (hM.gr (Gr.same s20)) hp21 (.cons (.str _) (.cons rv .nil))
    have A2 := A2.sx (Sx.same (M := M) t21)
    have s21 := s20.trans t21
    have rv := rv.sx (Sx.same (M := M) t21)
    have e17 := t21 _ _ e17
    have B1 := B1.sx (Sx.same (M := M) t21)
    generalize upd K20 p21 (.tup [.str (Str.ofString "sum"), v]) = K21 at t21 r21 A2 s21 rv e17 B1
    have A2 : RpAll M K21 [.ref p18, .ref p19, .ref p20, .ref p21] [.tuple [.str (Str.ofString "get"), .str (Str.ofString "at1")], .tuple [.str (Str.ofString "get"), .str (Str.ofString "at"), .str (Str.ofString "at")], .tuple [.str (Str.ofString "get"), .str (Str.ofString "a b")], .tuple [.str (Str.ofString "sum"), g.enc]] := A2.append (.one r21)
    walk_at "g"
    refine ⟨szK rfl, fun p22 hp22 => ?_⟩
    have t22 : Same K21 (upd K21 p22 (.tup [.str (Str.ofString "sum"), v, v, v])) := same_new hp22
    have r22 : Rp M (upd K21 p22 (.tup [.str (Str.ofString "sum"), v, v, v])) (.ref p22) (.tuple [.str (Str.ofString "sum"), g.enc, g.enc, g.enc]) := Rp.newT (hM.gr (Gr.same s21)) hp22 (.cons (.str _) (.cons rv (.cons rv (.cons rv .nil))))
    have A2 := A2.sx (Sx.same (M := M) t22)
    have s22 := s21.trans t22
    have rv := rv.sx (Sx.same (M := M) t22)
    have e17 := t22 _ _ e17
    have B1 := B1.sx (Sx.same (M := M) t22)
    generalize upd K21 p22 (.tup [.str (Str.ofString "sum"), v, v, v]) = K22 at t22 r22 A2 s22 rv e17 B1
    have A2 : RpAll M K22 [.ref p18, .ref p19, .ref p20, .ref p21, .ref p22] [.tuple [.str (Str.ofString "get"), .str (Str.ofString "at1")], .tuple [.str (Str.ofString "get"), .str (Str.ofString "at"), .str (Str.ofString "at")], .tuple [.str (Str.ofString "get"), .str (Str.ofString "a b")], .tuple [.str (Str.ofString "sum"), g.enc], .tuple [.str (Str.ofString "sum"), g.enc, g.enc, g.enc]] := A2.append (.one r22)
    walk_at "g"
    refine ⟨szK rfl, fun p23 hp23 => ?_⟩
    have t23 : Same K22 (upd K22 p23 (.lst [.ref p18, .ref p19, .ref p20, .ref p21, .ref p22])) := same_new hp23
    have e23 : upd K22 p23 (.lst [.ref p18, .ref p19, .ref p20, .ref p21, .ref p22]) p23 = some (.lst [.ref p18, .ref p19, .ref p20, .ref p21, .ref p22]) := upd_same
    have A2 := A2.sx (Sx.same (M := M) t23)
    have s23 := s22.trans t23
    have rv := rv.sx (Sx.same (M := M) t23)
    have e17 := t23 _ _ e17
    have B1 := B1.sx (Sx.same (M := M) t23)
    generalize upd K22 p23 (.lst [.ref p18, .ref p19, .ref p20, .ref p21, .ref p22]) = K23 at t23 e23 A2 s23 rv e17 B1
    walk_at "g"
    refine ⟨p17, p23, _, _, rfl, rfl, e17, e23, szK rfl, fun p24 hp24 => ?_⟩
    have t24 : Same K23 (upd K23 p24 (.lst (([.non, .int (3), .str (Str.ofString "item"), .ref p1, .ref p2, .ref p3, .ref p4, .ref p5, .ref p6, .ref p7, .ref p8, .ref p10, .ref p11, .ref p12, .ref p13, .ref p14, .ref p15] : List V) ++ [.ref p18, .ref p19, .ref p20, .ref p21, .ref p22]))) := same_new hp24
    have e24 : upd K23 p24 (.lst (([.non, .int (3), .str (Str.ofString "item"), .ref p1, .ref p2, .ref p3, .ref p4, .ref p5, .ref p6, .ref p7, .ref p8, .ref p10, .ref p11, .ref p12, .ref p13, .ref p14, .ref p15] : List V) ++ [.ref p18, .ref p19, .ref p20, .ref p21, .ref p22])) p24 = some (.lst [.non, .int (3), .str (Str.ofString "item"), .ref p1, .ref p2, .ref p3, .ref p4, .ref p5, .ref p6, .ref p7, .ref p8, .ref p10, .ref p11, .ref p12, .ref p13, .ref p14, .ref p15, .ref p18, .ref p19, .ref p20, .ref p21, .ref p22]) := upd_same
    have B2 : RpAll M (upd K23 p24 (.lst (([.non, .int (3), .str (Str.ofString "item"), .ref p1, .ref p2, .ref p3, .ref p4, .ref p5, .ref p6, .ref p7, .ref p8, .ref p10, .ref p11, .ref p12, .ref p13, .ref p14, .ref p15] : List V) ++ [.ref p18, .ref p19, .ref p20, .ref p21, .ref p22]))) [.non, .int (3), .str (Str.ofString "item"), .ref p1, .ref p2, .ref p3, .ref p4, .ref p5, .ref p6, .ref p7, .ref p8, .ref p10, .ref p11, .ref p12, .ref p13, .ref p14, .ref p15, .ref p18, .ref p19, .ref p20, .ref p21, .ref p22] [.none, .int (3), .str (Str.ofString "item"), .tuple [], .tuple [.str (Str.ofString "is")], .tuple [.str (Str.ofString "is"), .int (10)], .tuple [.str (Str.ofString "is"), .int (-1)], .tuple [.str (Str.ofString "is"), .bool true], .tuple [.str (Str.ofString "is"), .none], .tuple [.str (Str.ofString "is"), .str (Str.ofString "a")], .tuple [.str (Str.ofString "is"), .int (1), .int (2)], .tuple [.str (Str.ofString "get")], .tuple [.str (Str.ofString "get"), .str (Str.ofString "")], .tuple [.str (Str.ofString "get"), .str (Str.ofString "Item")], .tuple [.str (Str.ofString "get"), .str (Str.ofString "abcdefghi")], .tuple [.str (Str.ofString "get"), .int (7)], .tuple [.str (Str.ofString "get"), .none], .tuple [.str (Str.ofString "get"), .str (Str.ofString "at1")], .tuple [.str (Str.ofString "get"), .str (Str.ofString "at"), .str (Str.ofString "at")], .tuple [.str (Str.ofString "get"), .str (Str.ofString "a b")], .tuple [.str (Str.ofString "sum"), g.enc], .tuple [.str (Str.ofString "sum"), g.enc, g.enc, g.enc]] := (B1.append A2).sx (Sx.same (M := M) t24)
    have s24 := s23.trans t24
    have rv := rv.sx (Sx.same (M := M) t24)
    generalize upd K23 p24 (.lst (([.non, .int (3), .str (Str.ofString "item"), .ref p1, .ref p2, .ref p3, .ref p4, .ref p5, .ref p6, .ref p7, .ref p8, .ref p10, .ref p11, .ref p12, .ref p13, .ref p14, .ref p15] : List V) ++ [.ref p18, .ref p19, .ref p20, .ref p21, .ref p22])) = K24 at t24 e24 B2 s24 rv
    have A3 : RpAll M K24 [] [] := .nil
    walk_at "g"
    refine ⟨szK rfl, fun p25 hp25 => ?_⟩
    have t25 : Same K24 (upd K24 p25 (.tup [.str (Str.ofString "same"), v])) := same_new hp25
    have r25 : Rp M (upd K24 p25 (.tup [.str (Str.ofString "same"), v])) (.ref p25) (.tuple [.str (Str.ofString "same"), g.enc]) := Rp.newT (hM.gr (Gr.same s24)) hp25 (.cons (.str _) (.cons rv .nil))
    have A3 := A3.sx (Sx.same (M := M) t25)
    have s25 := s24.trans t25
    have rv := rv.sx (Sx.same (M := M) t25)
    have e24 := t25 _ _ e24
    have B2 := B2.sx (Sx.same (M := M) t25)
    generalize upd K24 p25 (.tup [.str (Str.ofString "same"), v]) = K25 at t25 r25 A3 s25 rv e24 B2
    have A3 : RpAll M K25 [.ref p25] [.tuple [.str (Str.ofString "same"), g.enc]] := A3.append (.one r25)
    walk_at "g"
    refine ⟨szK rfl, fun p26 hp26 => ?_⟩
    have t26 : Same K25 (upd K25 p26 (.tup [.str (Str.ofString "same"), v, v, v])) := same_new hp26
    have r26 : Rp M (upd K25 p26 (.tup [.str (Str.ofString "same"), v, v, v])) (.ref p26) (.tuple [.str (Str.ofString "same"), g.enc, g.enc, g.enc]) := Rp.newT (hM.gr (Gr.same s25)) hp26 (.cons (.str _) (.cons rv (.cons rv (.cons rv .nil))))
    have A3 := A3.sx (Sx.same (M := M) t26)
    have s26 := s25.trans t26
    have rv := rv.sx (Sx.same (M := M) t26)
    have e24 := t26 _ _ e24
    have B2 := B2.sx (Sx.same (M := M) t26)
    generalize upd K25 p26 (.tup [.str (Str.ofString "same"), v, v, v]) = K26 at t26 r26 A3 s26 rv e24 B2
    have A3 : RpAll M K26 [.ref p25, .ref p26] [.tuple [.str (Str.ofString "same"), g.enc], .tuple [.str (Str.ofString "same"), g.enc, g.enc, g.enc]] := A3.append (.one r26)
    walk_at "g"
    refine ⟨szK rfl, fun p27 hp27 => ?_⟩
    have t27 : Same K26 (upd K26 p27 (.lst [.ref p25, .ref p26])) := same_new hp27
    have e27 : upd K26 p27 (.lst [.ref p25, .ref p26]) p27 = some (.lst [.ref p25, .ref p26]) := upd_same
    have A3 := A3.sx (Sx.same (M := M) t27)
    have s27 := s26.trans t27
    have rv := rv.sx (Sx.same (M := M) t27)
    have e24 := t27 _ _ e24
    have B2 := B2.sx (Sx.same (M := M) t27)
    generalize upd K26 p27 (.lst [.ref p25, .ref p26]) = K27 at t27 e27 A3 s27 rv e24 B2
    walk_at "g"
    refine ⟨p24, p27, _, _, rfl, rfl, e24, e27, szK rfl, fun p28 hp28 => ?_⟩
    have t28 : Same K27 (upd K27 p28 (.lst (([.non, .int (3), .str (Str.ofString "item"), .ref p1, .ref p2, .ref p3, .ref p4, .ref p5, .ref p6, .ref p7, .ref p8, .ref p10, .ref p11, .ref p12, .ref p13, .ref p14, .ref p15, .ref p18, .ref p19, .ref p20, .ref p21, .ref p22] : List V) ++ [.ref p25, .ref p26]))) := same_new hp28
    have e28 : upd K27 p28 (.lst (([.non, .int (3), .str (Str.ofString "item"), .ref p1, .ref p2, .ref p3, .ref p4, .ref p5, .ref p6, .ref p7, .ref p8, .ref p10, .ref p11, .ref p12, .ref p13, .ref p14, .ref p15, .ref p18, .ref p19, .ref p20, .ref p21, .ref p22] : List V) ++ [.ref p25, .ref p26])) p28 = some (.lst [.non, .int (3), .str (Str.ofString "item"), .ref p1, .ref p2, .ref p3, .ref p4, .ref p5, .ref p6, .ref p7, .ref p8, .ref p10, .ref p11, .ref p12, .ref p13, .ref p14, .ref p15, .ref p18, .ref p19, .ref p20, .ref p21, .ref p22, .ref p25, .ref p26]) := upd_same
    have B3 : RpAll M (upd K27 p28 (.lst (([.non, .int (3), .str (Str.ofString "item"), .ref p1, .ref p2, .ref p3, .ref p4, .ref p5, .ref p6, .ref p7, .ref p8, .ref p10, .ref p11, .ref p12, .ref p13, .ref p14, .ref p15, .ref p18, .ref p19, .ref p20, .ref p21, .ref p22] : List V) ++ [.ref p25, .ref p26]))) [.non, .int (3), .str (Str.ofString "item"), .ref p1, .ref p2, .ref p3, .ref p4, .ref p5, .ref p6, .ref p7, .ref p8, .ref p10, .ref p11, .ref p12, .ref p13, .ref p14, .ref p15, .ref p18, .ref p19, .ref p20, .ref p21, .ref p22, .ref p25, .ref p26] [.none, .int (3), .str (Str.ofString "item"), .tuple [], .tuple [.str (Str.ofString "is")], .tuple [.str (Str.ofString "is"), .int (10)], .tuple [.str (Str.ofString "is"), .int (-1)], .tuple [.str (Str.ofString "is"), .bool true], .tuple [.str (Str.ofString "is"), .none], .tuple [.str (Str.ofString "is"), .str (Str.ofString "a")], .tuple [.str (Str.ofString "is"), .int (1), .int (2)], .tuple [.str (Str.ofString "get")], .tuple [.str (Str.ofString "get"), .str (Str.ofString "")], .tuple [.str (Str.ofString "get"), .str (Str.ofString "Item")], .tuple [.str (Str.ofString "get"), .str (Str.ofString "abcdefghi")], .tuple [.str (Str.ofString "get"), .int (7)], .tuple [.str (Str.ofString "get"), .none], .tuple [.str (Str.ofString "get"), .str (Str.ofString "at1")], .tuple [.str (Str.ofString "get"), .str (Str.ofString "at"), .str (Str.ofString "at")], .tuple [.str (Str.ofString "get"), .str (Str.ofString "a b")], .tuple [.str (Str.ofString "sum"), g.enc], .tuple [.str (Str.ofString "sum"), g.enc, g.enc, g.enc], .tuple [.str (Str.ofString "same"), g.enc], .tuple [.str (Str.ofString "same"), g.enc, g.enc, g.enc]] := (B2.append A3).sx (Sx.same (M := M) t28)
    have s28 := s27.trans t28
    have rv := rv.sx (Sx.same (M := M) t28)
    generalize upd K27 p28 (.lst (([.non, .int (3), .str (Str.ofString "item"), .ref p1, .ref p2, .ref p3, .ref p4, .ref p5, .ref p6, .ref p7, .ref p8, .ref p10, .ref p11, .ref p12, .ref p13, .ref p14, .ref p15, .ref p18, .ref p19, .ref p20, .ref p21, .ref p22] : List V) ++ [.ref p25, .ref p26])) = K28 at t28 e28 B3 s28 rv
    have A4 : RpAll M K28 [] [] := .nil
    walk_at "g"
    refine ⟨szK rfl, fun p29 hp29 => ?_⟩
    have t29 : Same K28 (upd K28 p29 (.tup [.str (Str.ofString "pick"), v, v])) := same_new hp29
    have r29 : Rp M (upd K28 p29 (.tup [.str (Str.ofString "pick"), v, v])) (.ref p29) (.tuple [.str (Str.ofString "pick"), g.enc, g.enc]) := Rp.newT (hM.gr (Gr.same s28)) hp29 (.cons (.str _) (.cons rv (.cons rv .nil)))
    have A4 := A4.sx (Sx.same (M := M) t29)
    have s29 := s28.trans t29
    have rv := rv.sx (Sx.same (M := M) t29)
    have e28 := t29 _ _ e28
    have B3 := B3.sx (Sx.same (M := M) t29)
    generalize upd K28 p29 (.tup [.str (Str.ofString "pick"), v, v]) = K29 at t29 r29 A4 s29 rv e28 B3
    have A4 : RpAll M K29 [.ref p29] [.tuple [.str (Str.ofString "pick"), g.enc, g.enc]] := A4.append (.one r29)
    walk_at "g"
    refine ⟨szK rfl, fun p30 hp30 => ?_⟩
    have t30 : Same K29 (upd K29 p30 (.tup [.str (Str.ofString "add"), v, v])) := same_new hp30
    have r30 : Rp M (upd K29 p30 (.tup [.str (Str.ofString "add"), v, v])) (.ref p30) (.tuple [.str (Str.ofString "add"), g.enc, g.enc]) := Rp.newT (hM.gr (Gr.same s29)) hp30 (.cons (.str _) (.cons rv (.cons rv .nil)))
    have A4 := A4.sx (Sx.same (M := M) t30)
    have s30 := s29.trans t30
    have rv := rv.sx (Sx.same (M := M) t30)
    have e28 := t30 _ _ e28
    have B3 := B3.sx (Sx.same (M := M) t30)
    generalize upd K29 p30 (.tup [.str (Str.ofString "add"), v, v]) = K30 at t30 r30 A4 s30 rv e28 B3
    have A4 : RpAll M K30 [.ref p29, .ref p30] [.tuple [.str (Str.ofString "pick"), g.enc, g.enc], .tuple [.str (Str.ofString "add"), g.enc, g.enc]] := A4.append (.one r30)
    walk_at "g"
    refine ⟨szK rfl, fun p31 hp31 => ?_⟩
    have t31 : Same K30 (upd K30 p31 (.tup [.int (7)])) := same_new hp31
    have r31 : Rp M (upd K30 p31 (.tup [.int (7)])) (.ref p31) (.tuple [.int (7)]) := Rp.newT (hM.gr (Gr.same s30)) hp31 (.cons (.int _) .nil)
    have A4 := A4.sx (Sx.same (M := M) t31)
    have s31 := s30.trans t31
    have rv := rv.sx (Sx.same (M := M) t31)
    have e28 := t31 _ _ e28
    have B3 := B3.sx (Sx.same (M := M) t31)
    generalize upd K30 p31 (.tup [.int (7)]) = K31 at t31 r31 A4 s31 rv e28 B3
    have A4 : RpAll M K31 [.ref p29, .ref p30, .ref p31] [.tuple [.str (Str.ofString "pick"), g.enc, g.enc], .tuple [.str (Str.ofString "add"), g.enc, g.enc], .tuple [.int (7)]] := A4.append (.one r31)
    walk_at "g"
    refine ⟨szK rfl, fun p32 hp32 => ?_⟩
    have t32 : Same K31 (upd K31 p32 (.tup [.non, v])) := same_new hp32
    have r32 : Rp M (upd K31 p32 (.tup [.non, v])) (.ref p32) (.tuple [.none, g.enc]) := Rp.newT (hM.gr (Gr.same s31)) hp32 (.cons .non (.cons rv .nil))
    have A4 := A4.sx (Sx.same (M := M) t32)
    have s32 := s31.trans t32
    have rv := rv.sx (Sx.same (M := M) t32)
    have e28 := t32 _ _ e28
    have B3 := B3.sx (Sx.same (M := M) t32)
    generalize upd K31 p32 (.tup [.non, v]) = K32 at t32 r32 A4 s32 rv e28 B3
    have A4 : RpAll M K32 [.ref p29, .ref p30, .ref p31, .ref p32] [.tuple [.str (Str.ofString "pick"), g.enc, g.enc], .tuple [.str (Str.ofString "add"), g.enc, g.enc], .tuple [.int (7)], .tuple [.none, g.enc]] := A4.append (.one r32)
    walk_at "g"
    refine ⟨szK rfl, fun p33 hp33 => ?_⟩
    have t33 : Same K32 (upd K32 p33 (.lst [.str (Str.ofString "is"), .int (3)])) := same_new hp33
    have r33 : Rp M (upd K32 p33 (.lst [.str (Str.ofString "is"), .int (3)])) (.ref p33) (.list [.str (Str.ofString "is"), .int (3)]) := Rp.newL (hM.gr (Gr.same s32)) hp33 (.cons (.str _) (.cons (.int _) .nil))
    have A4 := A4.sx (Sx.same (M := M) t33)
    have s33 := s32.trans t33
    have rv := rv.sx (Sx.same (M := M) t33)
    have e28 := t33 _ _ e28
    have B3 := B3.sx (Sx.same (M := M) t33)
    generalize upd K32 p33 (.lst [.str (Str.ofString "is"), .int (3)]) = K33 at t33 r33 A4 s33 rv e28 B3
    have A4 : RpAll M K33 [.ref p29, .ref p30, .ref p31, .ref p32, .ref p33] [.tuple [.str (Str.ofString "pick"), g.enc, g.enc], .tuple [.str (Str.ofString "add"), g.enc, g.enc], .tuple [.int (7)], .tuple [.none, g.enc], .list [.str (Str.ofString "is"), .int (3)]] := A4.append (.one r33)
    walk_at "g"
    refine ⟨szK rfl, fun p34 hp34 => ?_⟩
    have t34 : Same K33 (upd K33 p34 (.lst [.str (Str.ofString "get"), .str (Str.ofString "item")])) := same_new hp34
    have r34 : Rp M (upd K33 p34 (.lst [.str (Str.ofString "get"), .str (Str.ofString "item")])) (.ref p34) (.list [.str (Str.ofString "get"), .str (Str.ofString "item")]) := Rp.newL (hM.gr (Gr.same s33)) hp34 (.cons (.str _) (.cons (.str _) .nil))
    have A4 := A4.sx (Sx.same (M := M) t34)
    have s34 := s33.trans t34
    have rv := rv.sx (Sx.same (M := M) t34)
    have e28 := t34 _ _ e28
    have B3 := B3.sx (Sx.same (M := M) t34)
    generalize upd K33 p34 (.lst [.str (Str.ofString "get"), .str (Str.ofString "item")]) = K34 at t34 r34 A4 s34 rv e28 B3
    have A4 : RpAll M K34 [.ref p29, .ref p30, .ref p31, .ref p32, .ref p33, .ref p34] [.tuple [.str (Str.ofString "pick"), g.enc, g.enc], .tuple [.str (Str.ofString "add"), g.enc, g.enc], .tuple [.int (7)], .tuple [.none, g.enc], .list [.str (Str.ofString "is"), .int (3)], .list [.str (Str.ofString "get"), .str (Str.ofString "item")]] := A4.append (.one r34)
    walk_at "g"
    refine ⟨szK rfl, fun p35 hp35 => ?_⟩
    have t35 : Same K34 (upd K34 p35 (.lst [.ref p29, .ref p30, .ref p31, .ref p32, .ref p33, .ref p34])) := same_new hp35
    have e35 : upd K34 p35 (.lst [.ref p29, .ref p30, .ref p31, .ref p32, .ref p33, .ref p34]) p35 = some (.lst [.ref p29, .ref p30, .ref p31, .ref p32, .ref p33, .ref p34]) := upd_same
    have A4 := A4.sx (Sx.same (M := M) t35)
    have s35 := s34.trans t35
    have rv := rv.sx (Sx.same (M := M) t35)
    have e28 := t35 _ _ e28
    have B3 := B3.sx (Sx.same (M := M) t35)
    generalize upd K34 p35 (.lst [.ref p29, .ref p30, .ref p31, .ref p32, .ref p33, .ref p34]) = K35 at t35 e35 A4 s35 rv e28 B3
    walk_at "g"
    refine ⟨p28, p35, _, _, rfl, rfl, e28, e35, szK rfl, fun p36 hp36 => ?_⟩
    have t36 : Same K35 (upd K35 p36 (.lst (([.non, .int (3), .str (Str.ofString "item"), .ref p1, .ref p2, .ref p3, .ref p4, .ref p5, .ref p6, .ref p7, .ref p8, .ref p10, .ref p11, .ref p12, .ref p13, .ref p14, .ref p15, .ref p18, .ref p19, .ref p20, .ref p21, .ref p22, .ref p25, .ref p26] : List V) ++ [.ref p29, .ref p30, .ref p31, .ref p32, .ref p33, .ref p34]))) := same_new hp36
    have e36 : upd K35 p36 (.lst (([.non, .int (3), .str (Str.ofString "item"), .ref p1, .ref p2, .ref p3, .ref p4, .ref p5, .ref p6, .ref p7, .ref p8, .ref p10, .ref p11, .ref p12, .ref p13, .ref p14, .ref p15, .ref p18, .ref p19, .ref p20, .ref p21, .ref p22, .ref p25, .ref p26] : List V) ++ [.ref p29, .ref p30, .ref p31, .ref p32, .ref p33, .ref p34])) p36 = some (.lst [.non, .int (3), .str (Str.ofString "item"), .ref p1, .ref p2, .ref p3, .ref p4, .ref p5, .ref p6, .ref p7, .ref p8, .ref p10, .ref p11, .ref p12, .ref p13, .ref p14, .ref p15, .ref p18, .ref p19, .ref p20, .ref p21, .ref p22, .ref p25, .ref p26, .ref p29, .ref p30, .ref p31, .ref p32, .ref p33, .ref p34]) := upd_same
    have B4 : RpAll M (upd K35 p36 (.lst (([.non, .int (3), .str (Str.ofString "item"), .ref p1, .ref p2, .ref p3, .ref p4, .ref p5, .ref p6, .ref p7, .ref p8, .ref p10, .ref p11, .ref p12, .ref p13, .ref p14, .ref p15, .ref p18, .ref p19, .ref p20, .ref p21, .ref p22, .ref p25, .ref p26] : List V) ++ [.ref p29, .ref p30, .ref p31, .ref p32, .ref p33, .ref p34]))) [.non, .int (3), .str (Str.ofString "item"), .ref p1, .ref p2, .ref p3, .ref p4, .ref p5, .ref p6, .ref p7, .ref p8, .ref p10, .ref p11, .ref p12, .ref p13, .ref p14, .ref p15, .ref p18, .ref p19, .ref p20, .ref p21, .ref p22, .ref p25, .ref p26, .ref p29, .ref p30, .ref p31, .ref p32, .ref p33, .ref p34] [.none, .int (3), .str (Str.ofString "item"), .tuple [], .tuple [.str (Str.ofString "is")], .tuple [.str (Str.ofString "is"), .int (10)], .tuple [.str (Str.ofString "is"), .int (-1)], .tuple [.str (Str.ofString "is"), .bool true], .tuple [.str (Str.ofString "is"), .none], .tuple [.str (Str.ofString "is"), .str (Str.ofString "a")], .tuple [.str (Str.ofString "is"), .int (1), .int (2)], .tuple [.str (Str.ofString "get")], .tuple [.str (Str.ofString "get"), .str (Str.ofString "")], .tuple [.str (Str.ofString "get"), .str (Str.ofString "Item")], .tuple [.str (Str.ofString "get"), .str (Str.ofString "abcdefghi")], .tuple [.str (Str.ofString "get"), .int (7)], .tuple [.str (Str.ofString "get"), .none], .tuple [.str (Str.ofString "get"), .str (Str.ofString "at1")], .tuple [.str (Str.ofString "get"), .str (Str.ofString "at"), .str (Str.ofString "at")], .tuple [.str (Str.ofString "get"), .str (Str.ofString "a b")], .tuple [.str (Str.ofString "sum"), g.enc], .tuple [.str (Str.ofString "sum"), g.enc, g.enc, g.enc], .tuple [.str (Str.ofString "same"), g.enc], .tuple [.str (Str.ofString "same"), g.enc, g.enc, g.enc], .tuple [.str (Str.ofString "pick"), g.enc, g.enc], .tuple [.str (Str.ofString "add"), g.enc, g.enc], .tuple [.int (7)], .tuple [.none, g.enc], .list [.str (Str.ofString "is"), .int (3)], .list [.str (Str.ofString "get"), .str (Str.ofString "item")]] := (B3.append A4).sx (Sx.same (M := M) t36)
    have s36 := s35.trans t36
    have rv := rv.sx (Sx.same (M := M) t36)
    generalize upd K35 p36 (.lst (([.non, .int (3), .str (Str.ofString "item"), .ref p1, .ref p2, .ref p3, .ref p4, .ref p5, .ref p6, .ref p7, .ref p8, .ref p10, .ref p11, .ref p12, .ref p13, .ref p14, .ref p15, .ref p18, .ref p19, .ref p20, .ref p21, .ref p22, .ref p25, .ref p26] : List V) ++ [.ref p29, .ref p30, .ref p31, .ref p32, .ref p33, .ref p34])) = K36 at t36 e36 B4 s36 rv
    walk_at "g"
    have pb : p36 ≠ b := fun z => hB.there (s35.free (by rw [← z]; exact hp36))
    refine ⟨b, p36, _, M, rfl, hB.same s36, SqL.of e36, pb, by simp, by simp, fun vc H2 hvc hA2 hB2 => ?_⟩
    obtain ⟨d, hd, rd⟩ := B4.memD vc hvc
    have mb := hB.w
    refine q _ _ d ((Sx.same s36).trans hA2.sx) ((Gr.same s36).trans (At.gr hA2 hB2.there)) hB2 (rd.sx (hA2.sx.le (one_le mb))) ?_
    exact odd_all hok hdep hd
end
end D

namespace D
open PySem PySem.Spec PyProof.Rows L2
local macro_rules | `(tactic| walk_at "st") => `(tactic| first | exact SqT.of (by assumption) | exact Or.inl (by assumption) | exact SqT.of upd_same | fail "st")
local macro_rules | `(tactic| walk_at "ixt") => `(tactic| refine ⟨_, _, _, _, rfl, rfl, (by walk_at "st" : SqT _ _ _ _), by rfl, ?_⟩)
local macro_rules | `(tactic| walk_at "sq") => `(tactic| first | exact SqL.of (by assumption) | assumption | exact Or.inl (by assumption) | exact SqL.of upd_same | fail "sq")
local macro_rules | `(tactic| walk_at "ix") => `(tactic| refine ⟨_, _, _, _, rfl, rfl, (by walk_at "sq" : SqL _ _ _ _), by rfl, ?_⟩)
local macro_rules | `(tactic| walk_at "set") => `(tactic| refine ⟨_, _, _, _, rfl, rfl, by first | assumption | exact upd_same, by rfl, ?_⟩)
local macro_rules | `(tactic| walk_at "len") => `(tactic| refine ⟨_, _, rfl, Or.inl (by walk_at "sq" : SqL _ _ _ _), ?_⟩)
local macro_rules | `(tactic| walk_at "g") => `(tactic| repeat (first | refine ⟨_, rfl, ?_⟩ | refine ⟨_, _, rfl, rfl, ?_⟩ | refine ⟨Or.inr (by decide), ?_⟩ | refine ⟨Or.inl (by decide), ?_⟩ | refine ⟨(by decide : (0 : Int) < _), ?_⟩ | refine ⟨(⟨by decide, by decide⟩ : CDiv _ _), ?_⟩ | refine ⟨(⟨by decide, by decide, by decide⟩ : CPow _ _), ?_⟩ | refine Or.inl ⟨_, rfl, ?_⟩ | refine ⟨rfl, ?_⟩ | walk_at "ix" | walk_at "ixt" | walk_at "len" | fail "g"))
local macro_rules | `(tactic| walk_at "if") => `(tactic| refine ite2 (fun e => ?_) (fun e => ?_))
section
variable {P : Program} {w : World} {K : PySem.W.Frag} {mg : Str → Option Value} {base : Heap}
theorem RpAll.dropTake {M : Ms} {H : Hp} : ∀ (i n : Nat) {xs : List V} {ds : List PyData}, RpAll M H xs ds → RpAll M H ((xs.drop i).take n) ((ds.drop i).take n)
  | 0, 0, xs, ds, h => by rw [List.take_zero, List.take_zero]; exact .nil
  | 0, n + 1, [], ds, h => by cases h; exact .nil
  | 0, n + 1, x :: xs, ds, h => by
    cases h with
    | cons h1 h2 => exact .cons h1 (RpAll.dropTake 0 n h2)
  | i + 1, n, [], ds, h => by cases h; rw [List.drop_nil, List.drop_nil, List.take_nil, List.take_nil]; exact .nil
  | i + 1, n, x :: xs, ds, h => by
    cases h with
    | cons h1 h2 => exact RpAll.dropTake i n h2
def SpD (n : Nat) (o d : PyData) : Prop := okF (n + 1) d ∧ fbF (n + 1) d = some o ∧ Gd (40000 + 11000 * n) (14 + n) d
theorem odd_sp {n : Nat} {o : PyData} (h : OddD o) : SpD n o o := ⟨⟨h.1, fun z => by rw [h.2.1] at z; cases z⟩, by
  show (if pWell o = true then _ else some o) = _
  rw [if_neg (by rw [h.2.1]; decide)], h.2.2.le (by omega) (by omega)⟩
theorem cut_lo (xs : List V) (n : Nat) : cutV xs (some (n : Int)) none = xs.drop n := by
  unfold cutV
  rw [HT.sIx_nat, HT.sIx_none]
  by_cases h : n ≤ xs.length
  · rw [Nat.min_eq_left h]
    exact List.take_of_length_le (by rw [List.length_drop]; omega)
  · rw [List.drop_of_length_le (by omega), List.drop_of_length_le (by omega), List.take_nil]
theorem GdAll.app {C n : Nat} {es : List PyData} (g : GdAll C n es) : ∀ {ds : List PyData} {B : Nat}, GdAll B n ds → GdAll (B + C) n (ds ++ es)
  | [], B, h => g.le (by omega) (Nat.le_refl _)
  | d :: r, B, h => by
    have h1 := h.lay
    have h2 := h.deep
    have h3 := h.short
    have h4 := h.show'
    have h5 := h.nod
    have h6 := h.bulk
    simp only [PyData.canLayAll0, PyData.depthAll, PyData.leavesShortAll, PyData.showableAll, PyData.hasDictAll, PyData.bulkAll, Bool.and_eq_true, Bool.or_eq_false_iff] at h1 h2 h3 h4 h5 h6
    have hr : GdAll (PyData.bulkAll r) n r := ⟨h1.2, by omega, h3.2, h4.2, h5.2, Nat.le_refl _⟩
    have hd : Gd (PyData.bulk d) n d := ⟨h1.1, by omega, h3.1, h4.1, h5.1, Nat.le_refl _⟩
    exact ((GdAll.app g hr).cons hd).le (by omega) (Nat.le_refl _)
theorem word_facts (f : Fm) (h : f.subs ≠ []) : wordOk f.word ∧ pMany f.word = some f.subs.length ∧ f.word ≠ sIs ∧ f.word ≠ sGet ∧ 2 ≤ f.subs.length := by
  cases f with
  | is n => exact absurd rfl h
  | get x => exact absurd rfl h
  | sum a b => exact ⟨.inr (.inr (.inl rfl)), by show pMany sSum = some 2; decide, by show sSum ≠ sIs; decide, by show sSum ≠ sGet; decide, by simp [Fm.subs]⟩
  | same a b => exact ⟨.inr (.inr (.inr (.inl rfl))), by show pMany sSame = some 2; decide, by show sSame ≠ sIs; decide, by show sSame ≠ sGet; decide, by simp [Fm.subs]⟩
  | pick a b c => exact ⟨.inr (.inr (.inr (.inr (.inl rfl)))), by show pMany sPick = some 3; decide, by show sPick ≠ sIs; decide, by show sPick ≠ sGet; decide, by simp [Fm.subs]⟩
theorem word_gd (f : Fm) : Gd 8 0 (.str f.word) := by
  cases f with
  | is _ => exact gword sIs (by decide +kernel) (by decide +kernel)
  | get _ => exact gword sGet (by decide +kernel) (by decide +kernel)
  | sum _ _ => exact gword sSum (by decide +kernel) (by decide +kernel)
  | same _ _ => exact gword sSame (by decide +kernel) (by decide +kernel)
  | pick _ _ _ => exact gword sPick (by decide +kernel) (by decide +kernel)
def spl (f : Fm) (j : Nat) (d : PyData) : List PyData := (f.subs.map Fm.enc).take j ++ d :: (f.subs.map Fm.enc).drop (j + 1)
theorem sp_step {f : Fm} {n j : Nat} {o d : PyData} (h : f.subs ≠ []) (hj : j < f.subs.length) (hok : f.ok isNm) (hd : f.dep ≤ n + 1) (hn : n ≤ 4) (s : SpD n o d) : SpD (n + 1) o (.tuple (.str f.word :: spl f j d)) := by
  obtain ⟨w1, w2, w3, w4, w5⟩ := word_facts f h
  have h3 := subs_len f
  have len : (spl f j d).length = f.subs.length := by
    unfold spl
    rw [List.length_append, List.length_cons, List.length_take, List.length_drop, List.length_map]
    omega
  have hw : pWell (.tuple (.str f.word :: spl f j d)) = true := by
    rw [well_many w3 w4 w2]
    exact decide_eq_true len
  have hin : pInn (.tuple (.str f.word :: spl f j d)) = spl f j d := by
    rw [inn_of, if_pos (by rw [w2]; rfl)]
  have mem : ∀ c ∈ spl f j d, c = d ∨ ∃ g ∈ f.subs, c = g.enc := fun c hc => by
    unfold spl at hc
    rcases List.mem_append.mp hc with hc | hc
    · obtain ⟨g, hg, e⟩ := List.mem_map.mp (List.mem_of_mem_take hc)
      exact .inr ⟨g, hg, e.symm⟩
    · rcases List.mem_cons.mp hc with hc | hc
      · exact .inl hc
      · obtain ⟨g, hg, e⟩ := List.mem_map.mp (List.mem_of_mem_drop hc)
        exact .inr ⟨g, hg, e.symm⟩
  obtain ⟨s1, s2, s3⟩ := s
  refine ⟨⟨fun w r e => ?_, fun _ => ?_⟩, ?_, ?_⟩
  · cases e
    refine ⟨w1, by omega, fun x e => ?_⟩
    rw [e] at len
    simp at len
    omega
  · rw [hin]
    refine ⟨by omega, fun c hc => ?_⟩
    rcases mem c hc with rfl | ⟨g, hg, rfl⟩
    · exact s1
    · have := subs_dep hg
      exact fm_okF (n + 1) g (subs_ok hok hg) (by omega)
  · show (if pWell _ = true then _ else _) = _
    rw [if_pos hw, hin]
    unfold spl
    rw [List.findSome?_append]
    have e1 : ((f.subs.map Fm.enc).take j).findSome? (fbF (n + 1)) = none := by
      rw [List.findSome?_eq_none_iff]
      intro c hc
      obtain ⟨g, hg, rfl⟩ := List.mem_map.mp (List.mem_of_mem_take hc)
      exact fm_fbF (n + 1) g (subs_ok hok hg)
    rw [e1, Option.none_or, List.findSome?_cons, s2]
  · have gs : ∀ c ∈ f.subs.map Fm.enc, Gd 5120 (14 + n) c := fun c hc => by
      obtain ⟨g, hg, rfl⟩ := List.mem_map.mp hc
      have hdg := subs_dep hg
      have hsz := Fm.size_le 4 g (by omega)
      have e4 : 4 ^ 4 = 256 := by decide
      rw [e4] at hsz
      exact (fm_gd g (subs_ok hok hg)).le (by omega) (by omega)
    have g1 := GdAll.all (ds := (f.subs.map Fm.enc).take j) fun c hc => gs c (List.mem_of_mem_take hc)
    have g2 := GdAll.all (ds := (f.subs.map Fm.enc).drop (j + 1)) fun c hc => gs c (List.mem_of_mem_drop hc)
    have g3 := GdAll.app (g2.cons s3) g1
    refine ((g3.cons (word_gd f).up).tup).le ?_ (by omega)
    rw [List.length_take, List.length_drop, List.length_map]
    omega
def sp_spoilt (K : PySem.W.Frag) (n : Nat) : Sp := fun vs H Q _ => ∃ (b : Addr) (v vo : V) (f : Fm) (o : PyData) (M : Ms), vs = [.ref b, v, vo] ∧ Bag K M H b ∧ Mk M H ∧ Rp M H v f.enc ∧ f.ok isNm ∧ f.dep ≤ n ∧ n ≤ 4 ∧ Rp M H vo o ∧ OddD o ∧ Dr K M b H (SpD n o) Q
theorem ok_spoilt (T : Txt K mg) : ∀ n, FnOk P w K mg base CX0 (n + 3) T.f__law_spoilt T.d__law_spoilt ["_law_bag_here", "_law_form_here", "_law_odd"] (sp_spoilt K n) := by
  have G__law_pick := ok_pick (P := P) (w := w) (base := base) T
  intro n
  induction n with
  | zero =>
    refine T.F__law_spoilt.ok sc__law_spoilt (fun vs H Q E h => ?_) (fun cdv A outer s H vs Q E hr h => ?_)
    · obtain ⟨_, _, _, _, _, _, rfl, _⟩ := h
      rfl
    · obtain ⟨b, v, vo, f, o, M, rfl, _, _, _, _, hd, _⟩ := h
      exact absurd f.dep_pos (by omega)
  | succ n ih =>
    have G__law_spoilt := ih
    refine T.F__law_spoilt.ok sc__law_spoilt (fun vs H Q E h => ?_) (fun cdv A outer s H vs Q E hr h => ?_)
    · obtain ⟨_, _, _, _, _, _, rfl, _⟩ := h
      rfl
    · obtain ⟨b, v, vo, f, o, M, rfl, hB, hM, hR, hok, hd, hn4, hRo, ho, q⟩ := h
      refine ⟨_, (pss_cons (ps_if (PW.pt (pw_or (pt_cmpR op_eq (pe_ix (ix_tupK (K := K) rfl) (pv 1) pe_int (fun _ _ => rfl)) pe_str (nomark _)) (pw_or (pt_cmpR op_eq (pe_ix (ix_tupK (K := K) rfl) (pv 1) pe_int (fun _ _ => rfl)) pe_str (nomark _)) (pw_or1 (pt_cmpR op_eq (pe_call G__law_pick (hr.mono (by omega)) (by rfl) T.g__law_pick T.F__law_pick.kp T.b__law_pick .nil pass0 (pa_cons (pv 0) (pa_cons pe_int pa_nil))) pe_int (nomark _)))))) (pss_one (ps_ret (pv 2))) pss_nil)
      (pss_cons (ps_set (i := 3) sc__law_spoilt.nd rfl (Or.inl rfl) (pe_op op_add pe_int (pe_call G__law_pick (hr.mono (by omega)) (by rfl) T.g__law_pick T.F__law_pick.kp T.b__law_pick .nil pass0 (pa_cons (pv 0) (pa_cons (pe_op op_sub (pe_callB (call_lenK (K := K) rfl) (by rfl) T.m_len PySem.boot_len (pa_cons (pv 1) pa_nil)) pe_int) pa_nil)))))
      (pss_one (ps_ret (pe_op (op_catAK (K := K) rfl) (pe_op (op_catAK (K := K) rfl) (pe_slice (sl_tupK (K := K) rfl) (pv 1) po_none (po_some (pv 3))) (pe_tup (pa_cons (pe_call G__law_spoilt (hr.mono (by omega)) (by rfl) T.g__law_spoilt T.F__law_spoilt.kp T.b__law_spoilt .nil pass0 (pa_cons (pv 0) (pa_cons (pe_ix (ix_tupK (K := K) rfl) (pv 1) (pv 3) (fun _ _ => rfl)) (pa_cons (pv 2) pa_nil)))) pa_nil))) (pe_slice (sl_tupK (K := K) rfl) (pv 1) (po_some (pe_op op_add (pv 3) pe_int)) po_none)))))), ?_⟩
      have mb := hB.w
      obtain ⟨a, xs, rfl, na, ha, hx⟩ := id hR.form
      have big : f.subs = [] ∨ ∃ (wd : Str) (ys : List V), xs = .str wd :: ys ∧ decide (V.str wd = V.str (Str.ofString "is")) = false ∧ decide (V.str wd = V.str (Str.ofString "get")) = false ∧ RpAll M H ys (f.subs.map Fm.enc) ∧ f.subs ≠ [] ∧ f.subs.length ≤ 3 ∧ wd = f.word := by
        cases hx with
        | is k => exact .inl rfl
        | get x => exact .inl rfl
        | sum r1 r2 => exact .inr ⟨_, _, rfl, by decide +kernel, by decide +kernel, .cons r1 (.one r2), by simp [Fm.subs], by simp [Fm.subs], rfl⟩
        | same r1 r2 => exact .inr ⟨_, _, rfl, by decide +kernel, by decide +kernel, .cons r1 (.one r2), by simp [Fm.subs], by simp [Fm.subs], rfl⟩
        | pick r1 r2 r3 => exact .inr ⟨_, _, rfl, by decide +kernel, by decide +kernel, .cons r1 (.cons r2 (.one r3)), by simp [Fm.subs], by simp [Fm.subs], rfl⟩
      have fin : ∀ H1, Sx (one b) H H1 → Gr H H1 → Bag K M H1 b → Q vo H1 := fun H1 s1 g1 hB1 => q _ _ o s1 g1 hB1 (hRo.sx (s1.le (one_le mb))) (odd_sp ho)
      rcases big with hnil | ⟨wd, ys, rfl, e1, e2, ry, hne, hl3, ew⟩
      · cases hx with
        | is k =>
          walk_at "g"
          exact fin H (Sx.same (Same.refl _)) (Gr.same (Same.refl _)) hB
        | get x =>
          walk_at "g"
          exact fin H (Sx.same (Same.refl _)) (Gr.same (Same.refl _)) hB
        | _ => simp [Fm.subs] at hnil
      · clear hx
        have ly := ry.length
        rw [List.length_map] at ly
        have ls : 1 ≤ f.subs.length := List.length_pos_iff.mpr hne
        walk_at "g"
        refine ⟨_, _, _, _, rfl, rfl, .inl ha, atI_nat (j := 0) rfl, ?_⟩
        walk_at "g"
        rw [e1]
        walk_at "g"
        refine ⟨_, _, _, _, rfl, rfl, .inl ha, atI_nat (j := 0) rfl, ?_⟩
        walk_at "g"
        rw [e2]
        walk_at "g"
        refine ⟨b, 3, M, rfl, hB, by omega, by omega, fun w1 H1 a0 a1 hA1 hB1 => ?_⟩
        have s1 : Sx (one b) H H1 := hA1.sx
        have g1 : Gr H H1 := At.gr hA1 hB1.there
        have ha1 := sx_rd (s1.le (one_le mb)) na ha
        walk_at "g"
        by_cases c0 : w1 = 0
        · subst c0
          walk_at "g"
          exact fin H1 s1 g1 hB1
        rw [decide_eq_false (show ¬ V.int w1 = V.int 0 from fun z => c0 (by injection z))]
        walk_at "g"
        refine ⟨_, _, rfl, .inr (.inl ha1), ?_⟩
        walk_at "g"
        refine ⟨b, _, M, rfl, hB1, ?_, ?_, fun w2 H2 b0 b1 hA2 hB2 => ?_⟩
        · rw [List.length_cons]; omega
        · rw [List.length_cons]; omega
        obtain ⟨j, rfl⟩ : ∃ j : Nat, w2 = (j : Int) := ⟨w2.toNat, by omega⟩
        have hj : j < f.subs.length := by rw [List.length_cons] at b1; omega
        have s2 := s1.trans hA2.sx
        have g2 := g1.trans (At.gr hA2 hB2.there)
        have ha2 := sx_rd (s2.le (one_le mb)) na ha
        have ry2 := ry.sx (s2.le (one_le mb))
        have hM2 := hM.gr g2
        walk_at "g"
        have ec : cutV (V.str wd :: ys) none (some (1 + (j : Int))) = (V.str wd :: ys).take (1 + j) := by rw [show (1 : Int) + (j : Int) = ((1 + j : Nat) : Int) by omega, cut_hi]
        refine ⟨a, _, rfl, .inl ha2, fun z => ?_, fun _ p3 hp3 => ?_⟩
        · exfalso
          have z2 := z.2
          rw [show HT.sIx (V.str wd :: ys).length (V.str wd :: ys).length (some (1 + (j : Int))) = min (1 + j) (V.str wd :: ys).length by rw [show (1 : Int) + (j : Int) = ((1 + j : Nat) : Int) by omega]; exact HT.sIx_nat _ _ _] at z2
          rw [List.length_cons] at z2
          omega
        rw [ec]
        have t3 : Same H2 (upd H2 p3 (.tup ((V.str wd :: ys).take (1 + j)))) := same_new hp3
        have e3 : upd H2 p3 (.tup ((V.str wd :: ys).take (1 + j))) p3 = some (.tup ((V.str wd :: ys).take (1 + j))) := upd_same
        generalize upd H2 p3 (.tup ((V.str wd :: ys).take (1 + j))) = H3 at t3 e3
        have s3 := s2.trans (Sx.same t3)
        have g3 := g2.trans (Gr.same t3)
        have hB3 := hB2.same t3
        have p3b : p3 ≠ b := fun z => hB2.there (by rw [← z]; exact hp3)
        obtain ⟨y, hy⟩ : ∃ y, ys[j]? = some y := ⟨_, List.getElem?_eq_getElem (by omega)⟩
        obtain ⟨dg, hdg, rg⟩ := ry2.get hy
        rw [List.getElem?_map] at hdg
        obtain ⟨g, hg, rfl⟩ := Option.map_eq_some_iff.mp hdg
        have gm := List.mem_of_getElem? hg
        have gdp := subs_dep gm
        walk_at "g"
        have ei : atI (V.str wd :: ys) (1 + (j : Int)) = some y := by
          rw [show (1 : Int) + (j : Int) = ((j + 1 : Nat) : Int) by omega]
          exact atI_nat (by rw [List.getElem?_cons_succ]; exact hy)
        have rsp : sp_spoilt K n [.ref b, y, vo] H3 (fun v5 H5 => True) E0 → True := fun _ => trivial
        refine ⟨_, _, _, _, rfl, rfl, .inl (same_rd t3 ha2), ei, ?_⟩
        walk_at "g"
        refine ⟨b, y, vo, g, o, M, rfl, hB3, hM.gr g3, rg.sx (Sx.same t3), subs_ok hok gm, by omega, by omega, hRo.sx (s3.le (one_le mb)), ho, fun v5 H5 d5 s5 g5 hB5 r5 hd5 => ?_⟩
        have s5' := s3.trans s5
        have g5' := g3.trans g5
        have e35 := s5 _ _ (show ¬ one b p3 from p3b) e3
        have ha5 := sx_rd (s5'.le (one_le mb)) na ha
        have ry5 := ry.sx (s5'.le (one_le mb))
        walk_at "g"
        refine ⟨szK rfl, fun p6 hp6 => ?_⟩
        have t6 : Same H5 (upd H5 p6 (.tup [v5])) := same_new hp6
        have e6 : upd H5 p6 (.tup [v5]) p6 = some (.tup [v5]) := upd_same
        generalize upd H5 p6 (.tup [v5]) = H6 at t6 e6
        have ltk : ((V.str wd :: ys).take (1 + j)).length ≤ 4 := by rw [List.length_take, List.length_cons]; omega
        refine ⟨p3, p6, _, _, rfl, rfl, SqT.of (t6 _ _ e35), SqT.of e6, by rw [sizeLine_eq]; show _ + 1 ≤ _; omega, fun z => ?_, fun _ z => (nomatch z), fun _ _ p7 hp7 => ?_⟩
        · rw [show 1 + j = j + 1 by omega, List.take_succ_cons] at z
          cases z
        have t7 : Same H6 (upd H6 p7 (.tup ((V.str wd :: ys).take (1 + j) ++ [v5]))) := same_new hp7
        have e7 : upd H6 p7 (.tup ((V.str wd :: ys).take (1 + j) ++ [v5])) p7 = some (.tup ((V.str wd :: ys).take (1 + j) ++ [v5])) := upd_same
        have n7 : H6 p7 = none := hp7
        generalize upd H6 p7 (.tup ((V.str wd :: ys).take (1 + j) ++ [v5])) = H7 at t7 e7
        have t57 := t6.trans t7
        walk_at "g"
        have ec2 : cutV (V.str wd :: ys) (some (1 + (j : Int) + 1)) none = (V.str wd :: ys).drop (j + 2) := by rw [show (1 : Int) + (j : Int) + 1 = ((j + 2 : Nat) : Int) by omega, cut_lo]
        refine ⟨a, _, rfl, .inl (same_rd t57 ha5), fun z => ?_, fun _ p8 hp8 => ?_⟩
        · exfalso
          have z1 := z.1
          rw [show HT.sIx (V.str wd :: ys).length 0 (some (1 + (j : Int) + 1)) = min (j + 2) (V.str wd :: ys).length by rw [show (1 : Int) + (j : Int) + 1 = ((j + 2 : Nat) : Int) by omega]; exact HT.sIx_nat _ _ _] at z1
          rw [List.length_cons] at z1
          omega
        rw [ec2]
        have t8 : Same H7 (upd H7 p8 (.tup ((V.str wd :: ys).drop (j + 2)))) := same_new hp8
        have e8 : upd H7 p8 (.tup ((V.str wd :: ys).drop (j + 2))) p8 = some (.tup ((V.str wd :: ys).drop (j + 2))) := upd_same
        generalize upd H7 p8 (.tup ((V.str wd :: ys).drop (j + 2))) = H8 at t8 e8
        have t58 := t57.trans t8
        have e78 := t8 _ _ e7
        have hSp := sp_step hne hj hok hd (by omega) hd5
        rw [← ew] at hSp
        have rall : RpAll M H8 ((V.str wd :: ys).take (1 + j) ++ [v5] ++ (V.str wd :: ys).drop (j + 2)) (.str wd :: spl f j d5) := by
          have q1 := RpAll.dropTake (M := M) 0 j (ry5.sx (Sx.same t58))
          have q2 := RpAll.dropTake (M := M) (j + 1) ys.length (ry5.sx (Sx.same t58))
          rw [List.take_of_length_le (by rw [List.length_drop]; omega), List.take_of_length_le (by rw [List.length_drop, List.length_map]; omega)] at q2
          rw [List.drop_zero, List.drop_zero] at q1
          have q3 : RpAll M H8 (.str wd :: (ys.take j ++ v5 :: ys.drop (j + 1))) (.str wd :: spl f j d5) := .cons (.str _) (q1.append (.cons (r5.sx (Sx.same t58)) q2))
          rw [show 1 + j = j + 1 by omega, List.take_succ_cons, List.drop_succ_cons, List.append_assoc]
          exact q3
        have fin2 : ∀ p H9, Same H8 H9 → H8 p = none ∨ ¬ M p → H9 p = some (.tup ((V.str wd :: ys).take (1 + j) ++ [v5] ++ (V.str wd :: ys).drop (j + 2))) → ¬ M p → Q (.ref p) H9 := fun p H9 t9 _ e9 np =>
          q _ _ _ (s5'.trans (Sx.same (t58.trans t9))) (g5'.trans (Gr.same (t58.trans t9))) (hB5.same (t58.trans t9)) (.tup np (.inl e9) (rall.sx (Sx.same t9))) hSp
        have hM8 := hM.gr (g5'.trans (Gr.same t58))
        refine ⟨p7, p8, _, _, rfl, rfl, SqT.of e78, SqT.of e8, ?_, fun z => ?_, fun _ z => ?_, fun _ _ p9 hp9 => ?_⟩
        · rw [sizeLine_eq]
          simp only [List.length_append, List.length_drop, List.length_cons, List.length_nil]
          omega
        · exact absurd z (by simp)
        · have n7M : ¬ M p7 := (hM.gr (g5'.trans (Gr.same t6))).out n7
          refine fin2 p7 H8 (Same.refl _) (.inr n7M) ?_ n7M
          rw [z, List.append_nil]
          exact e78
        · exact fin2 p9 _ (same_new hp9) (.inl hp9) upd_same (hM8.out hp9)
end
end D

namespace D
open PySem PySem.Spec PyProof.Rows L2
local macro_rules | `(tactic| walk_at "st") => `(tactic| first | exact SqT.of (by assumption) | exact Or.inl (by assumption) | exact SqT.of upd_same | fail "st")
local macro_rules | `(tactic| walk_at "ixt") => `(tactic| refine ⟨_, _, _, _, rfl, rfl, (by walk_at "st" : SqT _ _ _ _), by rfl, ?_⟩)
local macro_rules | `(tactic| walk_at "sq") => `(tactic| first | exact SqL.of (by assumption) | assumption | exact Or.inl (by assumption) | exact SqL.of upd_same | fail "sq")
local macro_rules | `(tactic| walk_at "ix") => `(tactic| refine ⟨_, _, _, _, rfl, rfl, (by walk_at "sq" : SqL _ _ _ _), by rfl, ?_⟩)
local macro_rules | `(tactic| walk_at "set") => `(tactic| refine ⟨_, _, _, _, rfl, rfl, by first | assumption | exact upd_same, by rfl, ?_⟩)
local macro_rules | `(tactic| walk_at "len") => `(tactic| refine ⟨_, _, rfl, Or.inl (by walk_at "sq" : SqL _ _ _ _), ?_⟩)
local macro_rules | `(tactic| walk_at "g") => `(tactic| repeat (first | refine ⟨_, rfl, ?_⟩ | refine ⟨_, _, rfl, rfl, ?_⟩ | refine ⟨Or.inr (by decide), ?_⟩ | refine ⟨Or.inl (by decide), ?_⟩ | refine ⟨(by decide : (0 : Int) < _), ?_⟩ | refine ⟨(⟨by decide, by decide⟩ : CDiv _ _), ?_⟩ | refine ⟨(⟨by decide, by decide, by decide⟩ : CPow _ _), ?_⟩ | refine Or.inl ⟨_, rfl, ?_⟩ | refine ⟨rfl, ?_⟩ | walk_at "ix" | walk_at "ixt" | walk_at "len" | fail "g"))
local macro_rules | `(tactic| walk_at "if") => `(tactic| refine ite2 (fun e => ?_) (fun e => ?_))
section
variable {P : Program} {w : World} {K : PySem.W.Frag} {mg : Str → Option Value} {base : Heap}
def TwD (ns : List Str) (lv : Nat) (d : PyData) : Prop := ∃ f : Fm, d = f.enc ∧ f.dep = lv ∧ f.ok (· ∈ ns) ∧ f.size ≤ 3 * lv
def sp_tower (K : PySem.W.Frag) : Sp := fun vs H Q _ => ∃ (b : Addr) (v : V) (lv : Nat) (ns : List Str) (M : Ms), vs = [.ref b, .int (lv : Nat), v] ∧ Bag K M H b ∧ Mk M H ∧ Rp M H v (namesD ns) ∧ ns ≠ [] ∧ ns.length < 1000000 ∧ 1 ≤ lv ∧ lv ≤ 6 ∧ Dr K M b H (TwD ns lv) Q
theorem ok_tower (T : Txt K mg) : FnOk P w K mg base CX0 4 T.f__law_tower T.d__law_tower ["_law_bag_here", "_law_levels", "_law_readable"] (sp_tower K) := by
  have G__law_choice := ok_choice (P := P) (w := w) (base := base) T
  refine T.F__law_tower.ok sc__law_tower (fun vs H Q E h => ?_) (fun cdv A outer s H vs Q E hr h => ?_)
  · obtain ⟨_, _, _, _, _, rfl, _⟩ := h
    rfl
  · obtain ⟨b, v, lv, ns, M, rfl, hB, hM, hR, hne, hl, lv1, lv6, q⟩ := h
    obtain ⟨a, xs, rfl, na, ha, rx⟩ := Rp.lstN hR
    have ex := rx.ofStrs
    subst ex
    have mb := hB.w
    have hab : a ≠ b := fun z => na (by rw [z]; exact mb)
    have hpos : 0 < ns.length := List.length_pos_iff.mpr hne
    refine ⟨_, (pss_cons (ps_set (i := 3) sc__law_tower.nd rfl (Or.inl rfl) (pe_tup (pa_cons pe_str (pa_cons (pe_call G__law_choice (hr.mono (by omega)) (by rfl) T.g__law_choice T.F__law_choice.kp T.b__law_choice .nil pass0 (pa_cons (pv 0) (pa_cons (pv 2) pa_nil))) pa_nil))))
      (pss_cons (ps_for PassesOwn.never rfl (pi_range1 (by rfl) T.m_range (pa_cons (pe_op op_sub (pv 1) pe_int) pa_nil)) (pg_name (i := 4) sc__law_tower.nd rfl (Or.inl rfl)) (pss_cons (ps_set (i := 5) sc__law_tower.nd rfl (Or.inl rfl) (pe_tup (pa_cons pe_str (pa_cons (pe_call G__law_choice (hr.mono (by omega)) (by rfl) T.g__law_choice T.F__law_choice.kp T.b__law_choice .nil pass0 (pa_cons (pv 0) (pa_cons (pv 2) pa_nil))) pa_nil))))
      (pss_cons (ps_set (i := 6) sc__law_tower.nd rfl (Or.inl rfl) (pe_lst (pa_cons (pe_tup (pa_cons pe_str (pa_cons (pv 3) (pa_cons (pv 5) pa_nil)))) (pa_cons (pe_tup (pa_cons pe_str (pa_cons (pv 5) (pa_cons (pv 3) pa_nil)))) (pa_cons (pe_tup (pa_cons pe_str (pa_cons (pv 5) (pa_cons (pv 3) pa_nil)))) (pa_cons (pe_tup (pa_cons pe_str (pa_cons (pv 3) (pa_cons (pv 5) (pa_cons (pv 5) pa_nil))))) pa_nil))))))
      (pss_one (ps_set (i := 3) sc__law_tower.nd rfl (Or.inl rfl) (pe_call G__law_choice (hr.mono (by omega)) (by rfl) T.g__law_choice T.F__law_choice.kp T.b__law_choice .nil pass0 (pa_cons (pv 0) (pa_cons (pe_op op_cat (pv 6) (pe_lst (pa_cons (pe_tup (pa_cons pe_str (pa_cons (pv 5) (pa_cons (pv 3) (pa_cons (pv 5) pa_nil))))) (pa_cons (pe_tup (pa_cons pe_str (pa_cons (pv 5) (pa_cons (pv 5) (pa_cons (pv 3) pa_nil))))) pa_nil)))) pa_nil))))))))
      (pss_one (ps_ret (pv 3))))), ?_⟩
    walk_at "g"
    refine ⟨b, a, _, M, rfl, hB, .inl ha, hab, by rw [List.length_map]; omega, by rw [List.length_map]; omega, fun v1 H1 m1 hA1 hB1 => ?_⟩
    obtain ⟨z1, hz1, rfl⟩ := List.mem_map.mp m1
    walk_at "g"
    refine ⟨szK rfl, fun p1 hp1 => ?_⟩
    have g1 := At.gr hA1 hB1.there
    have t1 : Same H1 (upd H1 p1 (.tup [.str (Str.ofString "get"), .str z1])) := same_new hp1
    have r1 : Rp M (upd H1 p1 (.tup [.str (Str.ofString "get"), .str z1])) (.ref p1) (Fm.get z1).enc := Rp.newT (hM.gr g1) hp1 (.cons (.str _) (.one (.str z1)))
    have s1 : Sx (one b) H (upd H1 p1 (.tup [.str (Str.ofString "get"), .str z1])) := hA1.sx.trans (Sx.same t1)
    have g1' := g1.trans (Gr.same t1)
    have hB1' := hB1.same t1
    generalize upd H1 p1 (.tup [.str (Str.ofString "get"), .str z1]) = H2 at r1 s1 g1' hB1'
    walk_at "g"
    refine ⟨by omega, by omega, ?_⟩
    refine for_range (lo := 0) (n := ((lv : Int) - 1).toNat) (fun i σ H' => ∃ (v3 : V) (y4 y5 y6 : Option V), σ = [some (.ref b), some (.int (lv : Nat)), some (.ref a), some v3, y4, y5, y6] ∧ Sx (one b) H H' ∧ Gr H H' ∧ Bag K M H' b ∧ ∃ f : Fm, Rp M H' v3 f.enc ∧ f.dep = i + 1 ∧ f.ok (· ∈ ns) ∧ f.size ≤ 3 * (i + 1)) ⟨_, _, _, _, rfl, s1, g1', hB1', .get z1, r1, rfl, hz1, by show 1 ≤ _; omega⟩ (fun i σ H3 hi z => ?_) (fun σ H3 z => ?_)
    · obtain ⟨v3, y4, y5, y6, rfl, s3, g3, hB3, f, rf, hd, hok, hsz⟩ := z
      have ha3 := sx_rd s3 (show ¬ one b a from hab) ha
      walk_at "g"
      refine ⟨b, a, _, M, rfl, hB3, .inl ha3, hab, by rw [List.length_map]; omega, by rw [List.length_map]; omega, fun v4 H4 m4 hA4 hB4 => ?_⟩
      obtain ⟨z4, hz4, rfl⟩ := List.mem_map.mp m4
      walk_at "g"
      refine ⟨szK rfl, fun p4 hp4 => ?_⟩
      have g4 := g3.trans (At.gr hA4 hB4.there)
      have hM4 := hM.gr g4
      have t4 : Same H4 (upd H4 p4 (.tup [.str (Str.ofString "get"), .str z4])) := same_new hp4
      have rl : Rp M (upd H4 p4 (.tup [.str (Str.ofString "get"), .str z4])) (.ref p4) (Fm.get z4).enc := Rp.newT hM4 hp4 (.cons (.str _) (.one (.str z4)))
      have rf := (rf.sx (hA4.sx.le (one_le mb))).sx (Sx.same (M := M) t4)
      have s4 : Sx (one b) H (upd H4 p4 (.tup [.str (Str.ofString "get"), .str z4])) := s3.trans (hA4.sx.trans (Sx.same t4))
      have g4 := g4.trans (Gr.same t4)
      have hB4 := hB4.same t4
      generalize upd H4 p4 (.tup [.str (Str.ofString "get"), .str z4]) = J0 at rl rf s4 g4 hB4
      have u0 : Same J0 J0 := Same.refl _
      have A0 : RpAll M J0 [] [] := .nil
      walk_at "g"
      refine ⟨szK rfl, fun q1 hq1 => ?_⟩
      have tt : Same J0 (upd J0 q1 (.tup [.str (Str.ofString "sum"), v3, .ref p4])) := same_new hq1
      have rn : Rp M (upd J0 q1 (.tup [.str (Str.ofString "sum"), v3, .ref p4])) (.ref q1) (Fm.enc (.sum f (.get z4))) := Rp.newT (hM.gr (g4.trans (Gr.same u0))) hq1 (.cons (.str _) (.cons rf (.cons rl .nil)))
      have A0 := (A0.sx (Sx.same (M := M) tt)).append (.one rn)
      have rf := rf.sx (Sx.same (M := M) tt)
      have rl := rl.sx (Sx.same (M := M) tt)
      have u0 := u0.trans tt
      generalize upd J0 q1 (.tup [.str (Str.ofString "sum"), v3, .ref p4]) = J1 at tt rn A0 rf rl u0
      clear tt rn
      have A0 : RpAll M J1 [.ref q1] [Fm.enc (.sum f (.get z4))] := A0
      walk_at "g"
      refine ⟨szK rfl, fun q2 hq2 => ?_⟩
      have tt : Same J1 (upd J1 q2 (.tup [.str (Str.ofString "sum"), .ref p4, v3])) := same_new hq2
      have rn : Rp M (upd J1 q2 (.tup [.str (Str.ofString "sum"), .ref p4, v3])) (.ref q2) (Fm.enc (.sum (.get z4) f)) := Rp.newT (hM.gr (g4.trans (Gr.same u0))) hq2 (.cons (.str _) (.cons rl (.cons rf .nil)))
      have A0 := (A0.sx (Sx.same (M := M) tt)).append (.one rn)
      have rf := rf.sx (Sx.same (M := M) tt)
      have rl := rl.sx (Sx.same (M := M) tt)
      have u0 := u0.trans tt
      generalize upd J1 q2 (.tup [.str (Str.ofString "sum"), .ref p4, v3]) = J2 at tt rn A0 rf rl u0
      clear tt rn
      have A0 : RpAll M J2 [.ref q1, .ref q2] [Fm.enc (.sum f (.get z4)), Fm.enc (.sum (.get z4) f)] := A0
      walk_at "g"
      refine ⟨szK rfl, fun q3 hq3 => ?_⟩
      have tt : Same J2 (upd J2 q3 (.tup [.str (Str.ofString "same"), .ref p4, v3])) := same_new hq3
      have rn : Rp M (upd J2 q3 (.tup [.str (Str.ofString "same"), .ref p4, v3])) (.ref q3) (Fm.enc (.same (.get z4) f)) := Rp.newT (hM.gr (g4.trans (Gr.same u0))) hq3 (.cons (.str _) (.cons rl (.cons rf .nil)))
      have A0 := (A0.sx (Sx.same (M := M) tt)).append (.one rn)
      have rf := rf.sx (Sx.same (M := M) tt)
      have rl := rl.sx (Sx.same (M := M) tt)
      have u0 := u0.trans tt
      generalize upd J2 q3 (.tup [.str (Str.ofString "same"), .ref p4, v3]) = J3 at tt rn A0 rf rl u0
      clear tt rn
      have A0 : RpAll M J3 [.ref q1, .ref q2, .ref q3] [Fm.enc (.sum f (.get z4)), Fm.enc (.sum (.get z4) f), Fm.enc (.same (.get z4) f)] := A0
      walk_at "g"
      refine ⟨szK rfl, fun q4 hq4 => ?_⟩
      have tt : Same J3 (upd J3 q4 (.tup [.str (Str.ofString "pick"), v3, .ref p4, .ref p4])) := same_new hq4
      have rn : Rp M (upd J3 q4 (.tup [.str (Str.ofString "pick"), v3, .ref p4, .ref p4])) (.ref q4) (Fm.enc (.pick f (.get z4) (.get z4))) := Rp.newT (hM.gr (g4.trans (Gr.same u0))) hq4 (.cons (.str _) (.cons rf (.cons rl (.cons rl .nil))))
      have A0 := (A0.sx (Sx.same (M := M) tt)).append (.one rn)
      have rf := rf.sx (Sx.same (M := M) tt)
      have rl := rl.sx (Sx.same (M := M) tt)
      have u0 := u0.trans tt
      generalize upd J3 q4 (.tup [.str (Str.ofString "pick"), v3, .ref p4, .ref p4]) = J4 at tt rn A0 rf rl u0
      clear tt rn
      have A0 : RpAll M J4 [.ref q1, .ref q2, .ref q3, .ref q4] [Fm.enc (.sum f (.get z4)), Fm.enc (.sum (.get z4) f), Fm.enc (.same (.get z4) f), Fm.enc (.pick f (.get z4) (.get z4))] := A0
      walk_at "g"
      refine ⟨szK rfl, fun q5 hq5 => ?_⟩
      have tt : Same J4 (upd J4 q5 (.lst [.ref q1, .ref q2, .ref q3, .ref q4])) := same_new hq5
      have el : upd J4 q5 (.lst [.ref q1, .ref q2, .ref q3, .ref q4]) q5 = some (.lst [.ref q1, .ref q2, .ref q3, .ref q4]) := upd_same
      have A0 := A0.sx (Sx.same (M := M) tt)
      have rf := rf.sx (Sx.same (M := M) tt)
      have rl := rl.sx (Sx.same (M := M) tt)
      have u0 := u0.trans tt
      generalize upd J4 q5 (.lst [.ref q1, .ref q2, .ref q3, .ref q4]) = J5 at tt A0 rf rl u0 el
      clear tt
      have A1 : RpAll M J5 [] [] := .nil
      walk_at "g"
      refine ⟨szK rfl, fun q6 hq6 => ?_⟩
      have tt : Same J5 (upd J5 q6 (.tup [.str (Str.ofString "pick"), .ref p4, v3, .ref p4])) := same_new hq6
      have rn : Rp M (upd J5 q6 (.tup [.str (Str.ofString "pick"), .ref p4, v3, .ref p4])) (.ref q6) (Fm.enc (.pick (.get z4) f (.get z4))) := Rp.newT (hM.gr (g4.trans (Gr.same u0))) hq6 (.cons (.str _) (.cons rl (.cons rf (.cons rl .nil))))
      have A1 := (A1.sx (Sx.same (M := M) tt)).append (.one rn)
      have A0 := A0.sx (Sx.same (M := M) tt)
      have el := tt _ _ el
      have rf := rf.sx (Sx.same (M := M) tt)
      have rl := rl.sx (Sx.same (M := M) tt)
      have u0 := u0.trans tt
      generalize upd J5 q6 (.tup [.str (Str.ofString "pick"), .ref p4, v3, .ref p4]) = J6 at tt rn A1 rf rl u0 A0 el
      clear tt rn
      have A1 : RpAll M J6 [.ref q6] [Fm.enc (.pick (.get z4) f (.get z4))] := A1
      walk_at "g"
      refine ⟨szK rfl, fun q7 hq7 => ?_⟩
      have tt : Same J6 (upd J6 q7 (.tup [.str (Str.ofString "pick"), .ref p4, .ref p4, v3])) := same_new hq7
      have rn : Rp M (upd J6 q7 (.tup [.str (Str.ofString "pick"), .ref p4, .ref p4, v3])) (.ref q7) (Fm.enc (.pick (.get z4) (.get z4) f)) := Rp.newT (hM.gr (g4.trans (Gr.same u0))) hq7 (.cons (.str _) (.cons rl (.cons rl (.cons rf .nil))))
      have A1 := (A1.sx (Sx.same (M := M) tt)).append (.one rn)
      have A0 := A0.sx (Sx.same (M := M) tt)
      have el := tt _ _ el
      have rf := rf.sx (Sx.same (M := M) tt)
      have rl := rl.sx (Sx.same (M := M) tt)
      have u0 := u0.trans tt
      generalize upd J6 q7 (.tup [.str (Str.ofString "pick"), .ref p4, .ref p4, v3]) = J7 at tt rn A1 rf rl u0 A0 el
      clear tt rn
      have A1 : RpAll M J7 [.ref q6, .ref q7] [Fm.enc (.pick (.get z4) f (.get z4)), Fm.enc (.pick (.get z4) (.get z4) f)] := A1
      walk_at "g"
      refine ⟨szK rfl, fun q8 hq8 => ?_⟩
      have tt : Same J7 (upd J7 q8 (.lst [.ref q6, .ref q7])) := same_new hq8
      have el := tt _ _ el
      have em : upd J7 q8 (.lst [.ref q6, .ref q7]) q8 = some (.lst [.ref q6, .ref q7]) := upd_same
      have A0 := A0.sx (Sx.same (M := M) tt)
      have A1 := A1.sx (Sx.same (M := M) tt)
      have rf := rf.sx (Sx.same (M := M) tt)
      have rl := rl.sx (Sx.same (M := M) tt)
      have u0 := u0.trans tt
      generalize upd J7 q8 (.lst [.ref q6, .ref q7]) = J8 at tt A0 rf rl u0 el A1 em
      clear tt
      walk_at "g"
      refine ⟨q5, q8, _, _, rfl, rfl, el, em, szK rfl, fun q9 hq9 => ?_⟩
      have hq9 : J8 q9 = none := hq9
      have tt : Same J8 (upd J8 q9 (.lst (([.ref q1, .ref q2, .ref q3, .ref q4] : List V) ++ [.ref q6, .ref q7]))) := same_new hq9
      have ee : upd J8 q9 (.lst (([.ref q1, .ref q2, .ref q3, .ref q4] : List V) ++ [.ref q6, .ref q7])) q9 = some (.lst [.ref q1, .ref q2, .ref q3, .ref q4, .ref q6, .ref q7]) := upd_same
      have B : RpAll M (upd J8 q9 (.lst (([.ref q1, .ref q2, .ref q3, .ref q4] : List V) ++ [.ref q6, .ref q7]))) [.ref q1, .ref q2, .ref q3, .ref q4, .ref q6, .ref q7] [Fm.enc (.sum f (.get z4)), Fm.enc (.sum (.get z4) f), Fm.enc (.same (.get z4) f), Fm.enc (.pick f (.get z4) (.get z4)), Fm.enc (.pick (.get z4) f (.get z4)), Fm.enc (.pick (.get z4) (.get z4) f)] := (A0.append A1).sx (Sx.same (M := M) tt)
      have nb : q9 ≠ b := fun z => hB4.there (u0.free (by rw [← z]; exact hq9))
      have u0 := u0.trans tt
      generalize upd J8 q9 (.lst (([.ref q1, .ref q2, .ref q3, .ref q4] : List V) ++ [.ref q6, .ref q7])) = J9 at tt ee B u0
      walk_at "g"
      refine ⟨b, q9, _, M, rfl, hB4.same u0, SqL.of ee, nb, by simp, by simp, fun vc HF hvc hAF hBF => ?_⟩
      obtain ⟨d, hd3, rd⟩ := B.memD vc hvc
      have rd := rd.sx (hAF.sx.le (one_le mb))
      have sF := s4.trans ((Sx.same u0).trans hAF.sx)
      have gF := g4.trans ((Gr.same u0).trans (At.gr hAF hBF.there))
      refine ⟨_, _, _, _, rfl, sF, gF, hBF, ?_⟩
      have hz4 : z4 ∈ ns := hz4
      simp only [List.mem_cons, List.not_mem_nil, or_false] at hd3
      rcases hd3 with rfl | rfl | rfl | rfl | rfl | rfl
      · refine ⟨.sum f (.get z4), rd, ?_, ⟨hok, hz4⟩, ?_⟩
        · show max f.dep (Fm.get z4).dep + 1 = i + 1 + 1
          have : (Fm.get z4).dep = 1 := rfl
          omega
        · show f.size + (Fm.get z4).size + 1 ≤ 3 * (i + 1 + 1)
          have : (Fm.get z4).size = 1 := rfl
          omega
      · refine ⟨.sum (.get z4) f, rd, ?_, ⟨hz4, hok⟩, ?_⟩
        · show max (Fm.get z4).dep f.dep + 1 = i + 1 + 1
          have : (Fm.get z4).dep = 1 := rfl
          omega
        · show (Fm.get z4).size + f.size + 1 ≤ 3 * (i + 1 + 1)
          have : (Fm.get z4).size = 1 := rfl
          omega
      · refine ⟨.same (.get z4) f, rd, ?_, ⟨hz4, hok⟩, ?_⟩
        · show max (Fm.get z4).dep f.dep + 1 = i + 1 + 1
          have : (Fm.get z4).dep = 1 := rfl
          omega
        · show (Fm.get z4).size + f.size + 1 ≤ 3 * (i + 1 + 1)
          have : (Fm.get z4).size = 1 := rfl
          omega
      · refine ⟨.pick f (.get z4) (.get z4), rd, ?_, ⟨hok, hz4, hz4⟩, ?_⟩
        · show max f.dep (max (Fm.get z4).dep (Fm.get z4).dep) + 1 = i + 1 + 1
          have : (Fm.get z4).dep = 1 := rfl
          omega
        · show f.size + (Fm.get z4).size + (Fm.get z4).size + 1 ≤ 3 * (i + 1 + 1)
          have : (Fm.get z4).size = 1 := rfl
          omega
      · refine ⟨.pick (.get z4) f (.get z4), rd, ?_, ⟨hz4, hok, hz4⟩, ?_⟩
        · show max (Fm.get z4).dep (max f.dep (Fm.get z4).dep) + 1 = i + 1 + 1
          have : (Fm.get z4).dep = 1 := rfl
          omega
        · show (Fm.get z4).size + f.size + (Fm.get z4).size + 1 ≤ 3 * (i + 1 + 1)
          have : (Fm.get z4).size = 1 := rfl
          omega
      · refine ⟨.pick (.get z4) (.get z4) f, rd, ?_, ⟨hz4, hz4, hok⟩, ?_⟩
        · show max (Fm.get z4).dep (max (Fm.get z4).dep f.dep) + 1 = i + 1 + 1
          have : (Fm.get z4).dep = 1 := rfl
          omega
        · show (Fm.get z4).size + (Fm.get z4).size + f.size + 1 ≤ 3 * (i + 1 + 1)
          have : (Fm.get z4).size = 1 := rfl
          omega
    · obtain ⟨v3, y4, y5, y6, rfl, s3, g3, hB3, f, rf, hd, hok, hsz⟩ := z
      walk_at "g"
      exact q _ _ f.enc s3 g3 hB3 rf ⟨f, rfl, by omega, hok, by omega⟩
end
end D

namespace D
open PySem PySem.Spec PyProof.Rows L2
local macro_rules | `(tactic| walk_at "st") => `(tactic| first | exact SqT.of (by assumption) | exact Or.inl (by assumption) | exact SqT.of upd_same | fail "st")
local macro_rules | `(tactic| walk_at "ixt") => `(tactic| refine ⟨_, _, _, _, rfl, rfl, (by walk_at "st" : SqT _ _ _ _), by rfl, ?_⟩)
local macro_rules | `(tactic| walk_at "sq") => `(tactic| first | exact SqL.of (by assumption) | assumption | exact Or.inl (by assumption) | exact SqL.of upd_same | fail "sq")
local macro_rules | `(tactic| walk_at "ix") => `(tactic| refine ⟨_, _, _, _, rfl, rfl, (by walk_at "sq" : SqL _ _ _ _), by rfl, ?_⟩)
local macro_rules | `(tactic| walk_at "set") => `(tactic| refine ⟨_, _, _, _, rfl, rfl, by first | assumption | exact upd_same, by rfl, ?_⟩)
local macro_rules | `(tactic| walk_at "len") => `(tactic| refine ⟨_, _, rfl, Or.inl (by walk_at "sq" : SqL _ _ _ _), ?_⟩)
local macro_rules | `(tactic| walk_at "g") => `(tactic| repeat (first | refine ⟨_, rfl, ?_⟩ | refine ⟨_, _, rfl, rfl, ?_⟩ | refine ⟨Or.inr (by decide), ?_⟩ | refine ⟨Or.inl (by decide), ?_⟩ | refine ⟨(by decide : (0 : Int) < _), ?_⟩ | refine ⟨(⟨by decide, by decide⟩ : CDiv _ _), ?_⟩ | refine ⟨(⟨by decide, by decide, by decide⟩ : CPow _ _), ?_⟩ | refine Or.inl ⟨_, rfl, ?_⟩ | refine ⟨rfl, ?_⟩ | walk_at "ix" | walk_at "ixt" | walk_at "len" | fail "g"))
local macro_rules | `(tactic| walk_at "if") => `(tactic| refine ite2 (fun e => ?_) (fun e => ?_))
section
variable {P : Program} {w : World} {K : PySem.W.Frag} {mg : Str → Option Value} {base : Heap}
def ItF (M : Ms) (H : Hp) (x : V) : Option PyData → Prop
  | none => ∃ ns, RowF M H x ns ∧ goodRow ns
  | some d => Rp M H x d ∧ lenC d ∧ pRow d = false
theorem ItF.it {M : Ms} {H : Hp} {x : V} {o : Option PyData} (h : ItF M H x o) : ItAt M H x o := by
  cases o with
  | none =>
    obtain ⟨ns, r, g⟩ := h
    exact ⟨ns, r.row, g⟩
  | some d => exact h
theorem ItF.sx {M : Ms} {H H' : Hp} {x : V} {o : Option PyData} (h : ItF M H x o) (s : Sx M H H') : ItF M H' x o := by
  cases o with
  | none =>
    obtain ⟨ns, r, g⟩ := h
    exact ⟨ns, r.sx s, g⟩
  | some d => exact ⟨h.1.sx s, h.2⟩
def ItsF (M : Ms) (H : Hp) (xs : List V) (bs : List (Option PyData)) : Prop := xs.length = bs.length ∧ ∀ (i : Nat) (x : V), xs[i]? = some x → ∃ b, bs[i]? = some b ∧ ItF M H x b
theorem ItsF.its {M : Ms} {H : Hp} {xs : List V} {bs : List (Option PyData)} (h : ItsF M H xs bs) : ItsAt M H xs bs := ⟨h.1, fun i x e => by
  obtain ⟨b, e1, r⟩ := h.2 i x e
  exact ⟨b, e1, r.it⟩⟩
theorem ItsF.sx {M : Ms} {H H' : Hp} {xs : List V} {bs : List (Option PyData)} (h : ItsF M H xs bs) (s : Sx M H H') : ItsF M H' xs bs := ⟨h.1, fun i x e => by
  obtain ⟨b, e1, r⟩ := h.2 i x e
  exact ⟨b, e1, r.sx s⟩⟩
def lenFor (wh : Int) (n : Nat) : Prop := (wh = 0 ∧ n = 1) ∨ ((wh = 1 ∨ wh = 2 ∨ wh = 3) ∧ n = 2) ∨ ((wh = 4 ∨ wh = 5) ∧ 1 ≤ n ∧ n ≤ 4)
def sp_called (T : Txt K mg) : Sp := fun vs H Q E => ∃ (wh many : Int) (k : V) (l : Addr) (f : Fm) (xs : List V) (bs : List (Option PyData)) (M : Ms), vs = [.int wh, k, .int many, .ref l] ∧ KeyAt T.C_Key M H k f ∧ Mk M H ∧ H l = some (.lst xs) ∧ ItsF M H xs bs ∧ lenFor wh xs.length ∧ 0 ≤ many ∧ many ≤ 2 ∧
  (∀ d, firstO bs = some d → BadE T.C_BadRow M H E d) ∧ (firstO bs = none → ∀ v H', Same H H' → Q v H')
theorem ok_called (T : Txt K mg) : FnOk P w K mg base (L2.CX P w) 13 T.f__law_called T.d__law_called ["_law_which", "_law_key", "_law_many", "_law_rows"] (sp_called T) := by
  have G_Key_idents := FnOk.or (FnOk.lift (ok_idents (P := P) (w := w) (base := base) T)) (okb_idents (P := P) (w := w) (base := base) T)
  have G_matched := FnOk.or (FnOk.lift (ok_matched (P := P) (w := w) (base := base) T)) (okb_matched (P := P) (w := w) (base := base) T)
  have G_slips := FnOk.or (FnOk.lift (ok_slips (P := P) (w := w) (base := base) T)) (okb_slips (P := P) (w := w) (base := base) T)
  have G_losses := FnOk.or (FnOk.lift (ok_losses (P := P) (w := w) (base := base) T)) (okb_losses (P := P) (w := w) (base := base) T)
  have G_faithful := FnOk.or (FnOk.lift (ok_faithful (P := P) (w := w) (base := base) T)) (okb_faithful (P := P) (w := w) (base := base) T)
  have G_coarsest := FnOk.or (FnOk.lift (ok_coarse (P := P) (w := w) (base := base) T)) (okb_coarse (P := P) (w := w) (base := base) T)
  refine T.F__law_called.okX sc__law_called (fun vs H Q E h => ?_) (fun cdv A outer s H vs Q E hr h => ?_)
  · obtain ⟨_, _, _, _, _, _, _, _, rfl, _⟩ := h
    rfl
  · obtain ⟨wh, many, k, l, f, xs, bs, M, rfl, hK, hM, el, hI, hlen, m0, m2, qb, qg⟩ := h
    refine ⟨_, (pss_cons (ps_if (pt_cmpR op_eq (pv 0) pe_int (nomark _)) (pss_one (ps_ret (pe_methS (pv 1) T.cl_Key ⟨T.a_Key_idents, T.i_Key_idents, T.F_Key_idents.kp⟩ G_Key_idents (hr.mono (by omega)) T.b_Key_idents (fun σ => passAt (takes_of rfl rfl rfl rfl) σ) (pa_cons (pe_ix (ix_listK (K := K) rfl) (pv 3) pe_int (fun _ _ => rfl)) pa_nil)))) pss_nil)
      (pss_cons (ps_if (pt_cmpR op_eq (pv 0) pe_int (nomark _)) (pss_one (ps_ret (pe_callS G_matched (hr.mono (by omega)) (by rfl) T.g_matched T.F_matched.kp T.b_matched (fun σ => passAt (takes_of rfl rfl rfl rfl) σ) (pa_cons (pv 1) (pa_cons (pe_ix (ix_listK (K := K) rfl) (pv 3) pe_int (fun _ _ => rfl)) (pa_cons (pe_ix (ix_listK (K := K) rfl) (pv 3) pe_int (fun _ _ => rfl)) pa_nil)))))) pss_nil)
      (pss_cons (ps_if (pt_cmpR op_eq (pv 0) pe_int (nomark _)) (pss_one (ps_ret (pe_callS G_slips (hr.mono (by omega)) (by rfl) T.g_slips T.F_slips.kp T.b_slips (fun σ => passAt (takes_of rfl rfl rfl rfl) σ) (pa_cons (pv 1) (pa_cons (pe_ix (ix_listK (K := K) rfl) (pv 3) pe_int (fun _ _ => rfl)) (pa_cons (pe_ix (ix_listK (K := K) rfl) (pv 3) pe_int (fun _ _ => rfl)) pa_nil)))))) pss_nil)
      (pss_cons (ps_if (pt_cmpR op_eq (pv 0) pe_int (nomark _)) (pss_one (ps_ret (pe_callS G_losses (hr.mono (by omega)) (by rfl) T.g_losses T.F_losses.kp T.b_losses (fun σ => passAt (takes_of rfl rfl rfl rfl) σ) (pa_cons (pv 1) (pa_cons (pe_ix (ix_listK (K := K) rfl) (pv 3) pe_int (fun _ _ => rfl)) (pa_cons (pe_ix (ix_listK (K := K) rfl) (pv 3) pe_int (fun _ _ => rfl)) pa_nil)))))) pss_nil)
      (pss_cons (ps_if (pt_cmpR op_eq (pv 0) pe_int (nomark _)) (pss_one (ps_ret (pe_callS G_faithful (hr.mono (by omega)) (by rfl) T.g_faithful T.F_faithful.kp T.b_faithful (fun σ => passAt (takes_of rfl rfl rfl rfl) σ) (pa_cons (pv 1) (pa_cons (pe_callTy (call_tupleK (K := K) rfl) (by rfl) T.m_tuple (by decide +kernel) (pa_cons (pv 3) pa_nil)) pa_nil))))) pss_nil)
      (pss_one (ps_ret (pe_callS G_coarsest (hr.mono (by omega)) (by rfl) T.g_coarsest T.F_coarsest.kp T.b_coarsest (fun σ => passAt (takes_of rfl rfl rfl rfl) σ) (pa_cons (pe_slice (sl_listK (K := K) rfl) (pe_lst (pa_cons (pv 1) (pa_cons (pv 1) pa_nil))) po_none (po_some (pv 2))) (pa_cons (pe_callTy (call_tupleK (K := K) rfl) (by rfl) T.m_tuple (by decide +kernel) (pa_cons (pv 3) pa_nil)) pa_nil)))))))))), ?_⟩
    obtain ⟨ka, kd, ku, rfl, nk, eK, rK, gK⟩ := id hK
    have i0 : ∀ (i : Nat) (x : V) (b : Option PyData), xs[i]? = some x → bs[i]? = some b → ItF M H x b := fun i x b h1 h2 => by
      obtain ⟨b', e, r⟩ := hI.2 i x h1
      rw [h2] at e
      cases e
      exact r
    have lb := hI.1
    rcases hlen with ⟨rfl, ln⟩ | ⟨hw, ln⟩ | ⟨hw, ln1, ln4⟩
    · match xs, bs, ln, lb, i0, el, qb, qg with
      | [x], [b], _, _, i0, el, qb, qg =>
        have ix := i0 0 x b rfl rfl
        walk_at "g"
        refine ⟨ka, kd, _, rfl, eK, rfl, ?_⟩
        walk_at "g"
        cases b with
        | none =>
          obtain ⟨ns, r, g⟩ := ix
          exact .inl ⟨_, x, f, ns, M, rfl, hK, r.row, g, hM, fun v H' d s _ _ => qg rfl v H' s⟩
        | some d => exact .inr ⟨_, x, d, M, rfl, ix.1, ix.2.1, ix.2.2, qb d rfl⟩
    · match xs, bs, ln, lb, i0, el, qb, qg with
      | [x, y], [b, c], _, _, i0, el, qb, qg =>
        have ix := i0 0 x b rfl rfl
        have iy := i0 1 y c rfl rfl
        have bad : ∀ d, firstO [b, c] = some d → ∃ (k v1 v2 : V) (b1 b2 : Option PyData) (d : PyData) (M : Ms), [V.ref ka, x, y] = [k, v1, v2] ∧ ItAt M H v1 b1 ∧ ItAt M H v2 b2 ∧ firstO [b1, b2] = some d ∧ BadE T.C_BadRow M H E d := fun d hd => ⟨_, x, y, b, c, d, M, rfl, ix.it, iy.it, hd, qb d hd⟩
        rcases hw with rfl | rfl | rfl
        · walk_at "g"
          cases hz : firstO [b, c] with
          | none =>
            cases b with
            | some d => cases hz
            | none =>
              cases c with
              | some d => cases hz
              | none =>
                obtain ⟨n1, r1, g1⟩ := ix
                obtain ⟨n2, r2, g2⟩ := iy
                exact .inl ⟨_, x, y, f, n1, n2, M, rfl, hK, r1.row, r2.row, g1, g2, hM, fun v H' d s _ _ => qg rfl v H' s⟩
          | some d => exact .inr (bad d hz)
        · walk_at "g"
          cases hz : firstO [b, c] with
          | none =>
            cases b with
            | some d => cases hz
            | none =>
              cases c with
              | some d => cases hz
              | none =>
                obtain ⟨n1, r1, g1⟩ := ix
                obtain ⟨n2, r2, g2⟩ := iy
                exact .inl ⟨_, x, y, f, n1, n2, M, rfl, hK, r1.row, r2.row, g1, g2, hM, fun v H' d s _ _ => qg rfl v H' s⟩
          | some d => exact .inr (bad d hz)
        · walk_at "g"
          cases hz : firstO [b, c] with
          | none =>
            cases b with
            | some d => cases hz
            | none =>
              cases c with
              | some d => cases hz
              | none =>
                obtain ⟨n1, r1, g1⟩ := ix
                obtain ⟨n2, r2, g2⟩ := iy
                exact .inl ⟨_, x, y, f, n1, n2, M, rfl, hK, r1, r2.row, g1, g2, hM, fun v H' d s _ _ => qg rfl v H' s⟩
          | some d => exact .inr (bad d hz)
    · have gd : firstO bs = none → ∃ nss : List (List Int), xs.length = nss.length ∧ ∀ (i : Nat) (ns : List Int), nss[i]? = some ns → ∃ w, xs[i]? = some w ∧ RowF M H w ns ∧ goodRow ns := fun hz => by
        have : ∀ (n : Nat), n ≤ xs.length → ∃ nss : List (List Int), n = nss.length ∧ ∀ (i : Nat) (ns : List Int), nss[i]? = some ns → ∃ w, xs[i]? = some w ∧ RowF M H w ns ∧ goodRow ns := by
          intro n
          induction n with
          | zero => exact fun _ => ⟨[], rfl, fun i ns h => by simp at h⟩
          | succ n ih =>
            intro hn
            obtain ⟨nss, l, h⟩ := ih (by omega)
            have e1 : xs[n]? = some (xs[n]'(by omega)) := List.getElem?_eq_getElem _
            obtain ⟨b, e2, it⟩ := hI.2 n _ e1
            cases b with
            | some d =>
              exfalso
              unfold firstO at hz
              rw [List.findSome?_eq_none_iff] at hz
              exact nomatch hz _ (List.mem_of_getElem? e2)
            | none =>
              obtain ⟨ns, r, g⟩ := it
              refine ⟨nss ++ [ns], by rw [List.length_append, ← l]; rfl, fun i ms hi => ?_⟩
              by_cases c : i < nss.length
              · rw [List.getElem?_append_left c] at hi
                exact h i ms hi
              · rw [List.getElem?_append_right (by omega)] at hi
                have : i - nss.length = 0 := by
                  have := (List.getElem?_eq_some_iff.mp hi).1
                  simp at this
                  omega
                rw [this] at hi
                cases hi
                rw [show i = n by omega]
                exact ⟨_, e1, r, g⟩
        exact this _ (Nat.le_refl _)
      rcases hw with rfl | rfl
      · walk_at "g"
        refine ⟨l, xs, rfl, .inl ⟨SqL.of el, fun p1 hp1 => ?_⟩⟩
        have t1 : Same H (upd H p1 (.tup xs)) := same_new hp1
        have e1 : upd H p1 (.tup xs) p1 = some (.tup xs) := upd_same
        have n1 : ¬ M p1 := hM.out hp1
        generalize upd H p1 (.tup xs) = H1 at t1 e1
        cases hz : firstO bs with
        | none =>
          obtain ⟨nss, ln, h⟩ := gd hz
          refine .inl ⟨_, _, f, nss, M, rfl, hK.sx (Sx.same t1), ⟨p1, xs, rfl, n1, .inl e1, ln, by omega, fun i ns hi => ?_⟩, hM.gr (Gr.same t1), fun v H' s _ => qg hz v H' (t1.trans s)⟩
          obtain ⟨w, e, r, g⟩ := h i ns hi
          exact ⟨w, e, r.sx (Sx.same t1), g⟩
        | some d => exact .inr ⟨_, p1, xs, bs, d, M, rfl, SqT.of e1, hI.its.sx (Sx.same t1), hz, fun H' v dd s r h => qb d hz H' v dd (t1.trans s) r h⟩
      · walk_at "g"
        refine ⟨szK rfl, fun p0 hp0 => ?_⟩
        have t0 : Same H (upd H p0 (.lst [.ref ka, .ref ka])) := same_new hp0
        have e0 : upd H p0 (.lst [.ref ka, .ref ka]) p0 = some (.lst [.ref ka, .ref ka]) := upd_same
        generalize upd H p0 (.lst [.ref ka, .ref ka]) = H0 at t0 e0
        walk_at "g"
        refine ⟨p0, _, rfl, SqL.of e0, fun p2 hp2 => ?_⟩
        obtain ⟨mn, rfl⟩ : ∃ mn : Nat, many = (mn : Int) := ⟨many.toNat, by omega⟩
        rw [cut_hi]
        have t2 : Same H0 (upd H0 p2 (.lst (([V.ref ka, .ref ka] : List V).take mn))) := same_new hp2
        have e2 : upd H0 p2 (.lst (([V.ref ka, .ref ka] : List V).take mn)) p2 = some (.lst (([V.ref ka, .ref ka] : List V).take mn)) := upd_same
        generalize upd H0 p2 (.lst (([V.ref ka, .ref ka] : List V).take mn)) = H2 at t2 e2
        have t02 := t0.trans t2
        have el2 := t02 _ _ el
        walk_at "g"
        refine ⟨l, xs, rfl, .inl ⟨SqL.of el2, fun p1 hp1 => ?_⟩⟩
        have t1 : Same H2 (upd H2 p1 (.tup xs)) := same_new hp1
        have e1 : upd H2 p1 (.tup xs) p1 = some (.tup xs) := upd_same
        have hM2 := hM.gr (Gr.same t02)
        have n1 : ¬ M p1 := hM2.out hp1
        generalize upd H2 p1 (.tup xs) = H1 at t1 e1
        have t := t02.trans t1
        have e2' := t1 _ _ e2
        cases hz : firstO bs with
        | none =>
          obtain ⟨nss, ln, h⟩ := gd hz
          refine .inl ⟨p2, _, _, List.replicate mn f, nss, M, rfl, SqL.of e2', ⟨?_, fun j g hj => ?_⟩, ?_, ⟨p1, xs, rfl, n1, .inl e1, ln, by omega, fun i ns hi => ?_⟩, hM.gr (Gr.same t), fun H' l' s _ _ => qg hz _ H' (t.trans s)⟩
          · rw [List.length_replicate, List.length_take]
            show min mn 2 = mn
            omega
          · have hj' := List.mem_replicate.mp (List.mem_of_getElem? hj)
            rw [hj'.2]
            have hlt : j < mn := by
              have := (List.getElem?_eq_some_iff.mp hj).1
              rw [List.length_replicate] at this
              exact this
            refine ⟨.ref ka, ?_, hK.sx (Sx.same t)⟩
            rw [List.getElem?_take, if_pos hlt]
            have : j = 0 ∨ j = 1 := by omega
            rcases this with rfl | rfl <;> rfl
          · rw [List.length_replicate]; omega
          · obtain ⟨w, e, r, g⟩ := h i ns hi
            exact ⟨w, e, r.sx (Sx.same t), g⟩
        | some d => exact .inr ⟨_, p1, xs, bs, d, M, rfl, SqT.of e1, hI.its.sx (Sx.same t), hz, fun H' v dd s r h => qb d hz H' v dd (t.trans s) r h⟩
end
end D

namespace D
open PySem PySem.Spec PyProof.Rows L2
local macro_rules | `(tactic| walk_at "st") => `(tactic| first | exact SqT.of (by assumption) | exact Or.inl (by assumption) | exact SqT.of upd_same | fail "st")
local macro_rules | `(tactic| walk_at "ixt") => `(tactic| refine ⟨_, _, _, _, rfl, rfl, (by walk_at "st" : SqT _ _ _ _), by rfl, ?_⟩)
local macro_rules | `(tactic| walk_at "sq") => `(tactic| first | exact SqL.of (by assumption) | assumption | exact Or.inl (by assumption) | exact SqL.of upd_same | fail "sq")
local macro_rules | `(tactic| walk_at "ix") => `(tactic| refine ⟨_, _, _, _, rfl, rfl, (by walk_at "sq" : SqL _ _ _ _), by rfl, ?_⟩)
local macro_rules | `(tactic| walk_at "set") => `(tactic| refine ⟨_, _, _, _, rfl, rfl, by first | assumption | exact upd_same, by rfl, ?_⟩)
local macro_rules | `(tactic| walk_at "len") => `(tactic| refine ⟨_, _, rfl, Or.inl (by walk_at "sq" : SqL _ _ _ _), ?_⟩)
local macro_rules | `(tactic| walk_at "g") => `(tactic| repeat (first | refine ⟨_, rfl, ?_⟩ | refine ⟨_, _, rfl, rfl, ?_⟩ | refine ⟨Or.inr (by decide), ?_⟩ | refine ⟨Or.inl (by decide), ?_⟩ | refine ⟨(by decide : (0 : Int) < _), ?_⟩ | refine ⟨(⟨by decide, by decide⟩ : CDiv _ _), ?_⟩ | refine ⟨(⟨by decide, by decide, by decide⟩ : CPow _ _), ?_⟩ | refine Or.inl ⟨_, rfl, ?_⟩ | refine ⟨rfl, ?_⟩ | walk_at "ix" | walk_at "ixt" | walk_at "len" | fail "g"))
local macro_rules | `(tactic| walk_at "if") => `(tactic| refine ite2 (fun e => ?_) (fun e => ?_))
section
variable {P : Program} {w : World} {K : PySem.W.Frag} {mg : Str → Option Value} {base : Heap}
theorem kit_any3 {K : PySem.W.Frag} {D A B C : Addr} (h1 : PySem.W.kitOne K (.ref D) (.ref A) = some false) (h2 : PySem.W.kitOne K (.ref D) (.ref B) = some false) (h3 : PySem.W.kitOne K (.ref D) (.ref C) = some false) : PySem.W.kitAny K (.ref D) ([A, B, C].map Value.ref) = some false := by
  unfold PySem.W.kitAny
  dsimp only [List.map]
  rw [h1]
  exact kit_any2 h2 h3
def sBadRow : Str := Str.ofString "BadRow"
def rowRes : Option PyData → PyData
  | none => .tuple [.str sGood, .str (Str.ofString "")]
  | some d => .tuple [.str sBadRow, .str d.shown]
def sp_rtold (T : Txt K mg) : Sp := fun vs H Q _ => ∃ (wh many : Int) (k : V) (l : Addr) (f : Fm) (xs : List V) (bs : List (Option PyData)) (M : Ms), vs = [.int wh, k, .int many, .ref l] ∧ KeyAt T.C_Key M H k f ∧ Mk M H ∧ H l = some (.lst xs) ∧ ItsF M H xs bs ∧ lenFor wh xs.length ∧ 0 ≤ many ∧ many ≤ 2 ∧
  (∀ d, firstO bs = some d → Gd 100000 30 d) ∧ ∀ v H', Same H H' → Rp M H' v (rowRes (firstO bs)) → Q v H'
theorem ok_rtold (T : Txt K mg) : FnG P w K mg base CX0 14 T.f__law_row_told T.d__law_row_told ["_law_which", "_law_key", "_law_many", "_law_rows"] (sp_rtold T) := by
  have G__law_called := ok_called (P := P) (w := w) (base := base) T
  refine Fun.okG T.F__law_row_told sc__law_row_told (fun vs H Q E h => ?_) (fun cdv A outer s H vs Q E gd hr h => ?_)
  · obtain ⟨_, _, _, _, _, _, _, _, rfl, _⟩ := h
    rfl
  · obtain ⟨wh, many, k, l, f, xs, bs, M, rfl, hK, hM, el, hI, hlen, m0, m2, hg, q⟩ := h
    refine ⟨_, (pss_cons (ps_try_as (i := 4) rfl rfl sc__law_row_told.nd rfl rfl ⟨rfl, by decide, .inl T.g_ScreenError⟩ takes0 (fun W pn xe tk _ => (pss_one (ps_expr (pe_callS G__law_called (hr.mono (by omega)) (by rfl) T.g__law_called T.F__law_called.kp T.b__law_called (fun σ => passAt tk σ) (pa_cons (pv 0) (pa_cons (pv 1) (pa_cons (pv 2) (pa_cons (pv 3) pa_nil)))))))) (fun a oe cls d pn hz hf => (pss_cons (ps_if (PW.pt (pw_and (pt_val (pe_callB (call_isX hz hf) (by rfl) T.m_isinstance (by decide +kernel) (pa_cons (pv 4) (pa_cons (pe_glob (v := .ref T.C_BadRow) rfl T.g_BadRow rfl) pa_nil)))) (pw_and (pt_val (pe_callB (call_isX hz hf) (by rfl) T.m_isinstance (by decide +kernel) (pa_cons (pv 4) (pa_cons (pe_bltn (v := .ty "ValueError") (u := .type "ValueError") (by rfl) T.m_ValueError (by decide +kernel) rfl) pa_nil)))) (pw_and1 (pt_not (pt_val (pe_callB (call_isXT hz hf) (by rfl) T.m_isinstance (by decide +kernel) (pa_cons (pv 4) (pa_cons (pe_tup (pa_cons (pe_glob (v := .ref T.C_BadForm) rfl T.g_BadForm rfl) (pa_cons (pe_glob (v := .ref T.C_NoName) rfl T.g_NoName rfl) (pa_cons (pe_glob (v := .ref T.C_NoItem) rfl T.g_NoItem rfl) pa_nil)))) pa_nil))))))))) (pss_one (ps_ret (pe_tup (pa_cons pe_str (pa_cons (pe_callB (call_reprVK (K := K) rfl gd (have z := un200 hr; z)) (by rfl) T.m_repr (by decide +kernel) (pa_cons (pe_xf T.xf_BadRow T.nf_BadRow_row hz hf (pv 4)) pa_nil)) pa_nil))))) pss_nil)
      (pss_one (ps_ret (pe_tup (pa_cons pe_str (pa_cons pe_str pa_nil))))))))
      (pss_one (ps_ret (pe_tup (pa_cons pe_str (pa_cons pe_str pa_nil)))))), ?_⟩
    walk_at "g"
    refine ⟨wh, many, k, l, f, xs, bs, M, rfl, hK, hM, el, hI, hlen, m0, m2, fun d hd H' vp dd s' r' hd' => ?_, fun hz v H' s' => ?_⟩
    · have SH := (hg d hd).showing (by omega) (by omega)
      rw [hd] at q
      refine ⟨true, exm_own T.be_ScreenError T.hd_ScreenError T.ty_ScreenError T.s_BadRow_ScreenError, fun _ ex hex => ?_, fun z => by cases z⟩
      have sd : Same H' (upd H' dd (.xd [(sRowF, vp)])) := same_new hd'
      have ed0 : upd H' dd (.xd [(sRowF, vp)]) dd = some (.xd [(sRowF, vp)]) := upd_same
      have rd0 := r'.sx (Sx.same (M := M) sd)
      have hM2 : Mk M (upd H' dd (.xd [(sRowF, vp)])) := (hM.gr (Gr.same s')).gr (Gr.same sd)
      generalize upd H' dd (.xd [(sRowF, vp)]) = H2 at sd ed0 rd0 hM2
      walk_at "g"
      refine ⟨T.C_BadRow, dd, _, .ref T.C_BadRow, .ref T.C_BadRow, true, rfl, rfl, T.is_BadRow, ed0, rfl, fun u r => r, kit_self, ?_⟩
      walk_at "g"
      refine ⟨T.C_BadRow, dd, _, .ty "ValueError", .type "ValueError", true, rfl, rfl, T.is_BadRow, ed0, rfl, fun u r => r, kit_ty2 (by decide +kernel) T.vb_BadRow, ?_⟩
      walk_at "g"
      refine ⟨szK rfl, fun p3 hp3 => ?_⟩
      have s3 : Same H2 (upd H2 p3 (.tup [.ref T.C_BadForm, .ref T.C_NoName, .ref T.C_NoItem])) := same_new hp3
      have ed3 := s3 _ _ ed0
      refine ⟨T.C_BadRow, dd, p3, _, [T.C_BadForm, T.C_NoName, T.C_NoItem], false, rfl, rfl, T.is_BadRow, ed3, rfl, upd_same, ?_, ?_⟩
      · exact kit_any3 (kit_err T.hd_BadForm T.ty_BadForm T.ne_BadRow_BadForm T.s_BadRow_BadForm) (kit_err T.hd_NoName T.ty_NoName T.ne_BadRow_NoName T.s_BadRow_NoName) (kit_err T.hd_NoItem T.ty_NoItem T.ne_BadRow_NoItem T.s_BadRow_NoItem)
      have rd3 := rd0.sx (Sx.same (M := M) s3)
      have hM3 := hM2.gr (Gr.same s3)
      generalize upd H2 p3 (.tup [.ref T.C_BadForm, .ref T.C_NoName, .ref T.C_NoItem]) = H3 at s3 ed3 rd3 hM3
      walk_at "g"
      refine ⟨dd, _, _, rfl, ed3, rfl, ?_⟩
      refine ⟨_, _, rfl, Rp.dp (K := K) _ _ rd3, SH.1, SH.2.1, SH.2.2.1, SH.2.2.2, ?_⟩
      refine ⟨szK rfl, fun p4 hp4 => ?_⟩
      exact q _ _ (s'.trans (sd.trans (s3.trans (same_new hp4)))) (Rp.newT hM3 hp4 (.cons (.str _) (.one (.str _))))
    · rw [hz] at q
      walk_at "g"
      refine ⟨szK rfl, fun p4 hp4 => ?_⟩
      exact q _ _ (s'.trans (same_new hp4)) (Rp.newT (hM.gr (Gr.same s')) hp4 (.cons (.str _) (.one (.str _))))
end
end D

namespace D
open PySem PySem.Spec PyProof.Rows L2
local macro_rules | `(tactic| walk_at "st") => `(tactic| first | exact SqT.of (by assumption) | exact Or.inl (by assumption) | exact SqT.of upd_same | fail "st")
local macro_rules | `(tactic| walk_at "ixt") => `(tactic| refine ⟨_, _, _, _, rfl, rfl, (by walk_at "st" : SqT _ _ _ _), by rfl, ?_⟩)
local macro_rules | `(tactic| walk_at "sq") => `(tactic| first | exact SqL.of (by assumption) | assumption | exact Or.inl (by assumption) | exact SqL.of upd_same | fail "sq")
local macro_rules | `(tactic| walk_at "ix") => `(tactic| refine ⟨_, _, _, _, rfl, rfl, (by walk_at "sq" : SqL _ _ _ _), by rfl, ?_⟩)
local macro_rules | `(tactic| walk_at "set") => `(tactic| refine ⟨_, _, _, _, rfl, rfl, by first | assumption | exact upd_same, by rfl, ?_⟩)
local macro_rules | `(tactic| walk_at "len") => `(tactic| refine ⟨_, _, rfl, Or.inl (by walk_at "sq" : SqL _ _ _ _), ?_⟩)
local macro_rules | `(tactic| walk_at "g") => `(tactic| repeat (first | refine ⟨_, rfl, ?_⟩ | refine ⟨_, _, rfl, rfl, ?_⟩ | refine ⟨Or.inr (by decide), ?_⟩ | refine ⟨Or.inl (by decide), ?_⟩ | refine ⟨(by decide : (0 : Int) < _), ?_⟩ | refine ⟨(⟨by decide, by decide⟩ : CDiv _ _), ?_⟩ | refine ⟨(⟨by decide, by decide, by decide⟩ : CPow _ _), ?_⟩ | refine Or.inl ⟨_, rfl, ?_⟩ | refine ⟨rfl, ?_⟩ | walk_at "ix" | walk_at "ixt" | walk_at "len" | fail "g"))
local macro_rules | `(tactic| walk_at "if") => `(tactic| refine ite2 (fun e => ?_) (fun e => ?_))
section
variable {P : Program} {w : World} {K : PySem.W.Frag} {mg : Str → Option Value} {base : Heap}
def sp_row (K : PySem.W.Frag) : Sp := fun vs H Q _ => ∃ (b : Addr) (m : Int) (M : Ms), vs = [.ref b, .int m] ∧ Bag K M H b ∧ Mk M H ∧ 0 ≤ m ∧ m ≤ 1000 ∧
  DrR K M b H (fun ns => (ns.length : Int) ≤ m ∧ ns.Nodup ∧ ∀ n ∈ ns, 0 ≤ n ∧ n ≤ 9) Q
theorem ok_row (T : Txt K mg) : FnOk P w K mg base CX0 4 T.f__law_row T.d__law_row ["_law_bag_here", "_law_most"] (sp_row K) := by
  have G__law_pick := ok_pick (P := P) (w := w) (base := base) T
  have G__law_mingled := ok_mingled (P := P) (w := w) (base := base) T
  refine T.F__law_row.ok sc__law_row (fun vs H Q E h => ?_) (fun cdv A outer s H vs Q E hr h => ?_)
  · obtain ⟨_, _, _, rfl, _⟩ := h
    rfl
  · obtain ⟨b, m, M, rfl, hB, hM, hm0, hm1, q⟩ := h
    refine ⟨_, (pss_cons (ps_set (i := 2) sc__law_row.nd rfl (Or.inl rfl) (pe_call G__law_mingled (hr.mono (by omega)) (by rfl) T.g__law_mingled T.F__law_mingled.kp T.b__law_mingled .nil pass0 (pa_cons (pv 0) (pa_cons (pe_slice (sl_listK (K := K) rfl) (pe_lst (pa_cons pe_int (pa_cons pe_int (pa_cons pe_int (pa_cons pe_int (pa_cons pe_int (pa_cons pe_int (pa_cons pe_int (pa_cons pe_int (pa_cons pe_int (pa_cons pe_int pa_nil))))))))))) po_none (po_some (pe_op op_add pe_int (pe_call G__law_pick (hr.mono (by omega)) (by rfl) T.g__law_pick T.F__law_pick.kp T.b__law_pick .nil pass0 (pa_cons (pv 0) (pa_cons pe_int pa_nil)))))) pa_nil))))
      (pss_one (ps_ret (pe_callTy (call_tupleF (K := K) rfl) (by rfl) T.m_tuple (by decide +kernel) (pa_cons (pe_slice (sl_listK (K := K) rfl) (pv 2) po_none (po_some (pe_call G__law_pick (hr.mono (by omega)) (by rfl) T.g__law_pick T.F__law_pick.kp T.b__law_pick .nil pass0 (pa_cons (pv 0) (pa_cons (pe_op op_add (pv 1) pe_int) pa_nil))))) pa_nil))))), ?_⟩
    walk_at "g"
    refine ⟨szK rfl, fun p1 hp1 => ?_⟩
    walk_at "g"
    have hB1 : Bag K M (upd H p1 (.lst (ten.map V.int))) b := hB.same (same_new hp1)
    refine ⟨b, _, M, rfl, hB1, by omega, by omega, fun w1 H1 h0 h1 hA1 hB1 => ?_⟩
    walk_at "g"
    have hb1 : p1 ≠ b := fun z => hB.there (by rw [← z]; exact hp1)
    have e1 : H1 p1 = some (.lst (ten.map V.int)) := (hA1 p1 hb1).trans upd_same
    refine ⟨p1, _, rfl, SqL.of e1, fun p2 hp2 => ?_⟩
    obtain ⟨j, rfl⟩ : ∃ j : Nat, w1 = (j : Int) := ⟨w1.toNat, by omega⟩
    have ec : cutV (ten.map V.int) none (some (2 + (j : Int))) = (ten.take (2 + j)).map V.int := by
      rw [show (2 : Int) + (j : Int) = ((2 + j : Nat) : Int) by omega, cut_hi, List.map_take]
    have g1 : Gr H H1 := (Gr.upd (o := .lst (ten.map V.int))).trans (At.gr hA1 hB1.there)
    have hM1 := hM.gr g1
    have sH1 : Sx (one b) H H1 := (Sx.new hp1).trans hA1.sx
    have r2 : Rp M (upd H1 p2 (.lst (cutV (ten.map V.int) none (some (2 + (j : Int)))))) (.ref p2) (.list ((ten.take (2 + j)).map PyData.int)) := by
      rw [ec]
      exact Rp.newL hM1 hp2 (RpAll.ints _)
    refine ⟨b, .ref p2, _, M, rfl, hB1.same (same_new hp2), hM1.new, r2, by rw [List.length_map, List.length_take]; have : ten.length = 10 := rfl; omega, fun v H2 d s2 g2 hB2 hR2 hd => ?_⟩
    obtain ⟨es, rfl, hper⟩ := hd
    obtain ⟨ns, hns, rfl⟩ := perm_ints hper
    obtain ⟨a, xs, rfl, na, ha, rx⟩ := Rp.lstN hR2
    have ex := rx.ofInts
    subst ex
    walk_at "g"
    refine ⟨b, _, M, rfl, hB2, by omega, by omega, fun w2 H3 k0 k1 hA3 hB3 => ?_⟩
    obtain ⟨j2, rfl⟩ : ∃ j2 : Nat, w2 = (j2 : Int) := ⟨w2.toNat, by omega⟩
    have hab : a ≠ b := fun z => na (by rw [z]; exact hB.w)
    have hS3 : SqL K H3 a (ns.map V.int) := sx_l hA3.sx (fun z : a = b => hab z) (.inl ha)
    have g3 : Gr H H3 := g1.trans (Gr.upd.trans (g2.trans (At.gr hA3 hB3.there)))
    have s3 : Sx (one b) H H3 := sH1.trans ((Sx.new hp2).trans (s2.trans hA3.sx))
    walk_at "g"
    refine ⟨a, _, rfl, hS3, fun p3 hp3 => ?_⟩
    refine ⟨p3, _, rfl, SqL.of upd_same, fun p4 o4 hp4 oc od => ?_⟩
    have ec2 : cutV (ns.map V.int) none (some (j2 : Int)) = (ns.take j2).map V.int := by rw [cut_hi, List.map_take]
    rw [ec2] at hp4 ⊢
    have nd := ten_take (2 + j)
    refine q _ _ (ns.take j2) (s3.trans ((Sx.new hp3).trans (Sx.new hp4))) (g3.trans (Gr.upd.trans Gr.upd)) ((hB3.same (same_new hp3)).same (same_new hp4)) ⟨p4, o4, rfl, (hM.gr (g3.trans Gr.upd)).out hp4, upd_same, oc, od⟩ ⟨?_, ?_, fun n hn => ?_⟩
    · rw [List.length_take]
      omega
    · exact (hns.nodup_iff.mpr nd.1).sublist (List.take_sublist _ _)
    · exact nd.2 n (hns.mem_iff.mp (List.mem_of_mem_take hn))
end
end D

namespace D
open PySem PySem.Spec PyProof.Rows L2
local macro_rules | `(tactic| walk_at "st") => `(tactic| first | exact SqT.of (by assumption) | exact Or.inl (by assumption) | exact SqT.of upd_same | fail "st")
local macro_rules | `(tactic| walk_at "ixt") => `(tactic| refine ⟨_, _, _, _, rfl, rfl, (by walk_at "st" : SqT _ _ _ _), by rfl, ?_⟩)
local macro_rules | `(tactic| walk_at "sq") => `(tactic| first | exact SqL.of (by assumption) | assumption | exact Or.inl (by assumption) | exact SqL.of upd_same | fail "sq")
local macro_rules | `(tactic| walk_at "ix") => `(tactic| refine ⟨_, _, _, _, rfl, rfl, (by walk_at "sq" : SqL _ _ _ _), by rfl, ?_⟩)
local macro_rules | `(tactic| walk_at "set") => `(tactic| refine ⟨_, _, _, _, rfl, rfl, by first | assumption | exact upd_same, by rfl, ?_⟩)
local macro_rules | `(tactic| walk_at "len") => `(tactic| refine ⟨_, _, rfl, Or.inl (by walk_at "sq" : SqL _ _ _ _), ?_⟩)
local macro_rules | `(tactic| walk_at "g") => `(tactic| repeat (first | refine ⟨_, rfl, ?_⟩ | refine ⟨_, _, rfl, rfl, ?_⟩ | refine ⟨Or.inr (by decide), ?_⟩ | refine ⟨Or.inl (by decide), ?_⟩ | refine ⟨(by decide : (0 : Int) < _), ?_⟩ | refine ⟨(⟨by decide, by decide⟩ : CDiv _ _), ?_⟩ | refine ⟨(⟨by decide, by decide, by decide⟩ : CPow _ _), ?_⟩ | refine Or.inl ⟨_, rfl, ?_⟩ | refine ⟨rfl, ?_⟩ | walk_at "ix" | walk_at "ixt" | walk_at "len" | fail "g"))
local macro_rules | `(tactic| walk_at "if") => `(tactic| refine ite2 (fun e => ?_) (fun e => ?_))
section
variable {P : Program} {w : World} {K : PySem.W.Frag} {mg : Str → Option Value} {base : Heap}
def sp_anyKey (K : PySem.W.Frag) : Sp := fun vs H Q _ => ∃ (b : Addr) (M : Ms), vs = [.ref b] ∧ Bag K M H b ∧ Mk M H ∧ Dr K M b H (fun x => ∃ f : Fm, x = f.enc ∧ goodKey f) Q
theorem ok_anyKey (T : Txt K mg) : FnOk P w K mg base CX0 9 T.f__law_any_key T.d__law_any_key ["_law_bag_here"] (sp_anyKey K) := by
  have G__law_pick := ok_pick (P := P) (w := w) (base := base) T
  have G__law_choice := ok_choice (P := P) (w := w) (base := base) T
  have G__law_form := ok_form (P := P) (w := w) (base := base) T 5
  refine T.F__law_any_key.ok sc__law_any_key (fun vs H Q E h => ?_) (fun cdv A outer s H vs Q E hr h => ?_)
  · obtain ⟨_, _, rfl, _⟩ := h
    rfl
  · obtain ⟨b, M, rfl, hB, hM, q⟩ := h
    refine ⟨_, (pss_cons (ps_set (i := 1) sc__law_any_key.nd rfl (Or.inl rfl) (pe_call G__law_pick (hr.mono (by omega)) (by rfl) T.g__law_pick T.F__law_pick.kp T.b__law_pick .nil pass0 (pa_cons (pv 0) (pa_cons pe_int pa_nil))))
      (pss_cons (ps_set (i := 2) sc__law_any_key.nd rfl (Or.inl rfl) (pe_call G__law_choice (hr.mono (by omega)) (by rfl) T.g__law_choice T.F__law_choice.kp T.b__law_choice .nil pass0 (pa_cons (pv 0) (pa_cons (pe_lst (pa_cons pe_int (pa_cons pe_int (pa_cons pe_int (pa_cons pe_int (pa_cons pe_int (pa_cons pe_int (pa_cons pe_int (pa_cons pe_int (pa_cons pe_int (pa_cons pe_int (pa_cons pe_int pa_nil)))))))))))) pa_nil))))
      (pss_cons (ps_set (i := 3) sc__law_any_key.nd rfl (Or.inl rfl) (pe_call G__law_choice (hr.mono (by omega)) (by rfl) T.g__law_choice T.F__law_choice.kp T.b__law_choice .nil pass0 (pa_cons (pv 0) (pa_cons (pe_lst (pa_cons pe_int (pa_cons pe_int (pa_cons pe_int (pa_cons pe_int (pa_cons pe_int (pa_cons pe_int pa_nil))))))) pa_nil))))
      (pss_cons (ps_set (i := 4) sc__law_any_key.nd rfl (Or.inl rfl) (pe_tup (pa_cons pe_str (pa_cons pe_str pa_nil))))
      (pss_cons (ps_if (pt_cmpR op_eq (pv 1) pe_int (nomark _)) (pss_one (ps_ret (pv 4))) pss_nil)
      (pss_cons (ps_if (pt_cmpR op_eq (pv 1) pe_int (nomark _)) (pss_one (ps_ret (pe_tup (pa_cons pe_str (pa_cons pe_str pa_nil))))) pss_nil)
      (pss_cons (ps_if (pt_cmpR op_eq (pv 1) pe_int (nomark _)) (pss_one (ps_ret (pe_tup (pa_cons pe_str (pa_cons (pv 2) pa_nil))))) pss_nil)
      (pss_cons (ps_if (pt_cmpR op_eq (pv 1) pe_int (nomark _)) (pss_one (ps_ret (pe_tup (pa_cons pe_str (pa_cons (pv 4) (pa_cons (pe_tup (pa_cons pe_str (pa_cons (pv 2) pa_nil))) pa_nil)))))) pss_nil)
      (pss_cons (ps_if (pt_cmpR op_eq (pv 1) pe_int (nomark _)) (pss_one (ps_ret (pe_tup (pa_cons pe_str (pa_cons (pv 4) (pa_cons (pv 4) pa_nil)))))) pss_nil)
      (pss_cons (ps_if (pt_cmpR op_eq (pv 1) pe_int (nomark _)) (pss_one (ps_ret (pe_tup (pa_cons pe_str (pa_cons (pv 4) (pa_cons (pe_tup (pa_cons pe_str (pa_cons (pv 2) pa_nil))) pa_nil)))))) pss_nil)
      (pss_cons (ps_if (pt_cmpR op_eq (pv 1) pe_int (nomark _)) (pss_one (ps_ret (pe_tup (pa_cons pe_str (pa_cons (pe_tup (pa_cons pe_str (pa_cons (pv 4) (pa_cons (pe_tup (pa_cons pe_str (pa_cons (pv 2) pa_nil))) pa_nil)))) (pa_cons (pe_tup (pa_cons pe_str (pa_cons (pe_call G__law_pick (hr.mono (by omega)) (by rfl) T.g__law_pick T.F__law_pick.kp T.b__law_pick .nil pass0 (pa_cons (pv 0) (pa_cons pe_int pa_nil))) pa_nil))) (pa_cons (pv 4) pa_nil))))))) pss_nil)
      (pss_cons (ps_if (pt_cmpR op_eq (pv 1) pe_int (nomark _)) (pss_one (ps_ret (pe_tup (pa_cons pe_str (pa_cons (pv 4) (pa_cons (pe_tup (pa_cons pe_str (pa_cons pe_str pa_nil))) pa_nil)))))) pss_nil)
      (pss_cons (ps_if (pt_cmpR op_eq (pv 1) pe_int (nomark _)) (pss_one (ps_ret (pe_tup (pa_cons pe_str (pa_cons (pe_tup (pa_cons pe_str (pa_cons (pe_tup (pa_cons pe_str (pa_cons pe_str pa_nil))) (pa_cons (pe_tup (pa_cons pe_str (pa_cons (pv 3) pa_nil))) pa_nil)))) (pa_cons (pe_tup (pa_cons pe_str (pa_cons (pv 2) pa_nil))) (pa_cons (pv 4) pa_nil))))))) pss_nil)
      (pss_one (ps_ret (pe_call G__law_form (hr.mono (by omega)) (by rfl) T.g__law_form T.F__law_form.kp T.b__law_form .nil pass0 (pa_cons (pv 0) (pa_cons (pe_lst (pa_cons pe_str (pa_cons pe_str pa_nil))) (pa_cons (pe_op op_add pe_int (pe_call G__law_pick (hr.mono (by omega)) (by rfl) T.g__law_pick T.F__law_pick.kp T.b__law_pick .nil pass0 (pa_cons (pv 0) (pa_cons pe_int pa_nil)))) pa_nil))))))))))))))))))), ?_⟩
    have hw := hB.w
    walk_at "g"
    refine ⟨b, _, M, rfl, hB, by omega, by omega, fun way H1 h0 h1 hA1 hB1 => ?_⟩
    walk_at "g"
    walk_at "g"
    refine ⟨szK rfl, fun p1 hp1 => ?_⟩
    have n1 : p1 ≠ b := fun z => hB1.there (by rw [← z]; exact hp1)
    refine ⟨b, p1, _, M, rfl, hB1.same (same_new hp1), SqL.of upd_same, n1, by decide, by decide, fun v2 H2 hv2 hA2 hB2 => ?_⟩
    obtain ⟨worth, rfl, w0, w9⟩ := ints_mem (l := [9, 9, 0, 1, 2, 3, 4, 5, 6, 7, 8]) (by decide) hv2
    walk_at "g"
    walk_at "g"
    refine ⟨szK rfl, fun p2 hp2 => ?_⟩
    have n2 : p2 ≠ b := fun z => hB2.there (by rw [← z]; exact hp2)
    refine ⟨b, p2, _, M, rfl, hB2.same (same_new hp2), SqL.of upd_same, n2, by decide, by decide, fun v3 H3 hv3 hA3 hB3 => ?_⟩
    obtain ⟨spot, rfl, t0, t9⟩ := ints_mem (l := [4, 4, 0, 1, 2, 3]) (by decide) hv3
    walk_at "g"
    walk_at "g"
    refine ⟨szK rfl, fun p4 hp4 => ?_⟩
    have s4 : Sx (one b) H (upd H3 p4 (.tup [.str (Str.ofString "get"), .str (Str.ofString "item")])) := hA1.sx.trans ((Sx.new hp1).trans (hA2.sx.trans ((Sx.new hp2).trans (hA3.sx.trans (Sx.new hp4)))))
    have g4 : Gr H (upd H3 p4 (.tup [.str (Str.ofString "get"), .str (Str.ofString "item")])) := (At.gr hA1 hB1.there).trans (Gr.upd.trans ((At.gr hA2 hB2.there).trans (Gr.upd.trans ((At.gr hA3 hB3.there).trans Gr.upd))))
    have g3 : Gr H H3 := (At.gr hA1 hB1.there).trans (Gr.upd.trans ((At.gr hA2 hB2.there).trans (Gr.upd.trans (At.gr hA3 hB3.there))))
    have hB4 : Bag K M (upd H3 p4 (.tup [.str (Str.ofString "get"), .str (Str.ofString "item")])) b := hB3.same (same_new hp4)
    have hI : Rp M (upd H3 p4 (.tup [.str (Str.ofString "get"), .str (Str.ofString "item")])) (.ref p4) (Fm.get sItem).enc := Rp.newT (hM.gr g3) hp4 (.cons (.str _) (.one (.str _)))
    have hM4 := hM.gr g4
    generalize upd H3 p4 (.tup [.str (Str.ofString "get"), .str (Str.ofString "item")]) = H4 at s4 g4 hB4 hI hM4
    have fin : ∀ (f : Fm) v H', Sx (one b) H4 H' → Gr H4 H' → Bag K M H' b → Rp M H' v f.enc → f.dep ≤ 5 → f.ok isKN → Q v H' := fun f v H' sx gr hB' r d o => q v H' f.enc (s4.trans sx) (g4.trans gr) hB' r ⟨f, rfl, d, o⟩
    have finS : ∀ (f : Fm) v H', Same H4 H' → Rp M H' v f.enc → f.dep ≤ 5 → f.ok isKN → Q v H' := fun f v H' ss r d o => fin f v H' (Sx.same ss) (Gr.same ss) (hB4.same ss) r d o
    have kI : isKN sItem := .inl rfl
    have kA : isKN sAt := .inr rfl
    walk_at "g"
    walk_at "if"
    · walk_at "g"
      exact finS (.get sItem) _ _ (Same.refl _) hI (Nat.le_of_ble_eq_true rfl) kI
    walk_at "g"
    walk_at "if"
    · walk_at "g"
      walk_at "g"
      refine ⟨szK rfl, fun p5 hp5 => ?_⟩
      exact finS (.get sAt) _ _ (same_new hp5) (Rp.newT hM4 hp5 (.cons (.str _) (.one (.str _)))) (Nat.le_of_ble_eq_true rfl) kA
    walk_at "g"
    walk_at "if"
    · walk_at "g"
      walk_at "g"
      refine ⟨szK rfl, fun p5 hp5 => ?_⟩
      exact finS (.is worth) _ _ (same_new hp5) (Rp.newT hM4 hp5 (.cons (.str _) (.one (.int _)))) (Nat.le_of_ble_eq_true rfl) ⟨w0, w9⟩
    walk_at "g"
    walk_at "if"
    · walk_at "g"
      walk_at "g"
      refine ⟨szK rfl, fun p5 hp5 => ?_⟩
      walk_at "g"
      refine ⟨szK rfl, fun p6 hp6 => ?_⟩
      exact finS (.sum (.get sItem) (.is worth)) _ _ ((same_new hp5).trans (same_new hp6)) (Rp.newT hM4.new hp6 (.cons (.str _) (.cons (hI.sx (Sx.new hp5)) (.one (Rp.newT hM4 hp5 (.cons (.str _) (.one (.int _)))))))) (Nat.le_of_ble_eq_true rfl) ⟨kI, w0, w9⟩
    walk_at "g"
    walk_at "if"
    · walk_at "g"
      walk_at "g"
      refine ⟨szK rfl, fun p5 hp5 => ?_⟩
      exact finS (.sum (.get sItem) (.get sItem)) _ _ (same_new hp5) (Rp.newT hM4 hp5 (.cons (.str _) (.cons hI (.one hI)))) (Nat.le_of_ble_eq_true rfl) ⟨kI, kI⟩
    walk_at "g"
    walk_at "if"
    · walk_at "g"
      walk_at "g"
      refine ⟨szK rfl, fun p5 hp5 => ?_⟩
      walk_at "g"
      refine ⟨szK rfl, fun p6 hp6 => ?_⟩
      exact finS (.same (.get sItem) (.is worth)) _ _ ((same_new hp5).trans (same_new hp6)) (Rp.newT hM4.new hp6 (.cons (.str _) (.cons (hI.sx (Sx.new hp5)) (.one (Rp.newT hM4 hp5 (.cons (.str _) (.one (.int _)))))))) (Nat.le_of_ble_eq_true rfl) ⟨kI, w0, w9⟩
    walk_at "g"
    walk_at "if"
    · walk_at "g"
      walk_at "g"
      refine ⟨szK rfl, fun p5 hp5 => ?_⟩
      walk_at "g"
      refine ⟨szK rfl, fun p6 hp6 => ?_⟩
      have r6 : Rp M _ (.ref p6) (Fm.same (.get sItem) (.is worth)).enc := Rp.newT hM4.new hp6 (.cons (.str _) (.cons (hI.sx (Sx.new hp5)) (.one (Rp.newT hM4 hp5 (.cons (.str _) (.one (.int _)))))))
      walk_at "g"
      refine ⟨b, _, M, rfl, (hB4.same (same_new hp5)).same (same_new hp6), by omega, by omega, fun w7 H7 k0 k1 hA7 hB7 => ?_⟩
      have s7 := hA7.sx.le (one_le hw)
      have g7 := At.gr hA7 hB7.there
      have hM7 := (hM4.new.new).gr g7
      walk_at "g"
      refine ⟨szK rfl, fun p8 hp8 => ?_⟩
      walk_at "g"
      refine ⟨szK rfl, fun p9 hp9 => ?_⟩
      refine fin (.pick (.same (.get sItem) (.is worth)) (.is w7) (.get sItem)) _ _ ((Sx.new hp5).trans ((Sx.new hp6).trans (hA7.sx.trans ((Sx.new hp8).trans (Sx.new hp9))))) (Gr.upd.trans (Gr.upd.trans (g7.trans (Gr.upd.trans Gr.upd)))) ((hB7.same (same_new hp8)).same (same_new hp9)) ?_ (Nat.le_of_ble_eq_true rfl) ⟨⟨kI, w0, w9⟩, ⟨k0, by omega⟩, kI⟩
      exact Rp.newT hM7.new hp9 (.cons (.str _) (.cons ((r6.sx s7).sx (Sx.new hp8)) (.cons (Rp.newT hM7 hp8 (.cons (.str _) (.one (.int _)))) (.one ((((hI.sx (Sx.new hp5)).sx (Sx.new hp6)).sx s7).sx (Sx.new hp8))))))
    walk_at "g"
    walk_at "if"
    · walk_at "g"
      walk_at "g"
      refine ⟨szK rfl, fun p5 hp5 => ?_⟩
      walk_at "g"
      refine ⟨szK rfl, fun p6 hp6 => ?_⟩
      exact finS (.sum (.get sItem) (.get sAt)) _ _ ((same_new hp5).trans (same_new hp6)) (Rp.newT hM4.new hp6 (.cons (.str _) (.cons (hI.sx (Sx.new hp5)) (.one (Rp.newT hM4 hp5 (.cons (.str _) (.one (.str _)))))))) (Nat.le_of_ble_eq_true rfl) ⟨kI, kA⟩
    walk_at "g"
    walk_at "if"
    · walk_at "g"
      walk_at "g"
      refine ⟨szK rfl, fun p5 hp5 => ?_⟩
      walk_at "g"
      refine ⟨szK rfl, fun p6 hp6 => ?_⟩
      walk_at "g"
      refine ⟨szK rfl, fun p7 hp7 => ?_⟩
      walk_at "g"
      walk_at "g"
      refine ⟨szK rfl, fun p8 hp8 => ?_⟩
      walk_at "g"
      walk_at "g"
      refine ⟨szK rfl, fun p9 hp9 => ?_⟩
      refine finS (.pick (.same (.get sAt) (.is spot)) (.is worth) (.get sItem)) _ _ ((same_new hp5).trans ((same_new hp6).trans ((same_new hp7).trans ((same_new hp8).trans (same_new hp9))))) ?_ (Nat.le_of_ble_eq_true rfl) ⟨⟨kA, t0, t9⟩, ⟨w0, w9⟩, kI⟩
      exact Rp.newT hM4.new.new.new.new hp9 (.cons (.str _) (.cons ((Rp.newT hM4.new.new hp7 (.cons (.str _) (.cons ((Rp.newT hM4 hp5 (.cons (.str _) (.one (.str _)))).sx (Sx.new hp6)) (.one (Rp.newT hM4.new hp6 (.cons (.str _) (.one (.int _)))))))).sx (Sx.new hp8)) (.cons (Rp.newT hM4.new.new.new hp8 (.cons (.str _) (.one (.int _)))) (.one ((((hI.sx (Sx.new hp5)).sx (Sx.new hp6)).sx (Sx.new hp7)).sx (Sx.new hp8))))))
    walk_at "g"
    walk_at "g"
    refine ⟨szK rfl, fun p5 hp5 => ?_⟩
    walk_at "g"
    refine ⟨b, _, M, rfl, hB4.same (same_new hp5), by omega, by omega, fun w7 H7 k0 k1 hA7 hB7 => ?_⟩
    have s7 := hA7.sx.le (one_le hw)
    have g7 := At.gr hA7 hB7.there
    have r5 : Rp M _ (.ref p5) (namesD [sItem, sAt]) := (Rp.newL hM4 hp5 (RpAll.strs [sItem, sAt])).sx s7
    walk_at "g"
    refine ⟨b, .ref p5, _, [sItem, sAt], M, rfl, hB7, hM4.new.gr g7, r5, by simp, by decide, by omega, by omega, fun v H8 d s8 g8 hB8 r8 hd => ?_⟩
    obtain ⟨f, rfl, l8, o8⟩ := hd
    exact fin f v H8 ((Sx.new hp5).trans (hA7.sx.trans s8)) (Gr.upd.trans (g7.trans g8)) hB8 r8 (by omega) (f.ok_imp (fun x hx => by
      rcases List.mem_cons.mp hx with e | hx
      · exact .inl e
      · exact .inr (List.mem_singleton.mp hx)) o8)
end
end D

namespace D
open PySem PySem.Spec PyProof.Rows L2
local macro_rules | `(tactic| walk_at "st") => `(tactic| first | exact SqT.of (by assumption) | exact Or.inl (by assumption) | exact SqT.of upd_same | fail "st")
local macro_rules | `(tactic| walk_at "ixt") => `(tactic| refine ⟨_, _, _, _, rfl, rfl, (by walk_at "st" : SqT _ _ _ _), by rfl, ?_⟩)
local macro_rules | `(tactic| walk_at "sq") => `(tactic| first | exact SqL.of (by assumption) | assumption | exact Or.inl (by assumption) | exact SqL.of upd_same | fail "sq")
local macro_rules | `(tactic| walk_at "ix") => `(tactic| refine ⟨_, _, _, _, rfl, rfl, (by walk_at "sq" : SqL _ _ _ _), by rfl, ?_⟩)
local macro_rules | `(tactic| walk_at "set") => `(tactic| refine ⟨_, _, _, _, rfl, rfl, by first | assumption | exact upd_same, by rfl, ?_⟩)
local macro_rules | `(tactic| walk_at "len") => `(tactic| refine ⟨_, _, rfl, Or.inl (by walk_at "sq" : SqL _ _ _ _), ?_⟩)
local macro_rules | `(tactic| walk_at "g") => `(tactic| repeat (first | refine ⟨_, rfl, ?_⟩ | refine ⟨_, _, rfl, rfl, ?_⟩ | refine ⟨Or.inr (by decide), ?_⟩ | refine ⟨Or.inl (by decide), ?_⟩ | refine ⟨(by decide : (0 : Int) < _), ?_⟩ | refine ⟨(⟨by decide, by decide⟩ : CDiv _ _), ?_⟩ | refine ⟨(⟨by decide, by decide, by decide⟩ : CPow _ _), ?_⟩ | refine Or.inl ⟨_, rfl, ?_⟩ | refine ⟨rfl, ?_⟩ | walk_at "ix" | walk_at "ixt" | walk_at "len" | fail "g"))
local macro_rules | `(tactic| walk_at "if") => `(tactic| refine ite2 (fun e => ?_) (fun e => ?_))
section
variable {P : Program} {w : World} {K : PySem.W.Frag} {mg : Str → Option Value} {base : Heap}
def sp_some (K : PySem.W.Frag) : Sp := fun vs H Q _ => ∃ (b : Addr) (M : Ms), vs = [.ref b] ∧ Bag K M H b ∧ Mk M H ∧ DrR K M b H goodRow Q
theorem ok_some (T : Txt K mg) : FnOk P w K mg base CX0 5 T.f__law_some_row T.d__law_some_row ["_law_bag_here"] (sp_some K) := by
  have G__law_pick := ok_pick (P := P) (w := w) (base := base) T
  have G__law_mingled := ok_mingled (P := P) (w := w) (base := base) T
  have G__law_row := ok_row (P := P) (w := w) (base := base) T
  refine T.F__law_some_row.ok sc__law_some_row (fun vs H Q E h => ?_) (fun cdv A outer s H vs Q E hr h => ?_)
  · obtain ⟨_, _, rfl, _⟩ := h
    rfl
  · obtain ⟨b, M, rfl, hB, hM, q⟩ := h
    refine ⟨_, (pss_cons (ps_set (i := 1) sc__law_some_row.nd rfl (Or.inl rfl) (pe_call G__law_pick (hr.mono (by omega)) (by rfl) T.g__law_pick T.F__law_pick.kp T.b__law_pick .nil pass0 (pa_cons (pv 0) (pa_cons pe_int pa_nil))))
      (pss_cons (ps_if (pt_cmpR op_eq (pv 1) pe_int (nomark _)) (pss_one (ps_ret (pe_tupF pa_nil))) pss_nil)
      (pss_cons (ps_if (pt_cmpR op_eq (pv 1) pe_int (nomark _)) (pss_one (ps_ret (pe_callTy (call_tupleF (K := K) rfl) (by rfl) T.m_tuple (by decide +kernel) (pa_cons (pe_slice (sl_listK (K := K) rfl) (pe_call G__law_mingled (hr.mono (by omega)) (by rfl) T.g__law_mingled T.F__law_mingled.kp T.b__law_mingled .nil pass0 (pa_cons (pv 0) (pa_cons (pe_lst (pa_cons pe_int (pa_cons pe_int (pa_cons pe_int (pa_cons pe_int (pa_cons pe_int (pa_cons pe_int (pa_cons pe_int (pa_cons pe_int (pa_cons pe_int (pa_cons pe_int pa_nil))))))))))) pa_nil))) po_none (po_some pe_int)) pa_nil)))) pss_nil)
      (pss_one (ps_ret (pe_call G__law_row (hr.mono (by omega)) (by rfl) T.g__law_row T.F__law_row.kp T.b__law_row .nil pass0 (pa_cons (pv 0) (pa_cons pe_int pa_nil)))))))), ?_⟩
    walk_at "g"
    refine ⟨b, 4, M, rfl, hB, by omega, by omega, fun w1 H1 a0 a1 hA1 hB1 => ?_⟩
    have s1 := hA1.sx
    have g1 : Gr H H1 := At.gr hA1 hB1.there
    have hM1 := hM.gr g1
    walk_at "g"
    by_cases c0 : w1 = 0
    · subst c0
      walk_at "g"
      refine ⟨szK rfl, fun p o hp oc od => ?_⟩
      exact q _ _ [] (s1.trans (Sx.new hp)) (g1.trans Gr.upd) (hB1.same (same_new hp)) ⟨p, o, rfl, hM1.out hp, upd_same, oc, od⟩ ⟨by simp, by simp, fun n hn => (nomatch hn)⟩
    rw [decide_eq_false (show ¬ V.int w1 = V.int 0 from fun z => c0 (by injection z))]
    walk_at "g"
    by_cases c1 : w1 = 1
    · subst c1
      walk_at "g"
      refine ⟨szK rfl, fun p1 hp1 => ?_⟩
      have hB2 : Bag K M (upd H1 p1 (.lst (ten.map V.int))) b := hB1.same (same_new hp1)
      have r2 : Rp M (upd H1 p1 (.lst (ten.map V.int))) (.ref p1) (.list (ten.map PyData.int)) := Rp.newL hM1 hp1 (RpAll.ints _)
      refine ⟨b, .ref p1, _, M, rfl, hB2, hM1.new, r2, by rw [List.length_map]; decide, fun v H2 d s2 g2 hB3 hR2 hd => ?_⟩
      obtain ⟨es, rfl, hper⟩ := hd
      obtain ⟨ns, hns, rfl⟩ := perm_ints hper
      obtain ⟨a, xs, rfl, na, ha, rx⟩ := Rp.lstN hR2
      have ex := rx.ofInts
      subst ex
      walk_at "g"
      refine ⟨a, _, rfl, .inl ha, fun p3 hp3 => ?_⟩
      refine ⟨p3, _, rfl, SqL.of upd_same, fun p4 o4 hp4 oc od => ?_⟩
      have ec2 : cutV (ns.map V.int) none (some (5 : Int)) = (ns.take 5).map V.int := by rw [show (5 : Int) = ((5 : Nat) : Int) from rfl, cut_hi, List.map_take]
      rw [ec2] at hp4 ⊢
      have nd := ten_take 10
      have e10 : ten.take 10 = ten := rfl
      rw [e10] at nd
      have s3 : Sx (one b) H H2 := s1.trans ((Sx.new hp1).trans s2)
      have g3 : Gr H H2 := g1.trans (Gr.upd.trans g2)
      refine q _ _ (ns.take 5) (s3.trans ((Sx.new hp3).trans (Sx.new hp4))) (g3.trans (Gr.upd.trans Gr.upd)) ((hB3.same (same_new hp3)).same (same_new hp4)) ⟨p4, o4, rfl, (hM.gr (g3.trans Gr.upd)).out hp4, upd_same, oc, od⟩ ⟨?_, ?_, fun n hn => ?_⟩
      · rw [List.length_take]
        omega
      · exact (hns.nodup_iff.mpr nd.1).sublist (List.take_sublist _ _)
      · exact nd.2 n (hns.mem_iff.mp (List.mem_of_mem_take hn))
    rw [decide_eq_false (show ¬ V.int w1 = V.int 1 from fun z => c1 (by injection z))]
    walk_at "g"
    refine ⟨b, 5, M, rfl, hB1, hM1, by omega, by omega, fun v H2 ns s2 g2 hB2 r2 h2 => ?_⟩
    exact q v H2 ns (s1.trans s2) (g1.trans g2) hB2 r2 ⟨by have := h2.1; omega, h2.2.1, h2.2.2⟩
end
end D

namespace D
open PySem PySem.Spec PyProof.Rows L2
local macro_rules | `(tactic| walk_at "st") => `(tactic| first | exact SqT.of (by assumption) | exact Or.inl (by assumption) | exact SqT.of upd_same | fail "st")
local macro_rules | `(tactic| walk_at "ixt") => `(tactic| refine ⟨_, _, _, _, rfl, rfl, (by walk_at "st" : SqT _ _ _ _), by rfl, ?_⟩)
local macro_rules | `(tactic| walk_at "sq") => `(tactic| first | exact SqL.of (by assumption) | assumption | exact Or.inl (by assumption) | exact SqL.of upd_same | fail "sq")
local macro_rules | `(tactic| walk_at "ix") => `(tactic| refine ⟨_, _, _, _, rfl, rfl, (by walk_at "sq" : SqL _ _ _ _), by rfl, ?_⟩)
local macro_rules | `(tactic| walk_at "set") => `(tactic| refine ⟨_, _, _, _, rfl, rfl, by first | assumption | exact upd_same, by rfl, ?_⟩)
local macro_rules | `(tactic| walk_at "len") => `(tactic| refine ⟨_, _, rfl, Or.inl (by walk_at "sq" : SqL _ _ _ _), ?_⟩)
local macro_rules | `(tactic| walk_at "g") => `(tactic| repeat (first | refine ⟨_, rfl, ?_⟩ | refine ⟨_, _, rfl, rfl, ?_⟩ | refine ⟨Or.inr (by decide), ?_⟩ | refine ⟨Or.inl (by decide), ?_⟩ | refine ⟨(by decide : (0 : Int) < _), ?_⟩ | refine ⟨(⟨by decide, by decide⟩ : CDiv _ _), ?_⟩ | refine ⟨(⟨by decide, by decide, by decide⟩ : CPow _ _), ?_⟩ | refine Or.inl ⟨_, rfl, ?_⟩ | refine ⟨rfl, ?_⟩ | walk_at "ix" | walk_at "ixt" | walk_at "len" | fail "g"))
local macro_rules | `(tactic| walk_at "if") => `(tactic| refine ite2 (fun e => ?_) (fun e => ?_))
section
variable {P : Program} {w : World} {K : PySem.W.Frag} {mg : Str → Option Value} {base : Heap}
/-- data that is no row -/
def BadD (d : PyData) : Prop := lenC d ∧ pRow d = false ∧ Gd 2000 3 d
theorem nint (n : Int) (h : 0 ≤ n ∧ n ≤ 9) : Gd 0 0 (.int n) := Gd.int (by omega)
theorem pRow_all {ds : List PyData} {d : PyData} (h : d ∈ ds) (hp : pVal d = false) : pRow (.tuple ds) = false := by
  show (decide (ds.length ≤ 5) && (ds.all pVal && _)) = false
  have : ds.all pVal = false := by
    rw [Bool.eq_false_iff]
    intro z
    rw [List.all_eq_true] at z
    rw [z d h] at hp
    cases hp
  rw [this, Bool.false_and, Bool.and_false]
theorem odd_row {its : List Int} {ii : Nat} {d : PyData} (h : its.length ≤ 4 ∧ ∀ n ∈ its, 0 ≤ n ∧ n ≤ 9) (hd : d ∈ ([.int 10, .int (-1), .bool true, .bool false, .none, .str (Str.ofString "3"), .tuple [.int 3], .int 100] : List PyData)) : BadD (.tuple ((its.take ii).map PyData.int ++ d :: (its.drop ii).map PyData.int)) := by
  have hg : Gd 20 1 d ∧ pVal d = false := by
    simp only [List.mem_cons, List.not_mem_nil, or_false] at hd
    rcases hd with rfl | rfl | rfl | rfl | rfl | rfl | rfl | rfl
    · exact ⟨(Gd.int (i := 10) (by decide)).le (by omega) (by omega), by decide⟩
    · exact ⟨(Gd.int (i := -1) (by decide)).le (by omega) (by omega), by decide⟩
    · exact ⟨(Gd.bool true).le (by omega) (by omega), rfl⟩
    · exact ⟨(Gd.bool false).le (by omega) (by omega), rfl⟩
    · exact ⟨Gd.non.le (by omega) (by omega), rfl⟩
    · exact ⟨(gS "3" (by decide +kernel) (by decide +kernel)).up, rfl⟩
    · exact ⟨((GdAll.nil.cons (Gd.int (i := 3) (by decide))).tup).le (by omega) (by omega), rfl⟩
    · exact ⟨(Gd.int (i := 100) (by decide)).le (by omega) (by omega), by decide⟩
  have gi : ∀ c ∈ (its.take ii).map PyData.int, Gd 0 1 c := fun c hc => by
    obtain ⟨n, hn, rfl⟩ := List.mem_map.mp hc
    exact (nint n (h.2 n (List.mem_of_mem_take hn))).up
  have gj : ∀ c ∈ (its.drop ii).map PyData.int, Gd 0 1 c := fun c hc => by
    obtain ⟨n, hn, rfl⟩ := List.mem_map.mp hc
    exact (nint n (h.2 n (List.mem_of_mem_drop hn))).up
  refine ⟨fun ds e => ?_, pRow_all (d := d) (List.mem_append_right _ List.mem_cons_self) hg.2, ?_⟩
  · cases e
    simp only [List.length_append, List.length_cons, List.length_map, List.length_take, List.length_drop]
    omega
  · have g := GdAll.app ((GdAll.all gj).cons hg.1) (GdAll.all gi)
    refine (g.tup).le ?_ (by omega)
    rw [List.length_map, List.length_map, List.length_take, List.length_drop]
    omega
theorem dup_row {its : List Int} {ii jj : Nat} (h : its.length ≤ 4 ∧ ∀ n ∈ its, 0 ≤ n ∧ n ≤ 9) (hj : jj < its.length) : BadD (.tuple ((its.take ii ++ its[jj] :: its.drop ii).map PyData.int)) := by
  have hm : ∀ n ∈ its.take ii ++ its[jj] :: its.drop ii, 0 ≤ n ∧ n ≤ 9 := fun n hn => by
    rcases List.mem_append.mp hn with hn | hn
    · exact h.2 n (List.mem_of_mem_take hn)
    · rcases List.mem_cons.mp hn with rfl | hn
      · exact h.2 _ (List.getElem_mem hj)
      · exact h.2 n (List.mem_of_mem_drop hn)
  have len : (its.take ii ++ its[jj] :: its.drop ii).length ≤ 5 := by
    rw [List.length_append, List.length_cons, List.length_take, List.length_drop]
    omega
  have nd : ¬ (its.take ii ++ its[jj] :: its.drop ii).Nodup := fun z => by
    have p : (its.take ii ++ its[jj] :: its.drop ii).Perm (its[jj] :: its) := by
      have := List.perm_middle (a := its[jj]) (l₁ := its.take ii) (l₂ := its.drop ii)
      rw [List.take_append_drop] at this
      exact this
    exact (List.nodup_cons.mp (p.nodup_iff.mp z)).1 (List.getElem_mem hj)
  refine ⟨fun ds e => (by cases e; rw [List.length_map]; omega), ?_, ?_⟩
  · show (decide (_ ≤ 5) && (_ && decide _)) = false
    rw [List.map_map]
    have e : (its.take ii ++ its[jj] :: its.drop ii).map (unI ∘ PyData.int) = its.take ii ++ its[jj] :: its.drop ii := by
      have : (unI ∘ PyData.int) = id := rfl
      rw [this, List.map_id]
    rw [e, decide_eq_false nd, Bool.and_false, Bool.and_false]
  · have g := (GdAll.all (ds := (its.take ii ++ its[jj] :: its.drop ii).map PyData.int) (B := 0) (n := 0) fun c hc => by
      obtain ⟨n, hn, rfl⟩ := List.mem_map.mp hc
      exact nint n (hm n hn)).tup
    exact g.le (by rw [List.length_map]; omega) (by omega)
theorem none_gr {H H' : Hp} {p : Addr} (g : Gr H H') (h : H' p = none) : H p = none := by
  cases e : H p with
  | none => rfl
  | some o => exact absurd h (g _ (ne_none e))
def sp_badrow (K : PySem.W.Frag) : Sp := fun vs H Q _ => ∃ (b : Addr) (v : V) (ns : List Int) (M : Ms), vs = [.ref b, v] ∧ Bag K M H b ∧ Mk M H ∧ RowF M H v ns ∧ goodRow ns ∧ Dr K M b H BadD Q
theorem ok_badrow2 (T : Txt K mg) : FnOk P w K mg base CX0 4 T.f__law_bad_row T.d__law_bad_row ["_law_bag_here", "_law_row_here"] (sp_badrow K) := by
  have G__law_pick := ok_pick (P := P) (w := w) (base := base) T
  have G__law_choice := ok_choice (P := P) (w := w) (base := base) T
  have G__law_mingled := ok_mingled (P := P) (w := w) (base := base) T
  refine T.F__law_bad_row.ok sc__law_bad_row (fun vs H Q E h => ?_) (fun cdv A outer s H vs Q E hr h => ?_)
  · obtain ⟨_, _, _, _, rfl, _⟩ := h
    rfl
  · obtain ⟨b, v, ns, M, rfl, hB, hM, ⟨a, oo, rfl, na, ha, oc, od⟩, hg, q⟩ := h
    have mb := hB.w
    have hsq : ∀ {H'}, Sx M H H' → SqT K H' a (ns.map V.int) := fun s => .inl (.inr ⟨oo, s _ _ na ha⟩)
    refine ⟨_, (pss_cons (ps_set (i := 2) sc__law_bad_row.nd rfl (Or.inl rfl) (pe_call G__law_pick (hr.mono (by omega)) (by rfl) T.g__law_pick T.F__law_pick.kp T.b__law_pick .nil pass0 (pa_cons (pv 0) (pa_cons pe_int pa_nil))))
      (pss_cons (ps_set (i := 3) sc__law_bad_row.nd rfl (Or.inl rfl) (pe_callTy (call_listK (K := K) rfl) (by rfl) T.m_list (by decide +kernel) (pa_cons (pe_slice (sl_tupK (K := K) rfl) (pv 1) po_none (po_some pe_int)) pa_nil)))
      (pss_cons (ps_if (pt_cmpR op_eq (pv 2) pe_int (nomark _)) (pss_one (ps_ret (pe_callTy (call_listK (K := K) rfl) (by rfl) T.m_list (by decide +kernel) (pa_cons (pv 1) pa_nil)))) pss_nil)
      (pss_cons (ps_if (pt_cmpR op_eq (pv 2) pe_int (nomark _)) (pss_one (ps_ret (pe_callTy (call_tupleK (K := K) rfl) (by rfl) T.m_tuple (by decide +kernel) (pa_cons (pe_slice (sl_listK (K := K) rfl) (pe_call G__law_mingled (hr.mono (by omega)) (by rfl) T.g__law_mingled T.F__law_mingled.kp T.b__law_mingled .nil pass0 (pa_cons (pv 0) (pa_cons (pe_lst (pa_cons pe_int (pa_cons pe_int (pa_cons pe_int (pa_cons pe_int (pa_cons pe_int (pa_cons pe_int (pa_cons pe_int (pa_cons pe_int (pa_cons pe_int (pa_cons pe_int pa_nil))))))))))) pa_nil))) po_none (po_some (pe_op op_add pe_int (pe_call G__law_pick (hr.mono (by omega)) (by rfl) T.g__law_pick T.F__law_pick.kp T.b__law_pick .nil pass0 (pa_cons (pv 0) (pa_cons pe_int pa_nil)))))) pa_nil)))) pss_nil)
      (pss_cons (ps_if (pt_cmpR op_eq (pv 2) pe_int (nomark _)) (pss_one (ps_ret (pe_call G__law_choice (hr.mono (by omega)) (by rfl) T.g__law_choice T.F__law_choice.kp T.b__law_choice .nil pass0 (pa_cons (pv 0) (pa_cons (pe_lst (pa_cons pe_non (pa_cons pe_int (pa_cons pe_str (pa_cons pe_bl pa_nil))))) pa_nil))))) pss_nil)
      (pss_cons (ps_if (PW.pt (pw_and (pt_cmpR op_eq (pv 2) pe_int (nomark _)) (pw_and1 (pt_truthK (K := K) rfl (pv 3) (by intro _; rfl))))) (pss_cons (ps_expr (pe_bmK2 (K := K) rfl PySem.F.plainAttrs_list PySem.F.slot_list_insert PySem.F.type_list_insert mt_insert (pv 3) (pa_cons (pe_call G__law_pick (hr.mono (by omega)) (by rfl) T.g__law_pick T.F__law_pick.kp T.b__law_pick .nil pass0 (pa_cons (pv 0) (pa_cons (pe_op op_add (pe_callB (call_lenK (K := K) rfl) (by rfl) T.m_len PySem.boot_len (pa_cons (pv 3) pa_nil)) pe_int) pa_nil))) (pa_cons (pe_ix (ix_listK (K := K) rfl) (pv 3) (pe_call G__law_pick (hr.mono (by omega)) (by rfl) T.g__law_pick T.F__law_pick.kp T.b__law_pick .nil pass0 (pa_cons (pv 0) (pa_cons (pe_callB (call_lenK (K := K) rfl) (by rfl) T.m_len PySem.boot_len (pa_cons (pv 3) pa_nil)) pa_nil))) (fun _ _ => rfl)) pa_nil))))
      (pss_one (ps_ret (pe_callTy (call_tupleK (K := K) rfl) (by rfl) T.m_tuple (by decide +kernel) (pa_cons (pv 3) pa_nil))))) pss_nil)
      (pss_cons (ps_set (i := 4) sc__law_bad_row.nd rfl (Or.inl rfl) (pe_call G__law_choice (hr.mono (by omega)) (by rfl) T.g__law_choice T.F__law_choice.kp T.b__law_choice .nil pass0 (pa_cons (pv 0) (pa_cons (pe_lst (pa_cons pe_int (pa_cons (pe_un un_neg pe_int) (pa_cons pe_bl (pa_cons pe_bl (pa_cons pe_non (pa_cons pe_str (pa_cons (pe_tup (pa_cons pe_int pa_nil)) (pa_cons pe_int pa_nil))))))))) pa_nil))))
      (pss_cons (ps_expr (pe_bmK2 (K := K) rfl PySem.F.plainAttrs_list PySem.F.slot_list_insert PySem.F.type_list_insert mt_insert (pv 3) (pa_cons (pe_call G__law_pick (hr.mono (by omega)) (by rfl) T.g__law_pick T.F__law_pick.kp T.b__law_pick .nil pass0 (pa_cons (pv 0) (pa_cons (pe_op op_add (pe_callB (call_lenK (K := K) rfl) (by rfl) T.m_len PySem.boot_len (pa_cons (pv 3) pa_nil)) pe_int) pa_nil))) (pa_cons (pv 4) pa_nil))))
      (pss_one (ps_ret (pe_callTy (call_tupleK (K := K) rfl) (by rfl) T.m_tuple (by decide +kernel) (pa_cons (pv 3) pa_nil)))))))))))), ?_⟩
    walk_at "g"
    refine ⟨b, 6, M, rfl, hB, by omega, by omega, fun w1 H1 a0 a1 hA1 hB1 => ?_⟩
    dsimp only [gName]
    with_reducible refine seq_join (fun σ3 H' => ∃ l : Addr, σ3 = [some (.ref b), some (.ref a), some (.int w1), some (.ref l), none] ∧ l ≠ b ∧ H l = none ∧ Sx (one b) H H' ∧ Gr H H' ∧ Bag K (also M l) H' b ∧ Mk (also M l) H' ∧ H' l = some (.lst ((ns.take 4).map V.int))) (fun hN => ?_) (fun σ3 H5 c => ?_)
    · have s1 := hA1.sx
      have g1 : Gr H H1 := At.gr hA1 hB1.there
      have nb : ∀ {Hx : Hp} {l : Addr}, Bag K M Hx b → Hx l = none → l ≠ b := fun h hl z => h.there (by rw [← z]; exact hl)
      have ec : cutV (ns.map V.int) none (some (4 : Int)) = (ns.take 4).map V.int := by rw [show (4 : Int) = ((4 : Nat) : Int) from rfl, cut_hi, List.map_take]
      walk_at "g"
      refine ⟨a, _, rfl, hsq (s1.le (one_le mb)), fun hw => ?_, fun _ p hp => ?_⟩
      · have l4 : ns.length ≤ 4 := by
          have z := hw.2
          rw [show HT.sIx (ns.map V.int).length (ns.map V.int).length (some (4 : Int)) = min 4 (ns.map V.int).length from HT.sIx_nat _ _ 4, List.length_map] at z
          omega
        have e4 : ns.take 4 = ns := List.take_of_length_le l4
        refine ⟨a, _, rfl, .inr (hsq (s1.le (one_le mb))), fun l hl => ?_⟩
        exact hN _ _ ⟨l, rfl, nb hB1 hl, none_gr g1 hl, s1.trans (Sx.new hl), g1.trans Gr.upd, (hB1.more hl).same (same_new hl), ((hM.gr g1).gr Gr.upd).also upd_there, by rw [upd_same, e4]⟩
      · rw [ec]
        have tp : Same H1 (upd H1 p (.tup ((ns.take 4).map V.int))) := same_new hp
        have ep : upd H1 p (.tup ((ns.take 4).map V.int)) p = some (.tup ((ns.take 4).map V.int)) := upd_same
        generalize upd H1 p (.tup ((ns.take 4).map V.int)) = H2 at tp ep
        have g2 := g1.trans (Gr.same tp)
        have hB2 := hB1.same tp
        refine ⟨p, _, rfl, .inr (SqT.of ep), fun l hl => ?_⟩
        exact hN _ _ ⟨l, rfl, nb hB2 hl, none_gr g2 hl, s1.trans ((Sx.same tp).trans (Sx.new hl)), g2.trans Gr.upd, (hB2.more hl).same (same_new hl), ((hM.gr g2).gr Gr.upd).also upd_there, upd_same⟩
    obtain ⟨l, rfl, lb, hl0, s5, g5, hB5, hM5, el5⟩ := c
    obtain ⟨its, hits0⟩ : ∃ its, its = ns.take 4 := ⟨_, rfl⟩
    rw [← hits0] at el5
    have hits : its.length ≤ 4 ∧ ∀ n ∈ its, 0 ≤ n ∧ n ≤ 9 := by
      rw [hits0]
      exact ⟨by rw [List.length_take]; omega, fun n hn => hg.2.2 n (List.mem_of_mem_take hn)⟩
    have hitd : its.Nodup := by rw [hits0]; exact hg.2.1.sublist (List.take_sublist _ _)
    have lits := hits.1
    have lm : (its.map V.int).length = its.length := List.length_map _
    have hBm := hB5.less mb also_le
    have hMm := hM.gr g5
    walk_at "g"
    by_cases c0 : w1 = 0
    · subst c0
      walk_at "g"
      refine ⟨a, _, rfl, .inr (hsq (s5.le (one_le mb))), fun p hp => ?_⟩
      refine q _ _ (.list (ns.map PyData.int)) (s5.trans (Sx.new hp)) (g5.trans Gr.upd) (hBm.same (same_new hp)) (Rp.newL hMm hp (RpAll.ints _)) ⟨fun ds e => (by cases e), rfl, ?_⟩
      have g := (GdAll.all (ds := ns.map PyData.int) (B := 0) (n := 0) fun c hc => by
        obtain ⟨n, hn, rfl⟩ := List.mem_map.mp hc
        exact nint n (hg.2.2 n hn)).lst
      have h5 := hg.1
      exact g.le (by rw [List.length_map]; omega) (by omega)
    rw [decide_eq_false (show ¬ V.int w1 = V.int 0 from fun z => c0 (by injection z))]
    walk_at "g"
    by_cases c1 : w1 = 1
    · subst c1
      walk_at "g"
      refine ⟨szK rfl, fun p1 hp1 => ?_⟩
      have hB6 : Bag K M (upd H5 p1 (.lst (ten.map V.int))) b := hBm.same (same_new hp1)
      have r6 : Rp M (upd H5 p1 (.lst (ten.map V.int))) (.ref p1) (.list (ten.map PyData.int)) := Rp.newL hMm hp1 (RpAll.ints _)
      refine ⟨b, .ref p1, _, M, rfl, hB6, hMm.new, r6, by rw [List.length_map]; decide, fun v7 H7 d7 s7 g7 hB7 hR7 hd7 => ?_⟩
      obtain ⟨es, rfl, hper⟩ := hd7
      obtain ⟨ms, hms, rfl⟩ := perm_ints hper
      obtain ⟨a7, xs, rfl, na7, ha7, rx⟩ := Rp.lstN hR7
      have ex := rx.ofInts
      subst ex
      have a7b : a7 ≠ b := fun z => na7 (by rw [z]; exact mb)
      walk_at "g"
      refine ⟨b, 5, M, rfl, hB7, by omega, by omega, fun w8 H8 k0 k1 hA8 hB8 => ?_⟩
      obtain ⟨j8, rfl⟩ : ∃ j : Nat, w8 = (j : Int) := ⟨w8.toNat, by omega⟩
      walk_at "g"
      refine ⟨a7, _, rfl, sx_l hA8.sx (fun z : a7 = b => a7b z) (.inl ha7), fun p9 hp9 => ?_⟩
      rw [show (6 : Int) + (j8 : Int) = ((6 + j8 : Nat) : Int) by omega, cut_hi, ← List.map_take]
      refine ⟨p9, _, rfl, .inl ⟨SqL.of upd_same, fun pt hpt => ?_⟩⟩
      have s8 : Sx (one b) H H8 := s5.trans ((Sx.new hp1).trans (s7.trans hA8.sx))
      have g8 : Gr H H8 := g5.trans (Gr.upd.trans (g7.trans (At.gr hA8 hB8.there)))
      have lms : ms.length = 10 := hms.length_eq
      have nd := ten_take 10
      have e10 : ten.take 10 = ten := rfl
      rw [e10] at nd
      refine q _ _ (.tuple ((ms.take (6 + j8)).map PyData.int)) (s8.trans ((Sx.new hp9).trans (Sx.new hpt))) (g8.trans (Gr.upd.trans Gr.upd)) ((hB8.same (same_new hp9)).same (same_new hpt)) (Rp.newT (hM.gr (g8.trans Gr.upd)) hpt (RpAll.ints _)) ⟨fun ds e => (by cases e; rw [List.length_map, List.length_take]; omega), ?_, ?_⟩
      · show (decide (_ ≤ 5) && _) = false
        rw [decide_eq_false (by rw [List.length_map, List.length_take]; omega), Bool.false_and]
      · have g := (GdAll.all (ds := (ms.take (6 + j8)).map PyData.int) (B := 0) (n := 0) fun c hc => by
          obtain ⟨n, hn, rfl⟩ := List.mem_map.mp hc
          have := nd.2 n (hms.mem_iff.mp (List.mem_of_mem_take hn))
          exact nint n (by omega)).tup
        exact g.le (by rw [List.length_map, List.length_take]; omega) (by omega)
    rw [decide_eq_false (show ¬ V.int w1 = V.int 1 from fun z => c1 (by injection z))]
    walk_at "g"
    by_cases c2 : w1 = 2
    · subst c2
      walk_at "g"
      refine ⟨szK rfl, fun p1 hp1 => ?_⟩
      have p1b : p1 ≠ b := fun z => hBm.there (by rw [← z]; exact hp1)
      refine ⟨b, p1, _, M, rfl, hBm.same (same_new hp1), SqL.of upd_same, p1b, by simp, by simp, fun vc H7 hvc hA7 hB7 => ?_⟩
      have s7 : Sx (one b) H H7 := s5.trans ((Sx.new hp1).trans hA7.sx)
      have g7 : Gr H H7 := g5.trans (Gr.upd.trans (At.gr hA7 hB7.there))
      simp only [List.mem_cons, List.not_mem_nil, or_false] at hvc
      rcases hvc with rfl | rfl | rfl | rfl
      · exact q _ _ _ s7 g7 hB7 .non ⟨fun ds e => (by cases e), rfl, Gd.non.le (by omega) (by omega)⟩
      · exact q _ _ _ s7 g7 hB7 (.int 5) ⟨fun ds e => (by cases e), rfl, (Gd.int (i := 5) (by decide)).le (by omega) (by omega)⟩
      · exact q _ _ _ s7 g7 hB7 (.str _) ⟨fun ds e => (by cases e), rfl, (gS "12" (by decide +kernel) (by decide +kernel)).le (by omega) (by omega)⟩
      · exact q _ _ _ s7 g7 hB7 (.bl true) ⟨fun ds e => (by cases e), rfl, (Gd.bool true).le (by omega) (by omega)⟩
    rw [decide_eq_false (show ¬ V.int w1 = V.int 2 from fun z => c2 (by injection z))]
    walk_at "g"
    by_cases c3 : w1 = 3
    · subst c3
      walk_at "g"
      refine ⟨!(its.map V.int).isEmpty, .inl ⟨_, SqL.of el5, rfl⟩, ?_⟩
      cases its with
      | nil =>
        walk_at "g"
        refine ⟨szK rfl, fun q1 hq1 => ?_⟩
        have tq : Same H5 (upd H5 q1 (.tup [.int 3])) := same_new hq1
        have rq : Rp (also M l) (upd H5 q1 (.tup [.int 3])) (.ref q1) (.tuple [.int 3]) := Rp.newT hM5 hq1 (.one (.int _))
        generalize upd H5 q1 (.tup [.int 3]) = H6 at tq rq
        walk_at "g"
        refine ⟨szK rfl, fun q2 hq2 => ?_⟩
        have tq2 : Same H6 (upd H6 q2 (.lst [.int 10, .int (-1), .bl true, .bl false, .non, .str (Str.ofString "3"), .ref q1, .int 100])) := same_new hq2
        have eq2 : upd H6 q2 (.lst [.int 10, .int (-1), .bl true, .bl false, .non, .str (Str.ofString "3"), .ref q1, .int 100]) q2 = some (.lst [.int 10, .int (-1), .bl true, .bl false, .non, .str (Str.ofString "3"), .ref q1, .int 100]) := upd_same
        have rl : RpAll (also M l) (upd H6 q2 (.lst [.int 10, .int (-1), .bl true, .bl false, .non, .str (Str.ofString "3"), .ref q1, .int 100])) [.int 10, .int (-1), .bl true, .bl false, .non, .str (Str.ofString "3"), .ref q1, .int 100] [.int 10, .int (-1), .bool true, .bool false, .none, .str (Str.ofString "3"), .tuple [.int 3], .int 100] := .cons (.int _) (.cons (.int _) (.cons (.bl _) (.cons (.bl _) (.cons .non (.cons (.str _) (.cons (rq.sx (Sx.same tq2)) (.one (.int _))))))))
        have q2b : q2 ≠ b := fun z => hB5.there (tq.free (by rw [← z]; exact hq2))
        have t56 := tq.trans tq2
        generalize upd H6 q2 (.lst [.int 10, .int (-1), .bl true, .bl false, .non, .str (Str.ofString "3"), .ref q1, .int 100]) = H7 at tq2 eq2 rl t56
        walk_at "g"
        refine ⟨b, q2, _, also M l, rfl, hB5.same t56, SqL.of eq2, q2b, by simp, by simp, fun vo H8 hvo hA8 hB8 => ?_⟩
        obtain ⟨d0, hd0, ro⟩ := rl.memD vo hvo
        have s58 : Sx (one b) H5 H8 := (Sx.same t56).trans hA8.sx
        have g58 : Gr H5 H8 := (Gr.same t56).trans (At.gr hA8 hB8.there)
        have el8 := s58 _ _ (show ¬ one b l from lb) el5
        have ro8 := ro.sx (hA8.sx.le (one_le hB5.w))
        walk_at "g"
        refine ⟨.inl ⟨rfl, _, SqL.of el8⟩, ?_⟩
        walk_at "g"
        refine ⟨b, _, also M l, rfl, hB8, by omega, by omega, fun wi H9 i0 i1 hA9 hB9 => ?_⟩
        obtain ⟨ii, rfl⟩ : ∃ ii : Nat, wi = (ii : Int) := ⟨wi.toNat, by omega⟩
        have el9 := (hA9 l lb).trans el8
        have ro9 := ro8.sx (hA9.sx.le (one_le hB8.w))
        walk_at "g"
        refine ⟨l, _, _, _, rfl, rfl, el9, small1000 (by rw [List.length_map]; omega), by omega, by have z := i1; rw [List.length_map] at z; omega, ?_⟩
        rw [Int.toNat_natCast]
        have eL : upd H9 l (.lst ((([] : List Int).map V.int).take ii ++ [vo] ++ (([] : List Int).map V.int).drop ii)) l = some (.lst ((([] : List Int).map V.int).take ii ++ [vo] ++ (([] : List Int).map V.int).drop ii)) := upd_same
        have gL : Gr H9 (upd H9 l (.lst ((([] : List Int).map V.int).take ii ++ [vo] ++ (([] : List Int).map V.int).drop ii))) := Gr.upd
        have sL : Sx (one l) H9 (upd H9 l (.lst ((([] : List Int).map V.int).take ii ++ [vo] ++ (([] : List Int).map V.int).drop ii))) := Sx.put rfl
        generalize upd H9 l (.lst ((([] : List Int).map V.int).take ii ++ [vo] ++ (([] : List Int).map V.int).drop ii)) = HA at eL gL sL
        have hBA := hB9.keep sL (Ne.symm lb) (one_le (.inr rfl))
        have roA := ro9.sx (sL.le (one_le (.inr rfl)))
        walk_at "g"
        refine ⟨l, _, rfl, .inl ⟨SqL.of eL, fun pt hpt => ?_⟩⟩
        have gA : Gr H HA := g5.trans (g58.trans ((At.gr hA9 hB9.there).trans gL))
        have sA : Sx (also (one b) l) H5 HA := (s58.le fun _ z => .inl z).trans ((hA9.sx.le fun _ z => .inl z).trans (sL.le fun _ z => .inr z))
        have sHA : Sx (one b) H HA := fun a o na e => sA a o (fun z => z.elim na fun z => by rw [show a = l from z] at e; rw [hl0] at e; cases e) (s5 a o na e)
        refine q _ _ (.tuple ((([] : List Int).take ii).map PyData.int ++ d0 :: (([] : List Int).drop ii).map PyData.int)) (sHA.trans (Sx.new hpt)) (gA.trans Gr.upd) ((hBA.less mb also_le).same (same_new hpt)) (Rp.newT (hM.gr gA) hpt ?_) (odd_row hits hd0)
        rw [← List.map_take, ← List.map_drop, List.append_assoc]
        exact (RpAll.ints _).append (.cons (roA.less also_le) (RpAll.ints _))
      | cons n0 nr =>
        generalize hI : n0 :: nr = its at *
        have lpos : 1 ≤ its.length := by rw [← hI, List.length_cons]; omega
        have hne : (!(its.map V.int).isEmpty) = true := by rw [← hI]; rfl
        rw [hne]
        walk_at "g"
        refine ⟨.inl ⟨rfl, _, SqL.of el5⟩, ?_⟩
        walk_at "g"
        refine ⟨b, _, also M l, rfl, hB5, by omega, by omega, fun wi H7 i0 i1 hA7 hB7 => ?_⟩
        have el7 := (hA7 l lb).trans el5
        walk_at "g"
        refine ⟨b, _, also M l, rfl, hB7, by omega, by omega, fun wj H8 j0 j1 hA8 hB8 => ?_⟩
        have el8 := (hA8 l lb).trans el7
        obtain ⟨ii, rfl⟩ : ∃ ii : Nat, wi = (ii : Int) := ⟨wi.toNat, by omega⟩
        obtain ⟨jj, rfl⟩ : ∃ jj : Nat, wj = (jj : Int) := ⟨wj.toNat, by omega⟩
        have hj : jj < its.length := by omega
        have ej : (its.map V.int)[jj]? = some (.int its[jj]) := by rw [List.getElem?_map, List.getElem?_eq_getElem hj]; rfl
        walk_at "g"
        refine ⟨_, _, _, _, rfl, rfl, SqL.of el8, atI_nat ej, ?_⟩
        refine ⟨l, _, _, _, rfl, rfl, el8, small1000 (by omega), by omega, by omega, ?_⟩
        rw [Int.toNat_natCast]
        have em : (its.map V.int).take ii ++ [V.int its[jj]] ++ (its.map V.int).drop ii = (its.take ii ++ its[jj] :: its.drop ii).map V.int := by
          rw [List.map_append, List.map_cons, List.map_take, List.map_drop, List.append_assoc]
          rfl
        rw [em]
        have eL : upd H8 l (.lst ((its.take ii ++ its[jj] :: its.drop ii).map V.int)) l = some (.lst ((its.take ii ++ its[jj] :: its.drop ii).map V.int)) := upd_same
        have gL : Gr H8 (upd H8 l (.lst ((its.take ii ++ its[jj] :: its.drop ii).map V.int))) := Gr.upd
        have sL : Sx (one l) H8 (upd H8 l (.lst ((its.take ii ++ its[jj] :: its.drop ii).map V.int))) := Sx.put rfl
        generalize upd H8 l (.lst ((its.take ii ++ its[jj] :: its.drop ii).map V.int)) = HA at eL gL sL
        have hBA := hB8.keep sL (Ne.symm lb) (one_le (.inr rfl))
        walk_at "g"
        refine ⟨l, _, rfl, .inl ⟨SqL.of eL, fun pt hpt => ?_⟩⟩
        have gA : Gr H HA := g5.trans ((At.gr hA7 hB7.there).trans ((At.gr hA8 hB8.there).trans gL))
        have sA : Sx (also (one b) l) H5 HA := (hA7.sx.le fun _ z => .inl z).trans ((hA8.sx.le fun _ z => .inl z).trans (sL.le fun _ z => .inr z))
        have sHA : Sx (one b) H HA := fun a o na e => sA a o (fun z => z.elim na fun z => by rw [show a = l from z] at e; rw [hl0] at e; cases e) (s5 a o na e)
        refine q _ _ (.tuple ((its.take ii ++ its[jj] :: its.drop ii).map PyData.int)) (sHA.trans (Sx.new hpt)) (gA.trans Gr.upd) ((hBA.less mb also_le).same (same_new hpt)) (Rp.newT (hM.gr gA) hpt (RpAll.ints _)) (dup_row hits hj)
    rw [decide_eq_false (show ¬ V.int w1 = V.int 3 from fun z => c3 (by injection z))]
    walk_at "g"
    refine ⟨szK rfl, fun q1 hq1 => ?_⟩
    have tq : Same H5 (upd H5 q1 (.tup [.int 3])) := same_new hq1
    have rq : Rp (also M l) (upd H5 q1 (.tup [.int 3])) (.ref q1) (.tuple [.int 3]) := Rp.newT hM5 hq1 (.one (.int _))
    generalize upd H5 q1 (.tup [.int 3]) = H6 at tq rq
    walk_at "g"
    refine ⟨szK rfl, fun q2 hq2 => ?_⟩
    have tq2 : Same H6 (upd H6 q2 (.lst [.int 10, .int (-1), .bl true, .bl false, .non, .str (Str.ofString "3"), .ref q1, .int 100])) := same_new hq2
    have eq2 : upd H6 q2 (.lst [.int 10, .int (-1), .bl true, .bl false, .non, .str (Str.ofString "3"), .ref q1, .int 100]) q2 = some (.lst [.int 10, .int (-1), .bl true, .bl false, .non, .str (Str.ofString "3"), .ref q1, .int 100]) := upd_same
    have rl : RpAll (also M l) (upd H6 q2 (.lst [.int 10, .int (-1), .bl true, .bl false, .non, .str (Str.ofString "3"), .ref q1, .int 100])) [.int 10, .int (-1), .bl true, .bl false, .non, .str (Str.ofString "3"), .ref q1, .int 100] [.int 10, .int (-1), .bool true, .bool false, .none, .str (Str.ofString "3"), .tuple [.int 3], .int 100] := .cons (.int _) (.cons (.int _) (.cons (.bl _) (.cons (.bl _) (.cons .non (.cons (.str _) (.cons (rq.sx (Sx.same tq2)) (.one (.int _))))))))
    have q2b : q2 ≠ b := fun z => hB5.there (tq.free (by rw [← z]; exact hq2))
    have t56 := tq.trans tq2
    generalize upd H6 q2 (.lst [.int 10, .int (-1), .bl true, .bl false, .non, .str (Str.ofString "3"), .ref q1, .int 100]) = H7 at tq2 eq2 rl t56
    walk_at "g"
    refine ⟨b, q2, _, also M l, rfl, hB5.same t56, SqL.of eq2, q2b, by simp, by simp, fun vo H8 hvo hA8 hB8 => ?_⟩
    obtain ⟨d0, hd0, ro⟩ := rl.memD vo hvo
    have s58 : Sx (one b) H5 H8 := (Sx.same t56).trans hA8.sx
    have g58 : Gr H5 H8 := (Gr.same t56).trans (At.gr hA8 hB8.there)
    have el8 := s58 _ _ (show ¬ one b l from lb) el5
    have ro8 := ro.sx (hA8.sx.le (one_le hB5.w))
    walk_at "g"
    refine ⟨.inl ⟨rfl, _, SqL.of el8⟩, ?_⟩
    walk_at "g"
    refine ⟨b, _, also M l, rfl, hB8, by omega, by omega, fun wi H9 i0 i1 hA9 hB9 => ?_⟩
    obtain ⟨ii, rfl⟩ : ∃ ii : Nat, wi = (ii : Int) := ⟨wi.toNat, by omega⟩
    have el9 := (hA9 l lb).trans el8
    have ro9 := ro8.sx (hA9.sx.le (one_le hB8.w))
    walk_at "g"
    refine ⟨l, _, _, _, rfl, rfl, el9, small1000 (by rw [List.length_map]; omega), by omega, by have z := i1; rw [List.length_map] at z; omega, ?_⟩
    rw [Int.toNat_natCast]
    have eL : upd H9 l (.lst ((its.map V.int).take ii ++ [vo] ++ (its.map V.int).drop ii)) l = some (.lst ((its.map V.int).take ii ++ [vo] ++ (its.map V.int).drop ii)) := upd_same
    have gL : Gr H9 (upd H9 l (.lst ((its.map V.int).take ii ++ [vo] ++ (its.map V.int).drop ii))) := Gr.upd
    have sL : Sx (one l) H9 (upd H9 l (.lst ((its.map V.int).take ii ++ [vo] ++ (its.map V.int).drop ii))) := Sx.put rfl
    generalize upd H9 l (.lst ((its.map V.int).take ii ++ [vo] ++ (its.map V.int).drop ii)) = HA at eL gL sL
    have hBA := hB9.keep sL (Ne.symm lb) (one_le (.inr rfl))
    have roA := ro9.sx (sL.le (one_le (.inr rfl)))
    walk_at "g"
    refine ⟨l, _, rfl, .inl ⟨SqL.of eL, fun pt hpt => ?_⟩⟩
    have gA : Gr H HA := g5.trans (g58.trans ((At.gr hA9 hB9.there).trans gL))
    have sA : Sx (also (one b) l) H5 HA := (s58.le fun _ z => .inl z).trans ((hA9.sx.le fun _ z => .inl z).trans (sL.le fun _ z => .inr z))
    have sHA : Sx (one b) H HA := fun a o na e => sA a o (fun z => z.elim na fun z => by rw [show a = l from z] at e; rw [hl0] at e; cases e) (s5 a o na e)
    refine q _ _ (.tuple ((its.take ii).map PyData.int ++ d0 :: (its.drop ii).map PyData.int)) (sHA.trans (Sx.new hpt)) (gA.trans Gr.upd) ((hBA.less mb also_le).same (same_new hpt)) (Rp.newT (hM.gr gA) hpt ?_) (odd_row hits hd0)
    rw [← List.map_take, ← List.map_drop, List.append_assoc]
    exact (RpAll.ints _).append (.cons (roA.less also_le) (RpAll.ints _))
end
end D

namespace D
open PySem PySem.Spec PyProof.Rows L2
local macro_rules | `(tactic| walk_at "st") => `(tactic| first | exact SqT.of (by assumption) | exact Or.inl (by assumption) | exact SqT.of upd_same | fail "st")
local macro_rules | `(tactic| walk_at "ixt") => `(tactic| refine ⟨_, _, _, _, rfl, rfl, (by walk_at "st" : SqT _ _ _ _), by rfl, ?_⟩)
local macro_rules | `(tactic| walk_at "sq") => `(tactic| first | exact SqL.of (by assumption) | assumption | exact Or.inl (by assumption) | exact SqL.of upd_same | fail "sq")
local macro_rules | `(tactic| walk_at "ix") => `(tactic| refine ⟨_, _, _, _, rfl, rfl, (by walk_at "sq" : SqL _ _ _ _), by rfl, ?_⟩)
local macro_rules | `(tactic| walk_at "set") => `(tactic| refine ⟨_, _, _, _, rfl, rfl, by first | assumption | exact upd_same, by rfl, ?_⟩)
local macro_rules | `(tactic| walk_at "len") => `(tactic| refine ⟨_, _, rfl, Or.inl (by walk_at "sq" : SqL _ _ _ _), ?_⟩)
local macro_rules | `(tactic| walk_at "g") => `(tactic| repeat (first | refine ⟨_, rfl, ?_⟩ | refine ⟨_, _, rfl, rfl, ?_⟩ | refine ⟨Or.inr (by decide), ?_⟩ | refine ⟨Or.inl (by decide), ?_⟩ | refine ⟨(by decide : (0 : Int) < _), ?_⟩ | refine ⟨(⟨by decide, by decide⟩ : CDiv _ _), ?_⟩ | refine ⟨(⟨by decide, by decide, by decide⟩ : CPow _ _), ?_⟩ | refine Or.inl ⟨_, rfl, ?_⟩ | refine ⟨rfl, ?_⟩ | walk_at "ix" | walk_at "ixt" | walk_at "len" | fail "g"))
local macro_rules | `(tactic| walk_at "if") => `(tactic| refine ite2 (fun e => ?_) (fun e => ?_))
section
variable {P : Program} {w : World} {K : PySem.W.Frag} {mg : Str → Option Value} {base : Heap}
def ok6 (z : Str) : Prop := 1 ≤ (sg z).length ∧ (sg z).length ≤ 6 ∧ (∀ c ∈ sg z, 97 ≤ c ∧ c ≤ 122)
def tl2 (l : List Nat) (k : Nat) : Str := ⟨#[l.getD (k / 26) 0, l.getD (k % 26) 0]⟩
/-- small letters -/
def Low (l : List Nat) : Prop := ∀ c ∈ l, 97 ≤ c ∧ c ≤ 122
/-- a name: one to eight small letters -/
def okN (z : Str) : Prop := 1 ≤ (sg z).length ∧ (sg z).length ≤ 8 ∧ Low (sg z)
theorem Low.app {a b : List Nat} (h : Low a) (g : Low b) : Low (a ++ b) := fun c hc => (List.mem_append.mp hc).elim (h c) (g c)
theorem Low.sub {a b : List Nat} (h : Low a) (s : ∀ c ∈ b, c ∈ a) : Low b := fun c hc => h c (s c hc)
theorem small26 {z : Str} (h : (sg z).length < 1000) : z.length ≤ sizeLine := by rw [← sg_len, sizeLine_eq]; omega
def sp_newname (K : PySem.W.Frag) : Sp := fun vs H Q _ => ∃ (b u : Addr) (ws : List Str) (M : Ms), vs = [.ref b, .ref u] ∧ Bag K M H b ∧ Mk M H ∧ M u ∧ u ≠ b ∧ H u = some (.lst (ws.map V.str)) ∧ ws.length ≤ 10 ∧ (∀ w ∈ ws, okN w) ∧
  ∀ H' z, Sx (also (one b) u) H H' → Gr H H' → Bag K M H' b → H' u = some (.lst ((ws ++ [z]).map V.str)) → okN z → z ∉ ws → Q (.str z) H'
theorem ok_newname (T : Txt K mg) : FnOk P w K mg base CX0 3 T.f__law_new_name T.d__law_new_name ["_law_bag_here", "_law_used"] (sp_newname K) := by
  have G__law_pick := ok_pick (P := P) (w := w) (base := base) T
  refine T.F__law_new_name.ok sc__law_new_name (fun vs H Q E h => ?_) (fun cdv A outer s H vs Q E hr h => ?_)
  · obtain ⟨_, _, _, _, rfl, _⟩ := h
    rfl
  · obtain ⟨b, u, ws, M, rfl, hB, hM, mu, ub, hu, lw, hws, q⟩ := h
    refine ⟨_, (pss_cons (ps_set (i := 2) sc__law_new_name.nd rfl (Or.inr rfl) pe_str)
      (pss_cons (ps_set (i := 3) sc__law_new_name.nd rfl (Or.inr rfl) (pe_join pe_str (pe_lc (own := [("_law_step", 7)]) (g := gName 7) (tt := tYes) (by rfl) sc__law_new_name.nd (pi_range1 (by rfl) T.m_range (pa_cons (pe_op op_add pe_int (pe_call G__law_pick (hr.mono (by omega)) (by rfl) T.g__law_pick T.F__law_pick.kp T.b__law_pick .nil pass0 (pa_cons (pv 0) (pa_cons pe_int pa_nil)))) pa_nil)) (blkOk_by (own := [("_law_step", 7)]) (N := ["_law_bag_here", "_law_used", "_law_letters", "_law_told", "_law_near", "_law_at", "_law_tails", "_law_step", "_law_k", "_law_tail"]) (sc := defScope s__law_new_name) (by decide +kernel)) (fun _ _ _ _ _ => (pg_name (i := 7) sc__law_new_name.nd rfl (Or.inl rfl))) (fun _ _ _ _ _ => pts_nil) (fun _ _ _ _ _ => (pe_ix ix_str (pv 2) (pe_call G__law_pick (hr.mono (by omega)) (by rfl) T.g__law_pick T.F__law_pick.kp T.b__law_pick .nil pass0 (pa_cons (pv 0) (pa_cons pe_int pa_nil))) (fun _ _ => rfl))))))
      (pss_cons (ps_if (PW.pt (pw_and (pt_truthK (K := K) rfl (pv 1) (by intro _; rfl)) (pw_and1 (pt_cmpR op_eq (pe_call G__law_pick (hr.mono (by omega)) (by rfl) T.g__law_pick T.F__law_pick.kp T.b__law_pick .nil pass0 (pa_cons (pv 0) (pa_cons pe_int pa_nil))) pe_int (nomark _))))) (pss_cons (ps_set (i := 4) sc__law_new_name.nd rfl (Or.inl rfl) (pe_slice sl_str (pe_ix (ix_listK (K := K) rfl) (pv 1) (pe_call G__law_pick (hr.mono (by omega)) (by rfl) T.g__law_pick T.F__law_pick.kp T.b__law_pick .nil pass0 (pa_cons (pv 0) (pa_cons (pe_callB (call_lenK (K := K) rfl) (by rfl) T.m_len PySem.boot_len (pa_cons (pv 1) pa_nil)) pa_nil))) (fun _ _ => rfl)) po_none (po_some pe_int)))
      (pss_cons (ps_set (i := 5) sc__law_new_name.nd rfl (Or.inl rfl) (pe_call G__law_pick (hr.mono (by omega)) (by rfl) T.g__law_pick T.F__law_pick.kp T.b__law_pick .nil pass0 (pa_cons (pv 0) (pa_cons (pe_callB call_len_str (by rfl) T.m_len PySem.boot_len (pa_cons (pv 4) pa_nil)) pa_nil))))
      (pss_one (ps_set (i := 3) sc__law_new_name.nd rfl (Or.inr rfl) (pe_op op_add_str (pe_op op_add_str (pe_slice sl_str (pv 4) po_none (po_some (pv 5))) (pe_ix ix_str (pv 2) (pe_call G__law_pick (hr.mono (by omega)) (by rfl) T.g__law_pick T.F__law_pick.kp T.b__law_pick .nil pass0 (pa_cons (pv 0) (pa_cons pe_int pa_nil))) (fun _ _ => rfl))) (pe_slice sl_str (pv 4) (po_some (pe_op op_add (pv 5) pe_int)) po_none)))))) pss_nil)
      (pss_cons (ps_if (pt_cmpR (op_in_seqK (K := K) rfl) (pv 3) (pe_op op_cat (pv 1) (pe_lst (pa_cons pe_str (pa_cons pe_str pa_nil)))) (by rfl)) (pss_cons (ps_setLc (i := 6) (own := [("_law_k", 8)]) (g := gName 8) (tt := tYes) (by rfl) sc__law_new_name.nd rfl rfl (sw_true rfl rfl rfl (by decide +kernel)) (pi_range1 (by rfl) T.m_range (pa_cons pe_int pa_nil)) (blkOk_by (own := [("_law_k", 8)]) (N := ["_law_bag_here", "_law_used", "_law_letters", "_law_told", "_law_near", "_law_at", "_law_tails", "_law_step", "_law_k", "_law_tail"]) (sc := defScope s__law_new_name) (by decide +kernel)) (fun _ _ _ _ _ => (pg_name (i := 8) sc__law_new_name.nd rfl (Or.inl rfl))) (fun _ _ _ _ _ => pts_nil) (fun _ _ _ _ _ => (pe_op op_add_str (pe_ix ix_str (pv 2) (pe_op op_fdiv (pv 8) pe_int) (fun _ _ => rfl)) (pe_ix ix_str (pv 2) (pe_op op_mod (pe_callTy call_int1 (by rfl) T.m_int (by decide +kernel) (pa_cons (pv 8) pa_nil)) pe_int) (fun _ _ => rfl)))))
      (pss_one (ps_set (i := 3) sc__law_new_name.nd rfl (Or.inr rfl) (pe_ix (ix_listK (K := K) rfl) (pe_lc (own := [("_law_tail", 9)]) (g := gName 9)  (by rfl) sc__law_new_name.nd (pi_listK (K := K) rfl (pv 6)) (blkOk_by (own := [("_law_tail", 9)]) (N := ["_law_bag_here", "_law_used", "_law_letters", "_law_told", "_law_near", "_law_at", "_law_tails", "_law_step", "_law_k", "_law_tail"]) (sc := defScope s__law_new_name) (by decide +kernel)) (fun _ _ _ _ _ => (pg_name (i := 9) sc__law_new_name.nd rfl (Or.inl rfl))) (fun _ _ _ _ _ => (pts_one (pt_cmpR (op_notIn_seqK (K := K) rfl) (pe_op op_add_str (pe_slice sl_str (pv 3) po_none (po_some pe_int)) (pv 9)) (pe_op op_cat (pv 1) (pe_lst (pa_cons pe_str pa_nil))) (by rfl)))) (fun _ _ _ _ _ => (pe_op op_add_str (pe_slice sl_str (pv 3) po_none (po_some pe_int)) (pv 9)))) pe_int (fun _ _ => rfl))))) pss_nil)
      (pss_cons (ps_expr (pe_bmK2 (K := K) rfl PySem.F.plainAttrs_list PySem.F.slot_list_append PySem.F.type_list_append mt_append (pv 1) (pa_cons (pv 3) pa_nil)))
      (pss_one (ps_ret (pv 3)))))))), ?_⟩
    generalize eal : Str.ofString "abcdefghijklmnopqrstuvwxyz" = al
    have lal : (sg al).length = 26 := by rw [← eal]; decide +kernel
    have low : Low (sg al) := by rw [← eal]; unfold Low; decide +kernel
    have at_al : ∀ w : Int, 0 ≤ w → w < 26 → ∃ c, atI al.cps.toList w = some c ∧ 97 ≤ c ∧ c ≤ 122 := fun w h0 h1 => by
      obtain ⟨j, rfl⟩ : ∃ j : Nat, w = (j : Int) := ⟨w.toNat, by omega⟩
      have hj : j < (sg al).length := by omega
      exact ⟨(sg al)[j], atI_nat (List.getElem?_eq_getElem hj), low _ (List.getElem_mem hj)⟩
    have sal : al.length ≤ sizeLine := small26 (by omega)
    have gd : ∀ k, k < 26 → (sg al)[k]? = some ((sg al).getD k 0) := fun k hk => by
      rw [List.getD_eq_getElem?_getD, List.getElem?_eq_getElem (by omega)]
      rfl
    have nda : (sg al).Nodup := by rw [← eal]; decide +kernel
    clear eal
    refine ⟨⟨_, rfl⟩, ?_⟩
    walk_at "g"
    refine ⟨b, 6, M, rfl, hB, by omega, by omega, fun n1 H1 h0 h1 hA1 hB1 => ?_⟩
    walk_at "g"
    refine ⟨by omega, by omega, fun D hD => ?_⟩
    have Db : D ≠ b := fun z => hB1.there (by rw [← z]; exact hD)
    refine rng_loop (lo := 0) (n := (1 + n1).toNat) (fun i H' => ∃ ys : List Str, H' D = some (.lst (ys.map V.str)) ∧ ys.length = i ∧ (∀ y ∈ ys, ∃ c, y = ⟨#[c]⟩ ∧ 97 ≤ c ∧ c ≤ 122) ∧ Sx (one b) H1 H' ∧ Gr H1 H' ∧ Bag K (also M D) H' b) ⟨[], upd_same, rfl, fun y hy => (nomatch hy), Sx.new hD, Gr.upd, (hB1.more hD).same (same_new hD)⟩ (fun i H' hi p => ?_) (fun H2 p => ?_)
    · obtain ⟨ys, eD, ly, hys, s2, g2, hB2⟩ := p
      refine ⟨rfl, ?_⟩
      walk_at "g"
      refine ⟨b, 26, also M D, rfl, hB2, by omega, by omega, fun w3 H3 k0 k1 hA3 hB3 => ?_⟩
      obtain ⟨c, hc, c0, c1⟩ := at_al w3 k0 k1
      have eD3 := (hA3 D Db).trans eD
      refine ⟨al, _, c, rfl, rfl, sal, hc, _, eD3, small1000 (by rw [List.length_map]; omega), ys ++ [⟨#[c]⟩], ?_, by rw [List.length_append, ly]; rfl, fun y hy => ?_, fun a o n e => ?_, g2.trans ((At.gr hA3 hB3.there).trans Gr.upd), hB3.keep (N := one D) (Sx.put rfl) (Ne.symm Db) (fun c z => .inr z)⟩
      · rw [upd_same, List.map_append]
        rfl
      · rcases List.mem_append.mp hy with z | z
        · exact hys y z
        · exact ⟨c, List.mem_singleton.mp z, c0, c1⟩
      · rw [upd_ne (fun z => by rw [z, hD] at e; cases e)]
        exact hA3.sx a o n (s2 a o n e)
    obtain ⟨ys, eD, ly, hys, s2, g2, hB2⟩ := p
    have hB2' := hB2.less (N := M) hB1.w also_le
    have ly1 : 1 ≤ ys.length ∧ ys.length ≤ 6 := by omega
    have sum1 : ∀ l : List Str, (∀ y ∈ l, ∃ c, y = ⟨#[c]⟩ ∧ 97 ≤ c ∧ c ≤ 122) → (l.map (·.length)).sum = l.length ∧ (l.map sg).flatten.length = l.length ∧ Low (l.map sg).flatten := by
      intro l
      induction l with
      | nil => intro _; exact ⟨rfl, rfl, fun c hc => nomatch hc⟩
      | cons y r ih =>
        intro h
        obtain ⟨i1, i2, i3⟩ := ih fun z hz => h z (List.mem_cons_of_mem _ hz)
        obtain ⟨c, rfl, c0, c1⟩ := h y List.mem_cons_self
        refine ⟨?_, ?_, ?_⟩
        · rw [List.map_cons, List.sum_cons, i1, List.length_cons]
          show 1 + r.length = r.length + 1
          omega
        · rw [List.map_cons, List.flatten_cons, List.length_append, i2, List.length_cons]
          show 1 + r.length = r.length + 1
          omega
        · rw [List.map_cons, List.flatten_cons]
          refine Low.app (fun d hd => ?_) i3
          rw [List.mem_singleton.mp (show d ∈ [c] from hd)]
          exact ⟨c0, c1⟩
    obtain ⟨j1, j2, j3⟩ := sum1 ys hys
    refine ⟨_, D, ys, rfl, rfl, .inl (SqL.of eD), by rw [j1, show (Str.ofString "").length = 0 from by decide +kernel]; omega, ?_⟩
    generalize hz1 : Txt.join _ ys = z1
    have sz1 : sg z1 = (ys.map sg).flatten := by rw [← hz1, TL.join_eq]; exact sg_join0 ys
    have l1 : (sg z1).length = ys.length := by rw [sz1]; exact j2
    have w1 : Low (sg z1) := by rw [sz1]; exact j3
    clear hz1
    have sx2 : Sx (one b) H H2 := hA1.sx.trans s2
    have gr2 : Gr H H2 := (At.gr hA1 hB1.there).trans g2
    have hu2 := sx2 u _ ub hu
    dsimp only [gName]
    with_reducible refine seq_join (fun σ3 H' => ∃ (z : Str) (y4 y5 : Option V), σ3 = [some (.ref b), some (.ref u), some (.str al), some (.str z), y4, y5, none, none, none, none] ∧ ok6 z ∧ Sx (one b) H H' ∧ Gr H H' ∧ Bag K M H' b) (fun hN => ?_) (fun σ H5 c => ?_)
    · have base0 := hN _ _ ⟨z1, none, none, rfl, ⟨by omega, by omega, w1⟩, sx2, gr2, hB2'⟩
      walk_at "g"
      refine ⟨!(ws.map V.str).isEmpty, .inl ⟨_, SqL.of hu2, rfl⟩, ?_⟩
      by_cases cn : ws = []
      · rw [show (!(ws.map V.str).isEmpty) = false by rw [cn]; rfl]
        exact base0
      · rw [show (!(ws.map V.str).isEmpty) = true by cases ws with | nil => exact absurd rfl cn | cons _ _ => rfl]
        have lpos : 0 < ws.length := List.length_pos_iff.mpr cn
        walk_at "g"
        refine ⟨b, 3, M, rfl, hB2', by omega, by omega, fun w4 H4 d0 d1 hA4 hB4 => ?_⟩
        have sx4 := sx2.trans hA4.sx
        have gr4 := gr2.trans (At.gr hA4 hB4.there)
        have hu4 := (hA4 u ub).trans hu2
        walk_at "g"
        walk_at "if"
        · walk_at "g"
          have lws : (ws.map V.str).length = ws.length := List.length_map _
          refine ⟨b, _, M, rfl, hB4, by omega, by omega, fun w5 H5 e0 e1 hA5 hB5 => ?_⟩
          obtain ⟨j, rfl⟩ : ∃ j : Nat, w5 = (j : Int) := ⟨w5.toNat, by omega⟩
          have hj : j < ws.length := by omega
          have sx5 := sx4.trans hA5.sx
          have gr5 := gr4.trans (At.gr hA5 hB5.there)
          have hu5 := (hA5 u ub).trans hu4
          obtain ⟨o1, o2, o3⟩ := hws ws[j] (List.getElem_mem hj)
          refine ⟨_, _, _, _, rfl, rfl, SqL.of hu5, atI_nat (by rw [List.getElem?_map, List.getElem?_eq_getElem hj]; rfl), ?_⟩
          walk_at "g"
          refine ⟨small26 (by omega), ?_⟩
          have snr : sg (cutS ws[j] none (some 6)) = (sg ws[j]).take 6 := sg_cut _ 6
          generalize cutS ws[j] none (some 6) = nr at snr
          have lnr : 1 ≤ (sg nr).length ∧ (sg nr).length ≤ 6 := by rw [snr, List.length_take]; omega
          have wnr : Low (sg nr) := by rw [snr]; exact Low.sub o3 fun c hc => List.mem_of_mem_take hc
          have lnr' := sg_len nr
          walk_at "g"
          refine ⟨small26 (by omega), ?_⟩
          walk_at "g"
          refine ⟨b, _, M, rfl, hB5, by omega, by omega, fun w6 H6 f0 f1 hA6 hB6 => ?_⟩
          obtain ⟨i, rfl⟩ : ∃ i : Nat, w6 = (i : Int) := ⟨w6.toNat, by omega⟩
          have hi : i < (sg nr).length := by omega
          walk_at "g"
          refine ⟨small26 (by omega), ?_⟩
          walk_at "g"
          refine ⟨b, 26, M, rfl, hB6, by omega, by omega, fun w7 H7 g0 g1 hA7 hB7 => ?_⟩
          obtain ⟨c, hc, c0, c1⟩ := at_al w7 g0 g1
          refine ⟨al, _, c, rfl, rfl, sal, hc, ?_⟩
          have sq1 : sg (cutS nr none (some (i : Int))) = (sg nr).take i := sg_cut _ i
          have sq2 : sg (cutS nr (some ((i : Int) + 1)) none) = (sg nr).drop (i + 1) := by
            have := sg_from nr (i + 1)
            rw [show (((i + 1 : Nat)) : Int) = (i : Int) + 1 by omega] at this
            exact this
          have lq1 : (cutS nr none (some (i : Int))).length ≤ 6 := by rw [← sg_len, sq1, List.length_take]; omega
          have lq2 : (cutS nr (some ((i : Int) + 1)) none).length ≤ 6 := by rw [← sg_len, sq2, List.length_drop]; omega
          refine ⟨_, _, rfl, rfl, ?_, ?_⟩
          · have e1 : (⟨#[c]⟩ : Str).length = 1 := rfl
            rw [e1, sizeLine_eq]
            omega
          walk_at "g"
          refine ⟨small26 (by omega), ?_⟩
          have sq3 : sg (cutS nr none (some (i : Int)) ++ (⟨#[c]⟩ : Str)) = (sg nr).take i ++ [c] := by rw [sg_app, sq1]
          refine ⟨_, _, rfl, rfl, ?_, ?_⟩
          · have e1 : (cutS nr none (some (i : Int)) ++ (⟨#[c]⟩ : Str)).length ≤ 7 := by
              rw [← sg_len, sq3, List.length_append, List.length_take]
              show _ + 1 ≤ 7
              omega
            rw [sizeLine_eq]
            omega
          have sq4 : sg (cutS nr none (some (i : Int)) ++ (⟨#[c]⟩ : Str) ++ cutS nr (some ((i : Int) + 1)) none) = (sg nr).take i ++ [c] ++ (sg nr).drop (i + 1) := by rw [sg_app, sq3, sq2]
          have len4 : ((sg nr).take i ++ [c] ++ (sg nr).drop (i + 1)).length = (sg nr).length := by
            rw [List.length_append, List.length_append, List.length_take, List.length_drop]
            show min i _ + 1 + _ = _
            omega
          refine hN _ _ ⟨_, _, _, rfl, ⟨by rw [sq4, len4]; omega, by rw [sq4, len4]; omega, ?_⟩, sx5.trans (hA6.sx.trans hA7.sx), gr5.trans ((At.gr hA6 hB6.there).trans (At.gr hA7 hB7.there)), hB7⟩
          rw [sq4]
          refine Low.app (Low.app (Low.sub wnr fun c hc => List.mem_of_mem_take hc) (fun d hd => ?_)) (Low.sub wnr fun c hc => List.mem_of_mem_drop hc)
          rw [List.mem_singleton.mp hd]
          exact ⟨c0, c1⟩
        · exact hN _ _ ⟨z1, none, none, rfl, ⟨by omega, by omega, w1⟩, sx4, gr4, hB4⟩
    · obtain ⟨z, y4, y5, rfl, ⟨z_1, z_6, z_l⟩, sx5, gr5, hB5⟩ := c
      have hu5 : H5 u = some (.lst (ws.map V.str)) := sx5 u _ ub hu
      have lws : (ws.map V.str).length = ws.length := List.length_map _
      have zle : z.length ≤ 6 := by rw [← sg_len]; exact z_6
      walk_at "g"
      refine ⟨szK rfl, fun p6 hp6 => ?_⟩
      have s6 : Same H5 (upd H5 p6 (.lst [.str (Str.ofString "item"), .str (Str.ofString "at")])) := same_new hp6
      have e6 : upd H5 p6 (.lst [.str (Str.ofString "item"), .str (Str.ofString "at")]) p6 = some (.lst [.str (Str.ofString "item"), .str (Str.ofString "at")]) := upd_same
      generalize upd H5 p6 (.lst [.str (Str.ofString "item"), .str (Str.ofString "at")]) = H6 at s6 e6
      have hu6 := s6 _ _ hu5
      refine ⟨u, p6, _, _, rfl, rfl, hu6, e6, by rw [lws, sizeLine_eq]; show ws.length + 2 ≤ _; omega, fun p7 hp7 => ?_⟩
      have ecat : ws.map V.str ++ [V.str (Str.ofString "item"), V.str (Str.ofString "at")] = (ws ++ [Str.ofString "item", Str.ofString "at"]).map V.str := by rw [List.map_append]; rfl
      rw [ecat]
      have s7 : Same H6 (upd H6 p7 (.lst ((ws ++ [Str.ofString "item", Str.ofString "at"]).map V.str))) := same_new hp7
      refine ⟨p7, _, rfl, .inl (SqL.of upd_same), rfl, flat_strs _, ?_⟩
      generalize upd H6 p7 (.lst ((ws ++ [Str.ofString "item", Str.ofString "at"]).map V.str)) = H7 at s7
      rw [in_strs]
      have s57 := s6.trans s7
      have hB7 := hB5.same s57
      have sx7 := sx5.trans (Sx.same s57)
      have gr7 := gr5.trans (Gr.same s57)
      walk_at "g"
      have hu7 := s57 _ _ hu5
      have mb := hB.w
      by_cases hz : z ∈ ws ++ [Str.ofString "item", Str.ofString "at"]
      · rw [decide_eq_true hz, if_neg Bool.false_ne_true]
        dsimp only
        rw [if_pos rfl]
        walk_at "g"
        refine ⟨by decide, by decide, fun D2 hD2 => ?_⟩
        have D2b : D2 ≠ b := fun y => hB7.there (by rw [← y]; exact hD2)
        refine rng_loop (lo := 0) (n := 676) (fun i H' => Same H7 H' ∧ H' D2 = some (.lst (((List.range i).map (tl2 (sg al))).map V.str))) ⟨same_new hD2, upd_same⟩ (fun i H' hi p => ?_) (fun H8 p => ?_)
        · obtain ⟨s8, eD⟩ := p
          have hi' : i < 676 := hi
          rw [Int.zero_add]
          refine ⟨rfl, ?_⟩
          walk_at "g"
          have k1 : i / 26 < 26 := by omega
          have k2 : i % 26 < 26 := Nat.mod_lt _ (by decide)
          refine ⟨al, _, (sg al).getD (i / 26) 0, rfl, rfl, sal, ?_, ?_⟩
          · rw [show ((i : Int) / 26) = ((i / 26 : Nat) : Int) by omega]
            exact atI_nat (gd _ k1)
          walk_at "g"
          refine ⟨al, _, (sg al).getD (i % 26) 0, rfl, rfl, sal, ?_, ?_⟩
          · rw [show ((i : Int) % 26) = ((i % 26 : Nat) : Int) by omega]
            exact atI_nat (gd _ k2)
          refine ⟨_, _, rfl, rfl, by rw [sizeLine_eq]; show 1 + 1 ≤ _; omega, ?_⟩
          have l1 : (((List.range i).map (tl2 (sg al))).map V.str).length = i := by rw [List.length_map, List.length_map, List.length_range]
          refine ⟨_, eD, small1000 (by omega), same_put s8 hD2, ?_⟩
          rw [upd_same, List.range_succ, List.map_append, List.map_append]
          rfl
        obtain ⟨s8, eD8⟩ := p
        have eD8 : H8 D2 = some (.lst (((List.range 676).map (tl2 (sg al))).map V.str)) := eD8
        have s78 : Same H5 H8 := s57.trans s8
        have hu8 := s78 _ _ hu5
        walk_at "g"
        refine ⟨⟨_, SqL.of eD8⟩, fun D3 hD3 => ?_⟩
        obtain ⟨f, hf⟩ : ∃ f : Nat → Str, f = fun k => cutS z none (some 6) ++ tl2 (sg al) k := ⟨_, rfl⟩
        obtain ⟨LL, hLL⟩ : ∃ L : List Str, L = ws ++ [Str.ofString "item"] := ⟨_, rfl⟩
        have lLL : LL.length ≤ 11 := by rw [hLL, List.length_append]; show ws.length + 1 ≤ 11; omega
        have c6 : (cutS z none (some 6)).length ≤ 6 := by
          have := sg_cut z 6
          rw [← sg_len, show sg (cutS z none (some 6)) = (sg z).take 6 from this, List.length_take]
          omega
        refine list_loop (xs := ((List.range 676).map (tl2 (sg al))).map V.str) (fun i H' => Same H8 H' ∧ H' D3 = some (.lst ((((List.range i).map f).filter (fun y => decide (y ∉ LL))).map V.str))) ⟨same_new hD3, upd_same⟩ (fun i H' _ p => SqL.of (p.1 _ _ eD8)) (fun i x H' hx p => ?_) (fun H9 p => ?_)
        · obtain ⟨s9, eD9⟩ := p
          have hi : i < 676 := by
            have := (List.getElem?_eq_some_iff.mp hx).1
            rw [List.length_map, List.length_map, List.length_range] at this
            exact this
          rw [List.getElem?_map, List.getElem?_map, List.getElem?_range hi] at hx
          cases hx
          have hu9 := s9 _ _ hu8
          refine ⟨rfl, ?_⟩
          walk_at "g"
          refine ⟨small26 (by omega), ?_⟩
          have l2 : (tl2 (sg al) i).length = 2 := rfl
          walk_at "g"
          refine ⟨by rw [l2, sizeLine_eq]; omega, ?_⟩
          walk_at "g"
          refine ⟨szK rfl, fun p1 hp1 => ?_⟩
          have t1 : Same H' (upd H' p1 (.lst [.str (Str.ofString "item")])) := same_new hp1
          have e1 : upd H' p1 (.lst [.str (Str.ofString "item")]) p1 = some (.lst [.str (Str.ofString "item")]) := upd_same
          generalize upd H' p1 (.lst [.str (Str.ofString "item")]) = G1 at t1 e1
          refine ⟨u, p1, _, _, rfl, rfl, t1 _ _ hu9, e1, by rw [lws, sizeLine_eq]; show ws.length + 1 ≤ _; omega, fun p2 hp2 => ?_⟩
          have ecat2 : ws.map V.str ++ [V.str (Str.ofString "item")] = LL.map V.str := by rw [hLL, List.map_append]; rfl
          rw [ecat2]
          have t2 : Same G1 (upd G1 p2 (.lst (LL.map V.str))) := same_new hp2
          refine ⟨p2, _, rfl, .inl (SqL.of upd_same), rfl, flat_strs _, ?_⟩
          generalize upd G1 p2 (.lst (LL.map V.str)) = G2 at t2
          rw [in_strs, if_pos rfl]
          have t12 := t1.trans t2
          have e9 := t12 _ _ eD9
          have lf : (((List.range i).map f).filter (fun y => decide (y ∉ LL))).length ≤ i := Nat.le_trans (List.length_filter_le _ _) (by rw [List.length_map, List.length_range]; exact Nat.le_refl _)
          have fi : f i = cutS z none (some 6) ++ tl2 (sg al) i := by rw [hf]
          have step : ((List.range (i + 1)).map f).filter (fun y => decide (y ∉ LL)) = ((List.range i).map f).filter (fun y => decide (y ∉ LL)) ++ if f i ∈ LL then [] else [f i] := by
            rw [List.range_succ, List.map_append, List.filter_append]
            congr 1
            by_cases c : f i ∈ LL
            · rw [if_pos c]; simp [c]
            · rw [if_neg c]; simp [c]
          rw [step]
          by_cases c : f i ∈ LL
          · rw [← fi, decide_eq_true c, if_pos c, List.append_nil]
            exact ⟨_, rfl, s9.trans t12, e9⟩
          · rw [← fi, decide_eq_false c, if_neg c]
            refine ⟨_, rfl, ?_⟩
            dsimp only
            rw [if_pos (by rfl : (!false) = true)]
            walk_at "g"
            refine ⟨small26 (by omega), ?_⟩
            walk_at "g"
            refine ⟨by rw [l2, sizeLine_eq]; omega, ?_⟩
            refine ⟨_, e9, small1000 (by rw [List.length_map]; omega), same_put (s9.trans t12) hD3, ?_⟩
            rw [upd_same, List.map_append, ← fi]
            rfl
        obtain ⟨s9, eD9⟩ := p
        have eD9 : H9 D3 = some (.lst ((((List.range 676).map f).filter (fun y => decide (y ∉ LL))).map V.str)) := by
          have := eD9
          rw [List.length_map, List.length_map, List.length_range] at this
          exact this
        obtain ⟨y0, rest, ey⟩ : ∃ y0 rest, ((List.range 676).map f).filter (fun y => decide (y ∉ LL)) = y0 :: rest := by
          cases e : ((List.range 676).map f).filter (fun y => decide (y ∉ LL)) with
          | cons y r => exact ⟨y, r, rfl⟩
          | nil =>
            exfalso
            have all : ∀ k, k < 676 → f k ∈ LL := fun k hk => by
              by_cases c : f k ∈ LL
              · exact c
              · exfalso
                have : f k ∈ ((List.range 676).map f).filter (fun y => decide (y ∉ LL)) := List.mem_filter.mpr ⟨List.mem_map.mpr ⟨k, List.mem_range.mpr hk, rfl⟩, decide_eq_true c⟩
                rw [e] at this
                exact nomatch this
            have inj : ∀ i j : Nat, i < 26 → j < 26 → f i = f j → i = j := fun i j hi hj h => by
              have h2 := congrArg sg h
              rw [hf] at h2
              dsimp only at h2
              rw [sg_app, sg_app] at h2
              have h3 := List.append_cancel_left h2
              have h4 : [(sg al).getD (i / 26) 0, (sg al).getD (i % 26) 0] = [(sg al).getD (j / 26) 0, (sg al).getD (j % 26) 0] := h3
              injection h4 with _ h5
              injection h5 with h6 _
              rw [Nat.mod_eq_of_lt hi, Nat.mod_eq_of_lt hj] at h6
              have g1 := gd i hi
              have g2 := gd j hj
              rw [← h6] at g2
              exact (List.getElem?_inj (show i < (sg al).length by omega) nda).mp (g1.trans g2.symm)
            have nd : ((List.range 26).map f).Nodup := by
              rw [List.nodup_iff_pairwise_ne, List.pairwise_map]
              refine List.Pairwise.imp_of_mem (fun {x y} hx hy hxy h => hxy (inj x y (List.mem_range.mp hx) (List.mem_range.mp hy) h)) (List.nodup_range (n := 26))
            have := (sub_len LL ((List.range 26).map f) nd fun x hx => by
              obtain ⟨k, hk, rfl⟩ := List.mem_map.mp hx
              exact all k (by have := List.mem_range.mp hk; omega)).1
            rw [List.length_map, List.length_range] at this
            omega
        have my : y0 ∈ ((List.range 676).map f).filter (fun y => decide (y ∉ LL)) := by rw [ey]; exact List.mem_cons_self
        obtain ⟨m1, m2⟩ := List.mem_filter.mp my
        obtain ⟨k0, hk0, rfl⟩ := List.mem_map.mp m1
        have hk0 := List.mem_range.mp hk0
        have nL : f k0 ∉ LL := of_decide_eq_true m2
        rw [ey] at eD9
        have sgf : sg (f k0) = (sg z).take 6 ++ [(sg al).getD (k0 / 26) 0, (sg al).getD (k0 % 26) 0] := by
          rw [hf]
          dsimp only
          rw [sg_app]
          congr 1
          exact sg_cut z 6
        have okf : okN (f k0) := by
          have lt : ((sg z).take 6).length ≤ 6 := by rw [List.length_take]; omega
          refine ⟨by rw [sgf, List.length_append]; show 1 ≤ _ + 2; omega, by rw [sgf, List.length_append]; show _ + 2 ≤ 8; omega, ?_⟩
          rw [sgf]
          refine Low.app (Low.sub z_l fun c hc => List.mem_of_mem_take hc) (fun d hd => ?_)
          have kk1 : k0 / 26 < 26 := by omega
          have kk2 : k0 % 26 < 26 := Nat.mod_lt _ (by decide)
          rcases List.mem_cons.mp hd with rfl | hd
          · exact low _ (List.mem_of_getElem? (gd _ kk1))
          · rw [List.mem_singleton.mp hd]
            exact low _ (List.mem_of_getElem? (gd _ kk2))
        have s59 : Same H5 H9 := s78.trans s9
        have hu9 := s59 _ _ hu5
        have at0 : atI ((f k0 :: rest).map V.str) ((0 : Nat) : Int) = some (V.str (f k0)) := atI_nat (by simp)
        walk_at "g"
        refine ⟨_, _, _, _, rfl, rfl, SqL.of eD9, at0, ?_⟩
        walk_at "g"
        refine ⟨.inl ⟨rfl, _, SqL.of hu9⟩, ?_⟩
        walk_at "g"
        refine ⟨u, _, _, rfl, rfl, hu9, small1000000 (by omega), ?_⟩
        walk_at "g"
        have sP : Sx (one u) H9 (upd H9 u (.lst (ws.map V.str ++ [V.str (f k0)]))) := Sx.put rfl
        refine q _ (f k0) (((sx5.trans (Sx.same s59)).le fun c y => .inl y).trans (sP.le fun c y => .inr y)) ((gr5.trans (Gr.same s59)).trans Gr.upd) ((hB5.same s59).keep sP (Ne.symm ub) (one_le mu)) ?_ okf (fun y => nL (by rw [hLL]; exact List.mem_append_left _ y))
        rw [upd_same, List.map_append]
        rfl
      · rw [decide_eq_false hz]
        have zn : z ∉ ws := fun y => hz (List.mem_append_left _ y)
        walk_at "g"
        refine ⟨.inl ⟨rfl, _, SqL.of hu7⟩, ?_⟩
        walk_at "g"
        refine ⟨u, _, _, rfl, rfl, hu7, small1000000 (by omega), ?_⟩
        walk_at "g"
        have sP : Sx (one u) H7 (upd H7 u (.lst (ws.map V.str ++ [V.str z]))) := Sx.put rfl
        refine q _ z ((sx7.le fun c y => .inl y).trans (sP.le fun c y => .inr y)) (gr7.trans Gr.upd) (hB7.keep sP (Ne.symm ub) (one_le mu)) ?_ ⟨z_1, by omega, z_l⟩ zn
        rw [upd_same, List.map_append]
        rfl
theorem okN_nm {z : Str} (h : okN z) : isNm z := ⟨by rw [← sg_len]; exact h.1, by rw [← sg_len]; exact h.2.1, h.2.2⟩
theorem kn_out {x : Str} (h : x = sItem ∨ x = sAt) : ([x].filter fun x => !inV (.str x) [.str sItem, .str sAt]) = [] := by
  rcases h with rfl | rfl <;> decide +kernel
theorem kn_in {x : Str} (h : ¬ x = sItem) (g : ¬ x = sAt) : ([x].filter fun x => !inV (.str x) [.str sItem, .str sAt]) = [x] := by
  have e : inV (.str x) ([sItem, sAt].map V.str) = false := by
    rw [in_strs]
    simp [h, g]
  have e : inV (.str x) [.str sItem, .str sAt] = false := e
  simp [e]
def PairOk (d : PyData) (wd : Str) (e : PyData) : Prop := ∃ n0, okF n0 d ∧ n0 ≤ 7 ∧ Outc n0 d wd e ∧ Gd 100000 30 e
def pairE (p : PyData × Str × PyData) : PyData := .tuple [p.1, .tuple [.str p.2.1, .str p.2.2.shown]]
theorem fm_gdE {f : Fm} (hn : f.ok isNm) (hd : f.dep ≤ 6) (hs : f.size ≤ 4096) : Gd 100000 30 f.enc := (fm_gd f hn).le (by omega) (by omega)
theorem good_pair {f : Fm} (h : f.ok isKN) (hd : f.dep ≤ 5) : PairOk f.enc sGood f.enc := by
  have hn := f.ok_imp isKN_nm h
  refine ⟨5, fm_okF 5 f hn hd, by omega, .good rfl h hd hd ?_, ?_⟩
  · unfold strange
    rw [List.find?_eq_none]
    intro x hx
    have := Fm.names_ok f h x hx
    rcases this with rfl | rfl <;> decide +kernel
  · have h5 := Fm.size_le 5 f hd
    have e5 : 4 ^ 5 = 1024 := by decide
    rw [e5] at h5
    exact fm_gdE hn (by omega) (by omega)
theorem mixed_pair {f : Fm} (h : f.ok isNm) (hd : f.dep ≤ 5) {x : Str} (hs : strange f.names = some x) : PairOk f.enc sNoName (.str x) := by
  have hx : isNm x := Fm.names_ok f h x (List.mem_of_find?_eq_some hs)
  exact ⟨5, fm_okF 5 f h hd, by omega, .nn rfl h hd hd hs, (nm_gd hx).le (by omega) (by omega)⟩
theorem strange_kn {f : Fm} (h : f.ok isNm) (hs : strange f.names = none) : ∀ x ∈ f.names, isKN x := fun x hx => by
  unfold strange at hs
  rw [List.find?_eq_none] at hs
  have := hs x hx
  by_cases c1 : x = sItem
  · exact .inl c1
  by_cases c2 : x = sAt
  · exact .inr c2
  exfalso
  apply this
  show (!inV (.str x) ([sItem, sAt].map V.str)) = true
  rw [in_strs]
  simp [c1, c2]
theorem high_pair {f : Fm} (h : f.ok isNm) (hd : f.dep = 6) (hs : f.size ≤ 4096) : PairOk f.enc sBadForm f.enc :=
  ⟨6, fm_okF 6 f h (by omega), by omega, .high (fm_fbF 6 f h) (by rw [fm_depF 6 f h (by omega)]; omega), fm_gdE h (by omega) hs⟩
theorem bad_pair {n : Nat} {o d : PyData} (s : SpD n o d) (ho : OddD o) (hn : n ≤ 5) : PairOk d sBadForm o := ⟨n + 1, s.1, by omega, .bad s.2.1, ho.2.2.le (by omega) (by omega)⟩
theorem ok_names : ∀ (f : Fm) {p : Str → Prop} , f.ok isNm → (∀ x ∈ f.names, p x) → f.ok p
  | .is _, p, o, _ => o
  | .get x, p, _, h => h x List.mem_cons_self
  | .sum f g, p, o, h => ⟨ok_names f o.1 fun x hx => h x (addsN_sub _ _ x (.inl (addsN_sub _ _ x (.inr hx)))), ok_names g o.2 fun x hx => h x (addsN_sub _ _ x (.inr hx))⟩
  | .same f g, p, o, h => ⟨ok_names f o.1 fun x hx => h x (addsN_sub _ _ x (.inl (addsN_sub _ _ x (.inr hx)))), ok_names g o.2 fun x hx => h x (addsN_sub _ _ x (.inr hx))⟩
  | .pick f g k, p, o, h => ⟨ok_names f o.1 fun x hx => h x (addsN_sub _ _ x (.inl (addsN_sub _ _ x (.inl (addsN_sub _ _ x (.inr hx)))))), ok_names g o.2.1 fun x hx => h x (addsN_sub _ _ x (.inl (addsN_sub _ _ x (.inr hx)))), ok_names k o.2.2 fun x hx => h x (addsN_sub _ _ x (.inr hx))⟩
where
  addsN_sub : ∀ (ns acc : List Str) (x : Str), x ∈ acc ∨ x ∈ ns → x ∈ ns.foldl addN acc
    | [], acc, x, h => h.elim id fun h => nomatch h
    | n :: r, acc, x, h => addsN_sub r (addN acc n) x (by
      rcases h with h | h
      · left
        unfold addN
        split
        · exact h
        · exact List.mem_append_left _ h
      · rcases List.mem_cons.mp h with rfl | h
        · left
          unfold addN
          split
          · assumption
          · exact List.mem_append_right _ List.mem_cons_self
        · exact .inr h)
theorem newL_at {M : Ms} {H : Hp} {p : Addr} {us : List V} {es : List PyData} (hp : H p = none) (r : RpAll M H us es) : upd H p (.lst us) p = some (.lst us) := upd_same
theorem keepT {M : Ms} {H : Hp} {p a : Addr} {o : HO} {us : List V} {es : List PyData} (hp : H p = none) (r : RpAll M H us es) (e : H a = some o) : upd H p (.tup us) a = some o := same_new hp _ _ e
theorem keepL {M : Ms} {H : Hp} {p a : Addr} {o : HO} {us : List V} {es : List PyData} (hp : H p = none) (r : RpAll M H us es) (e : H a = some o) : upd H p (.lst us) a = some o := same_new hp _ _ e
theorem rows_at {M : Ms} {H : Hp} {p : Addr} {us : List V} {es : List PyData} (hp : H p = none) (r : RpAll M H us es) : RpAll M (upd H p (.lst us)) us es := r.sx (Sx.new hp)
def sp_refused (K : PySem.W.Frag) : Sp := fun vs H Q _ => ∃ b : Addr, vs = [.ref b] ∧ Bag K (one b) H b ∧ ∀ H', Bag K (one b) H' b → Q (.bl true) H'
theorem ok_refused (T : Txt K mg) (U : TManyA K mg w) : FnG P w K mg base CX0 11 T.f__law_forms_refused T.d__law_forms_refused ["_law_bag_here"] (sp_refused K) := by
  have G__law_new_name := ok_newname (P := P) (w := w) (base := base) T
  have G__law_form := ok_form (P := P) (w := w) (base := base) T 4
  have G__law_odd_part := ok_odd (P := P) (w := w) (base := base) T
  have G__law_spoilt := ok_spoilt (P := P) (w := w) (base := base) T 4
  have G__law_read := ok_read (P := P) (w := w) (base := base) T 4
  have G__law_tower := ok_tower (P := P) (w := w) (base := base) T
  have G__law_key_told := ok_told (P := P) (base := base) T U
  refine Fun.okG T.F__law_forms_refused sc__law_forms_refused (fun vs H Q E h => ?_) (fun cdv A outer s H vs Q E gd hr h => ?_)
  · obtain ⟨_, rfl, _⟩ := h
    rfl
  · obtain ⟨b, rfl, hB, q⟩ := h
    refine ⟨_, (pss_cons (ps_set (i := 1) sc__law_forms_refused.nd rfl (Or.inl rfl) (pe_lst (pa_cons pe_str (pa_cons pe_str pa_nil))))
      (pss_cons (ps_set (i := 2) sc__law_forms_refused.nd rfl (Or.inl rfl) (pe_lst (pa_cons (pe_call G__law_new_name (hr.mono (by omega)) (by rfl) T.g__law_new_name T.F__law_new_name.kp T.b__law_new_name .nil pass0 (pa_cons (pv 0) (pa_cons (pv 1) pa_nil))) (pa_cons (pe_call G__law_new_name (hr.mono (by omega)) (by rfl) T.g__law_new_name T.F__law_new_name.kp T.b__law_new_name .nil pass0 (pa_cons (pv 0) (pa_cons (pv 1) pa_nil))) pa_nil))))
      (pss_cons (ps_set (i := 3) sc__law_forms_refused.nd rfl (Or.inl rfl) (pe_call G__law_form (hr.mono (by omega)) (by rfl) T.g__law_form T.F__law_form.kp T.b__law_form .nil pass0 (pa_cons (pv 0) (pa_cons (pe_lst (pa_cons pe_str (pa_cons pe_str pa_nil))) (pa_cons pe_int pa_nil)))))
      (pss_cons (ps_set (i := 4) sc__law_forms_refused.nd rfl (Or.inl rfl) (pe_call G__law_odd_part (hr.mono (by omega)) (by rfl) T.g__law_odd_part T.F__law_odd_part.kp T.b__law_odd_part .nil pass0 (pa_cons (pv 0) (pa_cons (pv 3) pa_nil))))
      (pss_cons (ps_set (i := 5) sc__law_forms_refused.nd rfl (Or.inl rfl) (pe_call G__law_spoilt (hr.mono (by omega)) (by rfl) T.g__law_spoilt T.F__law_spoilt.kp T.b__law_spoilt .nil pass0 (pa_cons (pv 0) (pa_cons (pv 3) (pa_cons (pv 4) pa_nil)))))
      (pss_cons (ps_set (i := 6) sc__law_forms_refused.nd rfl (Or.inl rfl) (pe_call G__law_form (hr.mono (by omega)) (by rfl) T.g__law_form T.F__law_form.kp T.b__law_form .nil pass0 (pa_cons (pv 0) (pa_cons (pe_lst (pa_cons pe_str (pa_cons (pe_ix (ix_listK (K := K) rfl) (pv 2) pe_int (fun _ _ => rfl)) (pa_cons pe_str (pa_cons (pe_ix (ix_listK (K := K) rfl) (pv 2) pe_int (fun _ _ => rfl)) pa_nil))))) (pa_cons pe_int pa_nil)))))
      (pss_cons (ps_setLc (i := 7) (own := [("_law_told", 15)]) (g := gName 15)  (by rfl) sc__law_forms_refused.nd rfl rfl (sw_true rfl rfl rfl (by decide +kernel)) (pi_listK (K := K) rfl (pe_call G__law_read (hr.mono (by omega)) (by rfl) T.g__law_read T.F__law_read.kp T.b__law_read .nil pass0 (pa_cons (pv 6) pa_nil))) (blkOk_by (own := [("_law_told", 15)]) (N := ["_law_bag_here", "_law_used", "_law_foreign", "_law_good", "_law_odd", "_law_spoilt_here", "_law_mixed_here", "_law_strange", "_law_due", "_law_level", "_law_high", "_law_behind", "_law_wanted", "_law_form_here", "_law_result", "_law_told"]) (sc := defScope s__law_forms_refused) (by decide +kernel)) (fun _ _ _ _ _ => (pg_name (i := 15) sc__law_forms_refused.nd rfl (Or.inl rfl))) (fun _ _ _ _ _ => (pts_one (PW.pt (pw_and (pt_cmpR op_ne (pv 15) pe_str (nomark _)) (pw_and1 (pt_cmpR op_ne (pv 15) pe_str (nomark _))))))) (fun _ _ _ _ _ => (pv 15)))
      (pss_cons (ps_set (i := 8) sc__law_forms_refused.nd rfl (Or.inl rfl) (pe_tup (pa_cons pe_str (pa_cons (pe_callB (call_reprV gd (un200 hr)) (by rfl) T.m_repr (by decide +kernel) (pa_cons (pv 6) pa_nil)) pa_nil))))
      (pss_cons (ps_if (pt_truthK (K := K) rfl (pv 7) (by intro _; rfl)) (pss_one (ps_set (i := 8) sc__law_forms_refused.nd rfl (Or.inl rfl) (pe_tup (pa_cons pe_str (pa_cons (pe_callB (call_reprV gd (un200 hr)) (by rfl) T.m_repr (by decide +kernel) (pa_cons (pe_ix (ix_listK (K := K) rfl) (pv 7) pe_int (fun _ _ => rfl)) pa_nil)) pa_nil))))) pss_nil)
      (pss_cons (ps_set (i := 9) sc__law_forms_refused.nd rfl (Or.inl rfl) (pe_call G__law_tower (hr.mono (by omega)) (by rfl) T.g__law_tower T.F__law_tower.kp T.b__law_tower .nil pass0 (pa_cons (pv 0) (pa_cons pe_int (pa_cons (pe_lst (pa_cons pe_str (pa_cons pe_str pa_nil))) pa_nil)))))
      (pss_cons (ps_set (i := 10) sc__law_forms_refused.nd rfl (Or.inl rfl) (pe_call G__law_tower (hr.mono (by omega)) (by rfl) T.g__law_tower T.F__law_tower.kp T.b__law_tower .nil pass0 (pa_cons (pv 0) (pa_cons pe_int (pa_cons (pe_lst (pa_cons pe_str (pa_cons pe_str (pa_cons (pe_ix (ix_listK (K := K) rfl) (pv 2) pe_int (fun _ _ => rfl)) pa_nil)))) pa_nil)))))
      (pss_cons (ps_set (i := 11) sc__law_forms_refused.nd rfl (Or.inl rfl) (pe_tup (pa_cons pe_str (pa_cons (pe_tup (pa_cons pe_str (pa_cons (pe_ix (ix_listK (K := K) rfl) (pv 2) pe_int (fun _ _ => rfl)) pa_nil))) (pa_cons (pv 5) pa_nil)))))
      (pss_cons (ps_set (i := 12) sc__law_forms_refused.nd rfl (Or.inl rfl) (pe_lst (pa_cons (pe_tup (pa_cons (pv 3) (pa_cons (pe_tup (pa_cons pe_str (pa_cons (pe_callB (call_reprV gd (un200 hr)) (by rfl) T.m_repr (by decide +kernel) (pa_cons (pv 3) pa_nil)) pa_nil))) pa_nil))) (pa_cons (pe_tup (pa_cons (pv 5) (pa_cons (pe_tup (pa_cons pe_str (pa_cons (pe_callB (call_reprV gd (un200 hr)) (by rfl) T.m_repr (by decide +kernel) (pa_cons (pv 4) pa_nil)) pa_nil))) pa_nil))) (pa_cons (pe_tup (pa_cons (pv 11) (pa_cons (pe_tup (pa_cons pe_str (pa_cons (pe_callB (call_reprV gd (un200 hr)) (by rfl) T.m_repr (by decide +kernel) (pa_cons (pv 4) pa_nil)) pa_nil))) pa_nil))) pa_nil)))))
      (pss_cons (ps_set (i := 12) sc__law_forms_refused.nd rfl (Or.inl rfl) (pe_op op_cat (pv 12) (pe_lst (pa_cons (pe_tup (pa_cons (pv 6) (pa_cons (pv 8) pa_nil))) (pa_cons (pe_tup (pa_cons (pv 9) (pa_cons (pe_tup (pa_cons pe_str (pa_cons (pe_callB (call_reprV gd (un200 hr)) (by rfl) T.m_repr (by decide +kernel) (pa_cons (pv 9) pa_nil)) pa_nil))) pa_nil))) (pa_cons (pe_tup (pa_cons (pv 10) (pa_cons (pe_tup (pa_cons pe_str (pa_cons (pe_callB (call_reprV gd (un200 hr)) (by rfl) T.m_repr (by decide +kernel) (pa_cons (pv 10) pa_nil)) pa_nil))) pa_nil))) pa_nil))))))
      (pss_cons (ps_for PassesOwn.never rfl (pi_listK (K := K) rfl (pe_op op_cat (pv 12) (pe_slice (sl_listK (K := K) rfl) (pv 12) po_none (po_some pe_int)))) (pg_tupK (K := K) rfl rfl (pgs_cons (pg_name (i := 13) sc__law_forms_refused.nd rfl (Or.inl rfl)) (pgs_cons (pg_name (i := 14) sc__law_forms_refused.nd rfl (Or.inl rfl)) pgs_nil))) (pss_one (ps_if (pt_cmpR (op_neSm (K := K) rfl (have z := hu65 hr; Nat.lt_of_le_of_lt (Nat.le_add_right _ 65) z)) (pe_callG G__law_key_told gd (hr.mono (by omega)) (by rfl) T.g__law_key_told T.F__law_key_told.kp T.b__law_key_told pass0 (pa_cons (pv 13) pa_nil)) (pv 14) (nomark _)) (pss_one (ps_ret pe_bl)) pss_nil)))
      (pss_one (ps_ret pe_bl))))))))))))))))), ?_⟩
    walk_at "g"
    refine ⟨szK rfl, fun u hu => ?_⟩
    have ub : u ≠ b := fun z => hB.there (by rw [← z]; exact hu)
    have eu1 : upd H u (.lst [.str (Str.ofString "item"), .str (Str.ofString "at")]) u = some (.lst (([Str.ofString "item", Str.ofString "at"] : List Str).map V.str)) := upd_same
    have hB1 : Bag K (also (one b) u) (upd H u (.lst [.str (Str.ofString "item"), .str (Str.ofString "at")])) b := (hB.more hu).same (same_new hu)
    have hM1 : Mk (also (one b) u) (upd H u (.lst [.str (Str.ofString "item"), .str (Str.ofString "at")])) := fun c z => by
      rcases z with z | z
      · rw [show c = b from z]; exact hB1.there
      · rw [show c = u from z]; exact upd_there
    have okI : ∀ z ∈ [Str.ofString "item", Str.ofString "at"], okN z := fun z hz => by
      simp only [List.mem_cons, List.not_mem_nil, or_false] at hz
      rcases hz with rfl | rfl
      · exact ⟨by decide +kernel, by decide +kernel, (by decide +kernel : ∀ c ∈ sg (Str.ofString "item"), 97 ≤ c ∧ c ≤ 122)⟩
      · exact ⟨by decide +kernel, by decide +kernel, (by decide +kernel : ∀ c ∈ sg (Str.ofString "at"), 97 ≤ c ∧ c ≤ 122)⟩
    generalize upd H u (.lst [.str (Str.ofString "item"), .str (Str.ofString "at")]) = H1 at eu1 hB1 hM1
    walk_at "g"
    refine ⟨b, u, _, _, rfl, hB1, hM1, .inr rfl, ub, eu1, by simp, okI, fun H2 n1 s2 g2 hB2 eu2 ok1 ni1 => ?_⟩
    walk_at "g"
    refine ⟨b, u, _, _, rfl, hB2, hM1.gr g2, .inr rfl, ub, eu2, by simp, fun z hz => (List.mem_append.mp hz).elim (okI z) (fun h => by rw [List.mem_singleton.mp h]; exact ok1), fun H3 n2 s3 g3 hB3 eu3 ok2 ni2 => ?_⟩
    have hB3 : Bag K (one b) H3 b := hB3.less rfl fun a z => .inl z
    have E0 : Ds K (one b) b H3 [] [] := ⟨hB3, fun a z => (by rw [show a = b from z]; exact hB3.there), .nil⟩
    clear eu3 eu2 eu1 s3 g3 s2 g2 hM1 hB1 hB2 hB3
    refine ⟨szK rfl, fun f hf => ?_⟩
    have E : Ds K (one b) b _ _ [.list [.str n1, .str n2]] := E0.lst hf (.cons (.str n1) (.one (.str n2)))
    have ef : upd H3 f (.lst [.str n1, .str n2]) f = some (.lst [.str n1, .str n2]) := upd_same
    have fb : f ≠ b := fun z => E0.bag.there (by rw [← z]; exact hf)
    generalize upd H3 f (.lst [.str n1, .str n2]) = H4 at E ef
    walk_at "g"
    refine ⟨szK rfl, fun p1 hp1 => ?_⟩
    have E := E.lst hp1 (RpAll.strs [Str.ofString "item", Str.ofString "at"])
    have ef := same_new hp1 (o := .lst [.str (Str.ofString "item"), .str (Str.ofString "at")]) _ _ ef
    refine ⟨b, .ref p1, 4, _, one b, rfl, E.bag, E.ok, E.at' 0 rfl rfl, by simp, by decide, by omega, by omega, fun v1 H5 d1 s5 g5 hB5 r5 hd5 => ?_⟩
    obtain ⟨fg, rfl, dg, og⟩ := hd5
    have E := E.draw s5 g5 hB5 r5
    have ef := s5 _ _ fb ef
    have ogK : fg.ok isKN := fg.ok_imp (fun x hx => by
      simp only [List.mem_cons, List.not_mem_nil, or_false] at hx
      exact hx) og
    have ogN := fg.ok_imp isKN_nm ogK
    clear s5 g5 hB5 r5
    walk_at "g"
    refine ⟨b, v1, fg, one b, rfl, E.bag, E.ok, E.at' 0 rfl rfl, ogN, by omega, fun v2 H6 d2 s6 g6 hB6 r6 hd6 => ?_⟩
    have E := E.draw s6 g6 hB6 r6
    have ef := s6 _ _ fb ef
    clear s6 g6 hB6 r6
    walk_at "g"
    refine ⟨b, v1, v2, fg, d2, one b, rfl, E.bag, E.ok, E.at' 1 rfl rfl, ogN, by omega, by omega, E.at' 0 rfl rfl, hd6, fun v3 H7 d3 s7 g7 hB7 r7 hd7 => ?_⟩
    have E := E.draw s7 g7 hB7 r7
    have ef := s7 _ _ fb ef
    clear s7 g7 hB7 r7
    walk_at "g"
    refine ⟨szK rfl, fun p2 hp2 => ?_⟩
    have E := E.lst hp2 (RpAll.strs [Str.ofString "item", n1, Str.ofString "at", n2])
    have ef := same_new hp2 (o := .lst [.str (Str.ofString "item"), .str n1, .str (Str.ofString "at"), .str n2]) _ _ ef
    refine ⟨b, .ref p2, 4, _, one b, rfl, E.bag, E.ok, E.at' 0 rfl rfl, by simp, (by show 4 < 1000000; decide), by omega, by omega, fun v4 H8 d4 s8 g8 hB8 r8 hd8 => ?_⟩
    obtain ⟨fm, rfl, dm, om⟩ := hd8
    have E := E.draw s8 g8 hB8 r8
    have ef := s8 _ _ fb ef
    have omN : fm.ok isNm := fm.ok_imp (fun x hx => by
      simp only [List.mem_cons, List.not_mem_nil, or_false] at hx
      rcases hx with rfl | rfl | rfl | rfl
      · exact okN_nm (okI _ List.mem_cons_self)
      · exact okN_nm ok1
      · exact okN_nm (okI _ (List.mem_cons_of_mem _ List.mem_cons_self))
      · exact okN_nm ok2) om
    clear s8 g8 hB8 r8
    walk_at "g"
    refine ⟨v4, fm, one b, rfl, E.at' 0 rfl rfl, E.ok, by omega, by omega, fun H9 pr s9 hpr epr => ?_⟩
    have E := E.same s9
    have ef := s9 _ _ ef
    clear s9
    refine ⟨pr, rfl, ⟨_, SqL.of epr⟩, fun D hD => ?_⟩
    have lg : fm.names.length ≤ 10000 := by
      have := fm.names_len
      have := Fm.size_le 4 fm (by omega)
      omega
    refine list_loop (K := K) (a := pr) (xs := fm.names.map V.str) (fun j H' => Same H9 H' ∧ H' D = some (.lst (((fm.names.take j).filter fun x => !inV (.str x) [.str sItem, .str sAt]).map V.str))) ⟨same_new hD, upd_same⟩ (fun j H' _ p => SqL.of (p.1 _ _ epr)) (fun j y H5 hy p => ?_) (fun H10 p => ?_)
    · obtain ⟨s5, eD⟩ := p
      rw [List.getElem?_map] at hy
      obtain ⟨nm, hn, rfl⟩ := Option.map_eq_some_iff.mp hy
      refine ⟨rfl, ?_⟩
      walk_at "g"
      have lf : ((fm.names.take j).filter fun x => !inV (.str x) [.str sItem, .str sAt]).length ≤ 10000 := by
        have h1 := List.length_filter_le (fun x => !inV (.str x) [.str sItem, .str sAt]) (fm.names.take j)
        rw [List.length_take] at h1
        omega
      have nxt : ((fm.names.take (j + 1)).filter fun x => !inV (.str x) [.str sItem, .str sAt]) = ((fm.names.take j).filter fun x => !inV (.str x) [.str sItem, .str sAt]) ++ ([nm].filter fun x => !inV (.str x) [.str sItem, .str sAt]) := by
        rw [List.take_add_one, hn, Option.toList_some, List.filter_append]
      by_cases c1 : nm = sItem
      · rw [decide_eq_true (show V.str nm = V.str (Str.ofString "item") by rw [c1]; rfl)]
        walk_at "g"
        refine ⟨s5, ?_⟩
        rw [nxt, kn_out (.inl c1), List.append_nil]
        exact eD
      rw [decide_eq_false (show ¬ V.str nm = V.str (Str.ofString "item") from fun z => c1 (by injection z))]
      walk_at "g"
      by_cases c2 : nm = sAt
      · rw [decide_eq_true (show V.str nm = V.str (Str.ofString "at") by rw [c2]; rfl)]
        walk_at "g"
        refine ⟨s5, ?_⟩
        rw [nxt, kn_out (.inr c2), List.append_nil]
        exact eD
      rw [decide_eq_false (show ¬ V.str nm = V.str (Str.ofString "at") from fun z => c2 (by injection z))]
      walk_at "g"
      refine ⟨_, eD, small1000000 (by rw [List.length_map]; omega), same_put s5 hD, ?_⟩
      rw [upd_same, nxt, kn_in c1 c2, List.map_append]
      rfl
    obtain ⟨s10, eD⟩ := p
    rw [List.length_map, List.take_of_length_le (Nat.le_refl _)] at eD
    have E := E.same s10
    have ef := s10 _ _ ef
    have E : Ds K (one b) b H10 [v4, v3, v2, v1] [fm.enc, d3, d2, fg.enc] := ⟨E.bag, E.ok, .cons (E.at' 0 rfl rfl) (.cons (E.at' 2 rfl rfl) (.cons (E.at' 3 rfl rfl) (.one (E.at' 4 rfl rfl))))⟩
    have hst : (fm.names.filter fun x => !inV (.str x) [.str sItem, .str sAt]).head? = strange fm.names := List.head?_filter
    generalize (fm.names.filter fun x => !inV (.str x) [.str sItem, .str sAt]) = st at eD hst
    clear s10 hpr epr lg
    have SHm := (fm_gdE omN (by omega) (by have := Fm.size_le 5 fm (by omega); have e5 : 4 ^ 5 = 1024 := by decide
                                           omega)).showing (by omega) (by omega)
    walk_at "g"
    refine ⟨_, _, rfl, Rp.dp (K := K) _ _ (E.at' 0 rfl rfl), SHm.1, SHm.2.1, SHm.2.2.1, SHm.2.2.2, ?_⟩
    refine ⟨szK rfl, fun p5 hp5 => ?_⟩
    have E := E.tup hp5 (.cons (.str (Str.ofString "good")) (.one (.str fm.enc.shown)))
    have ef := same_new hp5 (o := .tup [.str (Str.ofString "good"), .str fm.enc.shown]) _ _ ef
    have eD := same_new hp5 (o := .tup [.str (Str.ofString "good"), .str fm.enc.shown]) _ _ eD
    generalize upd H10 p5 (.tup [.str (Str.ofString "good"), .str fm.enc.shown]) = H11 at E ef eD
    dsimp only [gName]
    with_reducible refine seq_join (fun σ3 H' => ∃ (vd : V) (wd : Str) (e : PyData), σ3 = [some (.ref b), some (.ref u), some (.ref f), some v1, some v2, some v3, some v4, some (.ref D), some vd, none, none, none, none, none, none, none] ∧ Ds K (one b) b H' [vd, v4, v3, v2, v1] [.tuple [.str wd, .str e.shown], fm.enc, d3, d2, fg.enc] ∧ PairOk fm.enc wd e ∧ H' f = some (.lst [.str n1, .str n2])) (fun hN => ?_) (fun σ H12 c => ?_)
    · walk_at "g"
      refine ⟨!(st.map V.str).isEmpty, .inl ⟨_, SqL.of eD, rfl⟩, ?_⟩
      cases st with
      | nil =>
        exact hN _ _ ⟨_, _, _, rfl, E, good_pair (ok_names fm omN (strange_kn omN hst.symm)) (by omega), ef⟩
      | cons x0 r0 =>
        have hs : strange fm.names = some x0 := hst.symm
        have hx : isNm x0 := Fm.names_ok fm omN x0 (List.mem_of_find?_eq_some hs)
        have SHx := (nm_gd hx).showing (by omega) (by omega)
        walk_at "g"
        refine ⟨_, _, _, _, rfl, rfl, SqL.of eD, atI_nat (j := 0) rfl, ?_⟩
        refine ⟨_, _, rfl, .str x0, SHx.1, SHx.2.1, SHx.2.2.1, SHx.2.2.2, ?_⟩
        refine ⟨szK rfl, fun p6 hp6 => ?_⟩
        have E := E.tail.tup hp6 (.cons (.str (Str.ofString "NoName")) (.one (.str (PyData.str x0).shown)))
        have ef := same_new hp6 (o := .tup [.str (Str.ofString "NoName"), .str (PyData.str x0).shown]) _ _ ef
        exact hN _ _ ⟨_, _, _, rfl, E, mixed_pair omN (by omega) hs, ef⟩
    obtain ⟨vd, wd, e, rfl, E, hpm, ef⟩ := c
    walk_at "g"
    refine ⟨szK rfl, fun p6 hp6 => ?_⟩
    have E := E.lst hp6 (RpAll.strs [Str.ofString "item", Str.ofString "at"])
    have ef := same_new hp6 (o := .lst [.str (Str.ofString "item"), .str (Str.ofString "at")]) _ _ ef
    refine ⟨b, .ref p6, 5, _, one b, rfl, E.bag, E.ok, E.at' 0 rfl rfl, by simp, by decide, by omega, by omega, fun v5 H13 d5 s13 g13 hB13 r13 hd13 => ?_⟩
    obtain ⟨f5, rfl, dp5, o5, z5⟩ := hd13
    have E := E.tail.draw s13 g13 hB13 r13
    have ef := s13 _ _ fb ef
    clear s13 g13 hB13 r13
    walk_at "g"
    refine ⟨szK rfl, fun p7 hp7 => ?_⟩
    have E := E.lst hp7 (RpAll.strs [Str.ofString "item", Str.ofString "at", n1])
    have ef := same_new hp7 (o := .lst [.str (Str.ofString "item"), .str (Str.ofString "at"), .str n1]) _ _ ef
    refine ⟨b, .ref p7, 6, _, one b, rfl, E.bag, E.ok, E.at' 0 rfl rfl, by simp, (by show 3 < 1000000; decide), by omega, by omega, fun v6 H14 d6 s14 g14 hB14 r14 hd14 => ?_⟩
    obtain ⟨f6, rfl, dp6, o6, z6⟩ := hd14
    have E := E.tail.draw s14 g14 hB14 r14
    have ef := s14 _ _ fb ef
    clear s14 g14 hB14 r14
    have o5K : f5.ok isKN := f5.ok_imp (fun x hx => by
      simp only [List.mem_cons, List.not_mem_nil, or_false] at hx
      exact hx) o5
    have o6N : f6.ok isNm := f6.ok_imp (fun x hx => by
      simp only [List.mem_cons, List.not_mem_nil, or_false] at hx
      rcases hx with rfl | rfl | rfl
      · exact okN_nm (okI _ List.mem_cons_self)
      · exact okN_nm (okI _ (List.mem_cons_of_mem _ List.mem_cons_self))
      · exact okN_nm ok1) o6
    have gdg : Gd 100000 30 fg.enc := fm_gdE ogN (by omega) (by have := Fm.size_le 5 fg (by omega); have e5 : 4 ^ 5 = 1024 := by decide
                                                                omega)
    have gd5 : Gd 100000 30 f5.enc := fm_gdE (f5.ok_imp isKN_nm o5K) (by omega) (by omega)
    have gd6 : Gd 100000 30 f6.enc := fm_gdE o6N (by omega) (by omega)
    have SHg := gdg.showing (by omega) (by omega)
    have SHo := hd6.2.2.showing (by omega) (by omega)
    have SH5 := gd5.showing (by omega) (by omega)
    have SH6 := gd6.showing (by omega) (by omega)
    have sp5 : SpD 5 d2 (.tuple [.str (Str.ofString "sum"), .tuple [.str (Str.ofString "get"), .str n1], d3]) := sp_step (f := .sum (.get n1) fg) (n := 4) (j := 1) (by simp [Fm.subs]) (by simp [Fm.subs]) ⟨okN_nm ok1, ogN⟩ (by show max 1 fg.dep + 1 ≤ 5; omega) (by omega) hd7
    have P1 := good_pair ogK (by omega)
    have P2 := bad_pair hd7 hd6 (by omega)
    have P3 := bad_pair sp5 hd6 (by omega)
    have P5 := good_pair o5K (by omega)
    have P6 := high_pair o6N (by omega) (by omega)
    walk_at "g"
    refine ⟨szK rfl, fun p8 hp8 => ?_⟩
    have E := E.tup hp8 (.cons (.str (Str.ofString "get")) (.one (.str n1)))
    walk_at "g"
    refine ⟨szK rfl, fun p9 hp9 => ?_⟩
    have E := E.tup hp9 (.cons (.str (Str.ofString "sum")) (.cons (E.at' 0 rfl rfl) (.one (E.at' 5 rfl rfl))))
    walk_at "g"
    refine ⟨_, _, rfl, Rp.dp (K := K) _ _ (E.at' 8 rfl rfl), SHg.1, SHg.2.1, SHg.2.2.1, SHg.2.2.2, ?_⟩
    refine ⟨szK rfl, fun q1 hq1 => ?_⟩
    have E := E.tup hq1 (.cons (.str (Str.ofString "good")) (.one (.str fg.enc.shown)))
    refine ⟨szK rfl, fun q2 hq2 => ?_⟩
    have E := E.tup hq2 (.cons (E.at' 9 rfl rfl) (.one (E.at' 0 rfl rfl)))
    walk_at "g"
    refine ⟨_, _, rfl, Rp.dp (K := K) _ _ (E.at' 9 rfl rfl), SHo.1, SHo.2.1, SHo.2.2.1, SHo.2.2.2, ?_⟩
    refine ⟨szK rfl, fun q3 hq3 => ?_⟩
    have E := E.tup hq3 (.cons (.str (Str.ofString "BadForm")) (.one (.str d2.shown)))
    refine ⟨szK rfl, fun q4 hq4 => ?_⟩
    have E := E.tup hq4 (.cons (E.at' 9 rfl rfl) (.one (E.at' 0 rfl rfl)))
    walk_at "g"
    refine ⟨_, _, rfl, Rp.dp (K := K) _ _ (E.at' 11 rfl rfl), SHo.1, SHo.2.1, SHo.2.2.1, SHo.2.2.2, ?_⟩
    refine ⟨szK rfl, fun q5 hq5 => ?_⟩
    have E := E.tup hq5 (.cons (.str (Str.ofString "BadForm")) (.one (.str d2.shown)))
    refine ⟨szK rfl, fun q6 hq6 => ?_⟩
    have E := E.tup hq6 (.cons (E.at' 5 rfl rfl) (.one (E.at' 0 rfl rfl)))
    refine ⟨szK rfl, fun W1 hW1 => ?_⟩
    have r : RpAll (one b) _ _ _ := .cons (E.at' 4 rfl rfl) (.cons (E.at' 2 rfl rfl) (.one (E.at' 0 rfl rfl)))
    have eW := newL_at hW1 r
    have E := E.lst hW1 r
    clear r
    walk_at "g"
    refine ⟨szK rfl, fun q7 hq7 => ?_⟩
    have r : RpAll (one b) _ _ _ := .cons (E.at' 12 rfl rfl) (.one (E.at' 11 rfl rfl))
    have eW := keepT hq7 r eW
    have E := E.tup hq7 r
    clear r
    walk_at "g"
    refine ⟨_, _, rfl, Rp.dp (K := K) _ _ (E.at' 11 rfl rfl), SH5.1, SH5.2.1, SH5.2.2.1, SH5.2.2.2, ?_⟩
    refine ⟨szK rfl, fun q8 hq8 => ?_⟩
    have eW := keepT (M := one b) hq8 (.cons (.str (Str.ofString "good")) (.one (.str f5.enc.shown))) eW
    have E := E.tup hq8 (.cons (.str (Str.ofString "good")) (.one (.str f5.enc.shown)))
    refine ⟨szK rfl, fun q9 hq9 => ?_⟩
    have r : RpAll (one b) _ _ _ := .cons (E.at' 12 rfl rfl) (.one (E.at' 0 rfl rfl))
    have eW := keepT hq9 r eW
    have E := E.tup hq9 r
    clear r
    walk_at "g"
    refine ⟨_, _, rfl, Rp.dp (K := K) _ _ (E.at' 12 rfl rfl), SH6.1, SH6.2.1, SH6.2.2.1, SH6.2.2.2, ?_⟩
    refine ⟨szK rfl, fun q10 hq10 => ?_⟩
    have eW := keepT (M := one b) hq10 (.cons (.str (Str.ofString "BadForm")) (.one (.str f6.enc.shown))) eW
    have E := E.tup hq10 (.cons (.str (Str.ofString "BadForm")) (.one (.str f6.enc.shown)))
    refine ⟨szK rfl, fun q11 hq11 => ?_⟩
    have r : RpAll (one b) _ _ _ := .cons (E.at' 13 rfl rfl) (.one (E.at' 0 rfl rfl))
    have eW := keepT hq11 r eW
    have E := E.tup hq11 r
    clear r
    refine ⟨szK rfl, fun W2 hW2 => ?_⟩
    have r : RpAll (one b) _ _ _ := .cons (E.at' 4 rfl rfl) (.cons (E.at' 2 rfl rfl) (.one (E.at' 0 rfl rfl)))
    have eW := keepL hW2 r eW
    have eW2 := newL_at hW2 r
    have E := E.lst hW2 r
    clear r
    refine ⟨W1, W2, _, _, rfl, rfl, eW, eW2, szK rfl, fun W3 hW3 => ?_⟩
    have r : RpAll (one b) _ ([.ref q2, .ref q4, .ref q6] ++ [.ref q7, .ref q9, .ref q11]) _ := .append (.cons (E.at' 11 rfl rfl) (.cons (E.at' 9 rfl rfl) (.one (E.at' 7 rfl rfl)))) (.cons (E.at' 5 rfl rfl) (.cons (E.at' 3 rfl rfl) (.one (E.at' 1 rfl rfl))))
    have eW3 := newL_at hW3 r
    have E := E.lst hW3 r
    clear r
    have R : RpAll (one b) _ [.ref q2, .ref q4, .ref q6, .ref q7, .ref q9, .ref q11] ([(fg.enc, sGood, fg.enc), (d3, sBadForm, d2), (.tuple [.str (Str.ofString "sum"), .tuple [.str (Str.ofString "get"), .str n1], d3], sBadForm, d2), (fm.enc, wd, e), (f5.enc, sGood, f5.enc), (f6.enc, sBadForm, f6.enc)].map pairE) := .cons (E.at' 12 rfl rfl) (.cons (E.at' 10 rfl rfl) (.cons (E.at' 8 rfl rfl) (.cons (E.at' 6 rfl rfl) (.cons (E.at' 4 rfl rfl) (.one (E.at' 2 rfl rfl))))))
    have E : Ds K (one b) b _ _ _ := ⟨E.bag, E.ok, R⟩
    clear R eW2 eW ef
    have PO : ∀ p ∈ ([(fg.enc, sGood, fg.enc), (d3, sBadForm, d2), (.tuple [.str (Str.ofString "sum"), .tuple [.str (Str.ofString "get"), .str n1], d3], sBadForm, d2), (fm.enc, wd, e), (f5.enc, sGood, f5.enc), (f6.enc, sBadForm, f6.enc)] ++ [(fg.enc, sGood, fg.enc)] : List (PyData × Str × PyData)), PairOk p.1 p.2.1 p.2.2 := fun p hp => by
      simp only [List.cons_append, List.nil_append, List.mem_cons, List.not_mem_nil, or_false] at hp
      rcases hp with rfl | rfl | rfl | rfl | rfl | rfl | rfl
      · exact P1
      · exact P2
      · exact P3
      · exact hpm
      · exact P5
      · exact P6
      · exact P1
    walk_at "g"
    refine ⟨W3, _, rfl, SqL.of eW3, fun W4 hW4 => ?_⟩
    have ec : cutV ([.ref q2, .ref q4, .ref q6] ++ [.ref q7, .ref q9, .ref q11]) none (some (1 : Int)) = [.ref q2] := by rw [show (1 : Int) = ((1 : Nat) : Int) from rfl, cut_hi]; rfl
    rw [ec]
    have r : RpAll (one b) _ [.ref q2] ([(fg.enc, sGood, fg.enc)].map pairE) := .one (E.at' 0 rfl rfl)
    have eW3 := keepL hW4 r eW3
    have eW4 := newL_at hW4 r
    have E := E.lst hW4 r
    clear r
    refine ⟨W3, W4, _, _, rfl, rfl, eW3, eW4, szK rfl, fun W5 hW5 => ?_⟩
    have r : RpAll (one b) _ ([.ref q2, .ref q4, .ref q6] ++ [.ref q7, .ref q9, .ref q11] ++ [.ref q2]) (([(fg.enc, sGood, fg.enc), (d3, sBadForm, d2), (.tuple [.str (Str.ofString "sum"), .tuple [.str (Str.ofString "get"), .str n1], d3], sBadForm, d2), (fm.enc, wd, e), (f5.enc, sGood, f5.enc), (f6.enc, sBadForm, f6.enc)] ++ [(fg.enc, sGood, fg.enc)]).map pairE) := .append (E.tail).all (.one (E.at' 1 rfl rfl))
    have eW5 := newL_at hW5 r
    have RR := rows_at hW5 r
    have E := E.lst hW5 r
    clear r eW3 eW4
    refine ⟨W5, rfl, ⟨_, SqL.of eW5⟩, ?_⟩
    refine for_list (K := K) (a := W5) (xs := _) (fun i σ H' => (∃ y13 y14, σ = [some (.ref b), some (.ref u), some (.ref f), some v1, some v2, some v3, some v4, some (.ref D), some vd, some v5, some v6, some (.ref p9), some (.ref W3), y13, y14, none]) ∧ Same _ H') ⟨⟨_, _, rfl⟩, Same.refl _⟩ (fun i σ H' _ p => SqL.of (p.2 _ _ eW5)) (fun i x σ H' hx p => ?_) (fun σ H' p => ?_)
    · obtain ⟨⟨y13, y14, rfl⟩, s⟩ := p
      obtain ⟨dd, hd, rx⟩ := RR.get hx
      rw [List.getElem?_map] at hd
      obtain ⟨pp, hp, rfl⟩ := Option.map_eq_some_iff.mp hd
      obtain ⟨m0, k1, k2, k3, k4⟩ := PO pp (List.mem_of_getElem? hp)
      obtain ⟨t, xs, rfl, nt, ht, rr⟩ := Rp.tupN rx
      obtain ⟨x1, x2, rfl, r1, r2⟩ := rr.inv2
      refine ⟨t, _, rfl, .inl (same_rd s ht), rfl, _, _, rfl, _, _, rfl, rfl, ?_⟩
      walk_at "g"
      refine ⟨x1, pp.1, one b, m0, pp.2.1, pp.2.2, rfl, r1.sx (Sx.same s), E.ok.gr (Gr.same s), k1, k2, k3, k4, fun v' H2 s2 r' => ?_⟩
      obtain ⟨c1, xs1, rfl, _, hc1, q1⟩ := Rp.tupN r'
      obtain ⟨z1, z2, rfl, w1, w2⟩ := q1.inv2
      cases w1
      cases w2
      obtain ⟨c2, xs2, rfl, _, hc2, q2⟩ := Rp.tupN ((r2.sx (Sx.same s)).sx (Sx.same s2))
      obtain ⟨z1, z2, rfl, w1, w2⟩ := q2.inv2
      cases w1
      cases w2
      walk_at "g"
      refine ⟨c1, c2, _, rfl, rfl, .inl hc1, .inl hc2, rfl, ?_⟩
      walk_at "g"
      exact ⟨⟨_, _, rfl⟩, s.trans s2⟩
    · obtain ⟨⟨y13, y14, rfl⟩, s⟩ := p
      walk_at "g"
      exact q _ (E.bag.same s)
end
end D

namespace D
open PySem PySem.Spec PyProof.Rows L2
local macro_rules | `(tactic| walk_at "st") => `(tactic| first | exact SqT.of (by assumption) | exact Or.inl (by assumption) | exact SqT.of upd_same | fail "st")
local macro_rules | `(tactic| walk_at "ixt") => `(tactic| refine ⟨_, _, _, _, rfl, rfl, (by walk_at "st" : SqT _ _ _ _), by rfl, ?_⟩)
local macro_rules | `(tactic| walk_at "sq") => `(tactic| first | exact SqL.of (by assumption) | assumption | exact Or.inl (by assumption) | exact SqL.of upd_same | fail "sq")
local macro_rules | `(tactic| walk_at "ix") => `(tactic| refine ⟨_, _, _, _, rfl, rfl, (by walk_at "sq" : SqL _ _ _ _), by rfl, ?_⟩)
local macro_rules | `(tactic| walk_at "set") => `(tactic| refine ⟨_, _, _, _, rfl, rfl, by first | assumption | exact upd_same, by rfl, ?_⟩)
local macro_rules | `(tactic| walk_at "len") => `(tactic| refine ⟨_, _, rfl, Or.inl (by walk_at "sq" : SqL _ _ _ _), ?_⟩)
local macro_rules | `(tactic| walk_at "g") => `(tactic| repeat (first | refine ⟨_, rfl, ?_⟩ | refine ⟨_, _, rfl, rfl, ?_⟩ | refine ⟨Or.inr (by decide), ?_⟩ | refine ⟨Or.inl (by decide), ?_⟩ | refine ⟨(by decide : (0 : Int) < _), ?_⟩ | refine ⟨(⟨by decide, by decide⟩ : CDiv _ _), ?_⟩ | refine ⟨(⟨by decide, by decide, by decide⟩ : CPow _ _), ?_⟩ | refine Or.inl ⟨_, rfl, ?_⟩ | refine ⟨rfl, ?_⟩ | walk_at "ix" | walk_at "ixt" | walk_at "len" | fail "g"))
local macro_rules | `(tactic| walk_at "if") => `(tactic| refine ite2 (fun e => ?_) (fun e => ?_))
section
variable {P : Program} {w : World} {K : PySem.W.Frag} {mg : Str → Option Value} {base : Heap}
theorem KeyAt.less {C : Addr} {M N : Ms} {H : Hp} {k : V} {f : Fm} (h : KeyAt C M H k f) (le : ∀ a, N a → M a) : KeyAt C N H k f := by
  obtain ⟨a, dx, u, e, n, ha, r, g⟩ := h
  exact ⟨a, dx, u, e, fun z => n (le _ z), ha, r.less le, g⟩
theorem ItF.fresh {M : Ms} {H : Hp} {x : V} {o : Option PyData} {p : Addr} (hp : H p = none) (h : ItF M H x o) : ItF (also M p) H x o := by
  cases o with
  | none =>
    obtain ⟨ns, r, g⟩ := h
    exact ⟨ns, r.fresh hp, g⟩
  | some d => exact ⟨h.1.fresh hp, h.2⟩
theorem ItF.less {M N : Ms} {H : Hp} {x : V} {o : Option PyData} (h : ItF M H x o) (f : ∀ a, N a → M a) : ItF N H x o := by
  cases o with
  | none =>
    obtain ⟨ns, r, g⟩ := h
    exact ⟨ns, r.less f, g⟩
  | some d => exact ⟨h.1.less f, h.2⟩
theorem ItsF.imp {M N : Ms} {H H' : Hp} {xs : List V} {bs : List (Option PyData)} (h : ItsF M H xs bs) (f : ∀ x o, ItF M H x o → ItF N H' x o) : ItsF N H' xs bs := ⟨h.1, fun i x e => by
  obtain ⟨b, e1, r⟩ := h.2 i x e
  exact ⟨b, e1, f _ _ r⟩⟩
theorem ItsF.snoc {M : Ms} {H : Hp} {xs : List V} {bs : List (Option PyData)} {x : V} {o : Option PyData} (h : ItsF M H xs bs) (r : ItF M H x o) : ItsF M H (xs ++ [x]) (bs ++ [o]) := ⟨by rw [List.length_append, List.length_append, h.1]; rfl, fun i y e => by
  by_cases c : i < xs.length
  · rw [List.getElem?_append_left c] at e
    rw [List.getElem?_append_left (by rw [← h.1]; exact c)]
    exact h.2 i y e
  · rw [List.getElem?_append_right (by omega)] at e
    have : i - xs.length = 0 := by
      have := (List.getElem?_eq_some_iff.mp e).1
      rw [List.length_singleton] at this
      omega
    rw [this] at e
    cases e
    rw [List.getElem?_append_right (by rw [← h.1]; omega), ← h.1, this]
    exact ⟨o, rfl, r⟩⟩
theorem ItsF.set {M : Ms} {H : Hp} {xs : List V} {bs : List (Option PyData)} {x : V} {o : Option PyData} (h : ItsF M H xs bs) (r : ItF M H x o) (j : Nat) : ItsF M H (xs.set j x) (bs.set j o) := ⟨by rw [List.length_set, List.length_set, h.1], fun i y e => by
  rw [List.getElem?_set] at e ⊢
  by_cases c : j = i
  · rw [if_pos c] at e ⊢
    by_cases k : j < xs.length
    · rw [if_pos (by omega)] at e
      cases e
      rw [if_pos (by rw [← h.1]; omega)]
      exact ⟨o, rfl, r⟩
    · rw [if_neg (by omega)] at e
      cases e
  · rw [if_neg c] at e ⊢
    exact h.2 i y e⟩
theorem first_at : ∀ {bs : List (Option PyData)} {i : Nat} {d : PyData}, (∀ j, j < i → bs[j]? = some none) → bs[i]? = some (some d) → firstO bs = some d
  | [], i, d, _, e => by simp at e
  | b :: r, 0, d, _, e => by
    cases e
    rfl
  | b :: r, i + 1, d, h, e => by
    have h0 := h 0 (by omega)
    cases h0
    exact first_at (bs := r) (i := i) (fun j hj => h (j + 1) (by omega)) e
theorem first_none (n : Nat) : firstO (List.replicate n none) = none := by
  unfold firstO
  rw [List.findSome?_eq_none_iff]
  intro x hx
  rw [(List.mem_replicate.mp hx).2]
  rfl
theorem same_free {H H' : Hp} {p : Addr} (s : Same H H') (h : H' p = none) : H p = none := by
  cases e : H p with
  | none => rfl
  | some o =>
    rw [s _ _ e] at h
    cases h
def cnts (a c : Int) : List V := [.int 1, .int 2, .int 2, .int 2, .int (1 + a), .int (1 + c)]
theorem cnt_at {a c : Int} {i : Nat} (hi : i < 6) (a0 : 0 ≤ a) (a4 : a < 4) (c0 : 0 ≤ c) (c4 : c < 4) : ∃ n : Nat, (cnts a c)[i]? = some (.int (n : Nat)) ∧ lenFor (i : Nat) n ∧ 1 ≤ n ∧ n ≤ 4 := by
  obtain ⟨p, rfl⟩ : ∃ p : Nat, a = (p : Int) := ⟨a.toNat, by omega⟩
  obtain ⟨q, rfl⟩ : ∃ q : Nat, c = (q : Int) := ⟨c.toNat, by omega⟩
  match i, hi with
  | 0, _ => exact ⟨1, rfl, .inl ⟨rfl, rfl⟩, by omega, by omega⟩
  | 1, _ => exact ⟨2, rfl, .inr (.inl ⟨.inl rfl, rfl⟩), by omega, by omega⟩
  | 2, _ => exact ⟨2, rfl, .inr (.inl ⟨.inr (.inl rfl), rfl⟩), by omega, by omega⟩
  | 3, _ => exact ⟨2, rfl, .inr (.inl ⟨.inr (.inr rfl), rfl⟩), by omega, by omega⟩
  | 4, _ => exact ⟨1 + p, by show some (V.int _) = some (V.int _); rw [show (1 : Int) + (p : Int) = ((1 + p : Nat) : Int) by omega], .inr (.inr ⟨.inl rfl, by omega, by omega⟩), by omega, by omega⟩
  | 5, _ => exact ⟨1 + q, by show some (V.int _) = some (V.int _); rw [show (1 : Int) + (q : Int) = ((1 + q : Nat) : Int) by omega], .inr (.inr ⟨.inr rfl, by omega, by omega⟩), by omega, by omega⟩
def sp_law (K : PySem.W.Frag) : Sp := fun vs H Q _ => ∃ (a : Addr) (ns : List Int), vs = [.ref a] ∧ SqL K H a (ns.map V.int) ∧ ns.length ≤ 63 ∧ ∀ H', Q (.bl true) H'
theorem ok_law (T : Txt K mg) (U : TManyA K mg w) : FnG P w K mg base CX0 16 T.f_law T.d_law ["_law_script"] (sp_law K) := by
  have G__law_bag := ok_bag (P := P) (w := w) (base := base) T
  have G__law_pick := ok_pick (P := P) (w := w) (base := base) T
  have G__law_any_key := ok_anyKey (P := P) (w := w) (base := base) T
  have G__law_some_row := ok_some (P := P) (w := w) (base := base) T
  have G__law_bad_row := ok_badrow2 (P := P) (w := w) (base := base) T
  have G__law_forms_refused := ok_refused (P := P) (base := base) T U
  have G__law_row_told := ok_rtold (P := P) (w := w) (base := base) T
  have G_Key___init__ := ok_init (P := P) (w := w) (base := base) T U.toTMany
  refine Fun.okG T.F_law sc_law (fun vs H Q E h => ?_) (fun cdv A outer s H vs Q E gd hr h => ?_)
  · obtain ⟨_, _, rfl, _⟩ := h
    rfl
  · obtain ⟨a, ns, rfl, hS, hl, q⟩ := h
    refine ⟨_, (pss_cons (ps_set (i := 1) sc_law.nd rfl (Or.inr rfl) (pe_call G__law_bag (hr.mono (by omega)) (by rfl) T.g__law_bag T.F__law_bag.kp T.b__law_bag .nil pass0 (pa_cons (pv 0) pa_nil)))
      (pss_cons (ps_if (pt_not (pt_val (pe_callG G__law_forms_refused gd (hr.mono (by omega)) (by rfl) T.g__law_forms_refused T.F__law_forms_refused.kp T.b__law_forms_refused pass0 (pa_cons (pv 1) pa_nil)))) (pss_one (ps_ret pe_bl)) pss_nil)
      (pss_cons (ps_set (i := 2) sc_law.nd rfl (Or.inl rfl) (pe_make ⟨T.mk_Key, T.a_Key___init__, T.i_Key___init__, T.kc_Key⟩ G_Key___init__ (hr.mono (by omega)) (by rfl) T.g_Key T.b_Key___init__ .nil pass0 (pa_cons (pe_call G__law_any_key (hr.mono (by omega)) (by rfl) T.g__law_any_key T.F__law_any_key.kp T.b__law_any_key .nil pass0 (pa_cons (pv 1) pa_nil)) pa_nil)))
      (pss_cons (ps_set (i := 3) sc_law.nd rfl (Or.inl rfl) (pe_call G__law_pick (hr.mono (by omega)) (by rfl) T.g__law_pick T.F__law_pick.kp T.b__law_pick .nil pass0 (pa_cons (pv 1) (pa_cons pe_int pa_nil))))
      (pss_cons (ps_for PassesOwn.never rfl (pi_range1 (by rfl) T.m_range (pa_cons pe_int pa_nil)) (pg_name (i := 4) sc_law.nd rfl (Or.inl rfl)) (pss_cons (ps_set (i := 5) sc_law.nd rfl (Or.inl rfl) (pe_ix (ix_listK (K := K) rfl) (pe_lst (pa_cons pe_int (pa_cons pe_int (pa_cons pe_int (pa_cons pe_int (pa_cons (pe_op op_add pe_int (pe_call G__law_pick (hr.mono (by omega)) (by rfl) T.g__law_pick T.F__law_pick.kp T.b__law_pick .nil pass0 (pa_cons (pv 1) (pa_cons pe_int pa_nil)))) (pa_cons (pe_op op_add pe_int (pe_call G__law_pick (hr.mono (by omega)) (by rfl) T.g__law_pick T.F__law_pick.kp T.b__law_pick .nil pass0 (pa_cons (pv 1) (pa_cons pe_int pa_nil)))) pa_nil))))))) (pv 4) (fun _ _ => rfl)))
      (pss_cons (ps_setLc (i := 6) (own := [("_law_step", 9)]) (g := gName 9) (tt := tYes) (by rfl) sc_law.nd rfl rfl (sw_true rfl rfl rfl (by decide +kernel)) (pi_range1 (by rfl) T.m_range (pa_cons (pv 5) pa_nil)) (blkOk_by (own := [("_law_step", 9)]) (N := ["_law_script", "_law_bag_here", "_law_key", "_law_many", "_law_which", "_law_count", "_law_rows", "_law_bad", "_law_at", "_law_step"]) (sc := defScope s_law) (by decide +kernel)) (fun _ _ _ _ _ => (pg_name (i := 9) sc_law.nd rfl (Or.inl rfl))) (fun _ _ _ _ _ => pts_nil) (fun _ _ _ _ _ => (pe_call G__law_some_row (hr.mono (by omega)) (by rfl) T.g__law_some_row T.F__law_some_row.kp T.b__law_some_row .nil pass0 (pa_cons (pv 1) pa_nil))))
      (pss_cons (ps_set (i := 7) sc_law.nd rfl (Or.inl rfl) (pe_callTy (call_listK (K := K) rfl) (by rfl) T.m_list (by decide +kernel) (pa_cons (pv 6) pa_nil)))
      (pss_cons (ps_set (i := 8) sc_law.nd rfl (Or.inl rfl) (pe_call G__law_pick (hr.mono (by omega)) (by rfl) T.g__law_pick T.F__law_pick.kp T.b__law_pick .nil pass0 (pa_cons (pv 1) (pa_cons (pv 5) pa_nil))))
      (pss_cons (ps_asg (pe_call G__law_bad_row (hr.mono (by omega)) (by rfl) T.g__law_bad_row T.F__law_bad_row.kp T.b__law_bad_row .nil pass0 (pa_cons (pv 1) (pa_cons (pe_ix (ix_listK (K := K) rfl) (pv 6) (pv 8) (fun _ _ => rfl)) pa_nil))) (pg_sub (pv 7) (pv 8) set_list))
      (pss_cons (ps_if (PW.pt (pw_and (pt_cmpR op_lt (pe_op op_add (pv 8) pe_int) (pv 5) (nomark _)) (pw_and1 (pt_cmpR op_eq (pe_call G__law_pick (hr.mono (by omega)) (by rfl) T.g__law_pick T.F__law_pick.kp T.b__law_pick .nil pass0 (pa_cons (pv 1) (pa_cons pe_int pa_nil))) pe_int (nomark _))))) (pss_one (ps_asg (pe_call G__law_bad_row (hr.mono (by omega)) (by rfl) T.g__law_bad_row T.F__law_bad_row.kp T.b__law_bad_row .nil pass0 (pa_cons (pv 1) (pa_cons (pe_ix (ix_listK (K := K) rfl) (pv 6) (pe_op op_sub (pv 5) pe_int) (fun _ _ => rfl)) pa_nil))) (pg_sub (pv 7) (pe_op op_sub (pv 5) pe_int) set_list))) pss_nil)
      (pss_cons (ps_if (pt_cmpR (op_neSm (K := K) rfl (have z := hu65 hr; Nat.lt_of_le_of_lt (Nat.le_add_right _ 65) z)) (pe_callG G__law_row_told gd (hr.mono (by omega)) (by rfl) T.g__law_row_told T.F__law_row_told.kp T.b__law_row_told pass0 (pa_cons (pv 4) (pa_cons (pv 2) (pa_cons (pv 3) (pa_cons (pv 6) pa_nil))))) (pe_tup (pa_cons pe_str (pa_cons pe_str pa_nil))) (nomark _)) (pss_one (ps_ret pe_bl)) pss_nil)
      (pss_cons (ps_if (pt_cmpR (op_neSm (K := K) rfl (have z := hu65 hr; Nat.lt_of_le_of_lt (Nat.le_add_right _ 65) z)) (pe_callG G__law_row_told gd (hr.mono (by omega)) (by rfl) T.g__law_row_told T.F__law_row_told.kp T.b__law_row_told pass0 (pa_cons (pv 4) (pa_cons (pv 2) (pa_cons (pv 3) (pa_cons (pv 7) pa_nil))))) (pe_tup (pa_cons pe_str (pa_cons (pe_callB (call_reprV gd (un200 hr)) (by rfl) T.m_repr (by decide +kernel) (pa_cons (pe_ix (ix_listK (K := K) rfl) (pv 7) (pv 8) (fun _ _ => rfl)) pa_nil)) pa_nil))) (nomark _)) (pss_one (ps_ret pe_bl)) pss_nil)
      (pss_one (ps_if (pt_cmpR (op_neSm (K := K) rfl (have z := hu65 hr; Nat.lt_of_le_of_lt (Nat.le_add_right _ 65) z)) (pe_callG G__law_row_told gd (hr.mono (by omega)) (by rfl) T.g__law_row_told T.F__law_row_told.kp T.b__law_row_told pass0 (pa_cons (pv 4) (pa_cons (pv 2) (pa_cons (pv 3) (pa_cons (pv 6) pa_nil))))) (pe_tup (pa_cons pe_str (pa_cons pe_str pa_nil))) (nomark _)) (pss_one (ps_ret pe_bl)) pss_nil)))))))))))
      (pss_one (ps_ret pe_bl))))))), ?_⟩
    walk_at "g"
    refine ⟨a, ns, rfl, hS, hl, fun b H1 s1 nb hB1 => ?_⟩
    walk_at "g"
    refine ⟨hB1, fun H2 hB2 => ?_⟩
    walk_at "g"
    have hM2 : Mk (one b) H2 := fun c z => by rw [show c = b from z]; exact hB2.there
    refine ⟨b, one b, rfl, hB2, hM2, fun v1 H3 d s3 g3 hB3 r1 hd => ?_⟩
    obtain ⟨f, rfl, kf⟩ := hd
    have hM3 := hM2.gr g3
    intro xa dx hxa hdx hne
    have hx2 : upd H3 dx (.own xa) xa = none := by rw [upd_ne (fun z => hne z.symm)]; exact hxa
    have sA : Same H3 (upd (upd H3 dx (.own xa)) xa (.ins T.C_Key dx [])) := (same_new hdx).trans (same_new hx2)
    refine ⟨xa, dx, v1, f, one b, rfl, upd_same, r1.sx (Sx.same sA), hM3.gr (Gr.same sA), kf, fun H4 s4 => ?_⟩
    have s9 : Same H3 (upd H4 xa (.ins T.C_Key dx [(sParts, v1)])) := same_put (sA.trans s4) hxa
    have hK : KeyAt T.C_Key (one b) (upd H4 xa (.ins T.C_Key dx [(sParts, v1)])) (.ref xa) f := ⟨xa, dx, v1, rfl, hM3.out hxa, upd_same, r1.sx (Sx.same s9), kf⟩
    have hB4 := hB3.same s9
    generalize upd H4 xa (.ins T.C_Key dx [(sParts, v1)]) = H5 at hK hB4
    clear s9 sA hx2 s4
    refine ⟨rfl, ?_⟩
    walk_at "g"
    refine ⟨b, 3, one b, rfl, hB4, by omega, by omega, fun many H6 m0 m1 hA6 hB6 => ?_⟩
    have hK := hK.sx hA6.sx
    walk_at "g"
    refine ⟨by decide, by decide, ?_⟩
    refine for_range (lo := 0) (n := 6) (fun i σ H' => (∃ y4 y5 y6 y7 y8, σ = [some (.ref a), some (.ref b), some (.ref xa), some (.int many), y4, y5, y6, y7, y8, none]) ∧ Bag K (one b) H' b ∧ Mk (one b) H' ∧ KeyAt T.C_Key (one b) H' (.ref xa) f) ⟨⟨_, _, _, _, _, rfl⟩, hB6, (fun c z => by rw [show c = b from z]; exact hB6.there), hK⟩ (fun i σ H7 hi p => ?_) (fun σ H7 p => ?_)
    · obtain ⟨⟨y4, y5, y6, y7, y8, rfl⟩, hB7, hM7, hK7⟩ := p
      rw [show (0 : Int) + ((i : Nat) : Int) = ((i : Nat) : Int) from Int.zero_add _]
      walk_at "g"
      refine ⟨b, 4, one b, rfl, hB7, by omega, by omega, fun w1 H8 a0 a1 hA8 hB8 => ?_⟩
      have hM8 := hM7.gr (At.gr hA8 hB8.there)
      have hK8 := hK7.sx hA8.sx
      walk_at "g"
      refine ⟨b, 4, one b, rfl, hB8, by omega, by omega, fun w2 H9 c0 c1 hA9 hB9 => ?_⟩
      have hM9 := hM8.gr (At.gr hA9 hB9.there)
      have hK9 := hK8.sx hA9.sx
      walk_at "g"
      refine ⟨szK rfl, fun p1 hp1 => ?_⟩
      obtain ⟨n, hn, hlen, n1, n4⟩ := cnt_at hi a0 a1 c0 c1
      have e1 : upd H9 p1 (.lst (cnts w1 w2)) p1 = some (.lst (cnts w1 w2)) := upd_same
      have hB1 : Bag K (one b) (upd H9 p1 (.lst (cnts w1 w2))) b := hB9.same (same_new hp1)
      have hM1 : Mk (one b) (upd H9 p1 (.lst (cnts w1 w2))) := hM9.new
      have hK1 := hK9.sx (Sx.same (same_new hp1 (o := .lst (cnts w1 w2))))
      walk_at "g"
      refine ⟨_, _, _, _, rfl, rfl, SqL.of e1, atI_nat (j := i) hn, ?_⟩
      clear e1 hn
      walk_at "g"
      refine ⟨by omega, by omega, fun D hD => ?_⟩
      have Db : D ≠ b := fun z => hB1.there (by rw [← z]; exact hD)
      refine rng_loop (lo := 0) (n := ((n : Nat) : Int).toNat) (fun j H' => ∃ ys, H' D = some (.lst ys) ∧ ItsF (also (one b) D) H' ys (List.replicate j none) ∧ Bag K (also (one b) D) H' b ∧ Mk (also (one b) D) H' ∧ KeyAt T.C_Key (also (one b) D) H' (.ref xa) f) ⟨[], upd_same, ⟨rfl, fun i y e => by simp at e⟩, (hB1.more hD).same (same_new hD), hM1.new.also upd_there, (hK1.fresh hD).sx (Sx.new hD)⟩ (fun j H' hj p => ?_) (fun H11 p => ?_)
      · obtain ⟨ys, eD, hI, hB, hM, hKk⟩ := p
        refine ⟨rfl, ?_⟩
        walk_at "g"
        refine ⟨b, also (one b) D, rfl, hB, hM, fun v H12 ns s g hB' r hd => ?_⟩
        have s' := s.le (one_le hB.w)
        have eD' := s _ _ Db eD
        have lj := hI.1
        rw [List.length_replicate] at lj
        have sp : Sx (also (one b) D) H12 (upd H12 D (.lst (ys ++ [v]))) := Sx.put (.inr rfl)
        refine ⟨_, eD', small1000 (by omega), ys ++ [v], upd_same, ?_, hB'.keep (N := one D) (Sx.put rfl) (Ne.symm Db) (fun c z => .inr z), (hM.gr g).new, (hKk.sx s').sx sp⟩
        rw [List.replicate_succ']
        exact (((hI.sx s').snoc (o := none) ⟨ns, r, hd⟩)).sx sp
      obtain ⟨ys, eD, hI, hB, hM, hKk⟩ := p
      rw [show (((n : Nat) : Int).toNat) = n from rfl] at hI
      have hI : ItsF (one b) H11 ys (List.replicate n none) := hI.imp fun x o r => r.less also_le
      have hB := hB.less (N := one b) rfl also_le
      have hM : Mk (one b) H11 := fun c z => hM c (.inl z)
      have hKk := hKk.less (N := one b) also_le
      have ln := hI.1
      rw [List.length_replicate] at ln
      clear hB1 hM1 hK1 hM9 hK9 hM8 hK8 hM7 hK7 hB7 hB8 hB9 hA8 hA9 hD
      walk_at "g"
      intro D2 hD2
      have D2b : D2 ≠ b := fun z => hB.there (by rw [← z]; exact hD2)
      have DD : D ≠ D2 := ne_of_none eD hD2
      have eD := same_new hD2 (o := .lst ys) _ _ eD
      have hB := (hB.more hD2).same (same_new hD2 (o := .lst ys))
      have hM := (hM.new (p := D2) (o := .lst ys)).also upd_there
      have hI := hI.imp (N := also (one b) D2) fun x o r => (r.fresh hD2).sx (Sx.new hD2 (o := .lst ys))
      have hKk := (hKk.fresh hD2).sx (Sx.new hD2 (o := .lst ys))
      have e2 : upd H11 D2 (.lst ys) D2 = some (.lst ys) := upd_same
      generalize upd H11 D2 (.lst ys) = H12 at eD hB hM hI hKk e2
      generalize hN : also (one b) D2 = N at hB hM hI hKk
      have nb2 : N b := by rw [← hN]; exact .inl rfl
      have n2 : N D2 := by rw [← hN]; exact .inr rfl
      walk_at "g"
      refine ⟨b, n, N, rfl, hB, by omega, by omega, fun w5 H13 h0 h1 hA13 hB13 => ?_⟩
      obtain ⟨j, rfl⟩ : ∃ j : Nat, w5 = (j : Int) := ⟨w5.toNat, by omega⟩
      have hj : j < n := by omega
      have eD := (hA13 D Db).trans eD
      have e2 := (hA13 D2 D2b).trans e2
      have hM := hM.gr (At.gr hA13 hB13.there)
      have hI := hI.sx (hA13.sx.le (one_le nb2))
      have hKk := hKk.sx (hA13.sx.le (one_le nb2))
      obtain ⟨x, hx⟩ : ∃ x, ys[j]? = some x := ⟨_, List.getElem?_eq_getElem (by omega)⟩
      obtain ⟨o, ho, r⟩ := hI.2 j x hx
      rw [List.getElem?_replicate, if_pos hj] at ho
      cases ho
      obtain ⟨rns, rr, rg⟩ := r
      walk_at "g"
      refine ⟨_, _, _, _, rfl, rfl, SqL.of eD, atI_nat hx, ?_⟩
      walk_at "g"
      refine ⟨b, x, rns, N, rfl, hB13, hM, rr, rg, fun v H14 d s14 g14 hB14 r14 hd14 => ?_⟩
      have eD := s14 _ _ Db eD
      have e2 := s14 _ _ D2b e2
      have hM := hM.gr g14
      have hI := hI.sx (s14.le (one_le nb2))
      have hKk := hKk.sx (s14.le (one_le nb2))
      walk_at "g"
      refine ⟨D2, _, _, j, rfl, rfl, e2, by unfold ixN; rw [if_pos (by omega), if_pos (by omega)]; simp, ?_⟩
      have put : ∀ {J : Hp} {o : HO}, Sx N J (upd J D2 o) := Sx.put n2
      have hI2 := (hI.set (o := some d) ⟨r14, hd14.1, hd14.2.1⟩ j).sx (put (o := .lst (ys.set j v)))
      have hI := hI.sx (put (o := .lst (ys.set j v)))
      have hKk := hKk.sx (put (o := .lst (ys.set j v)))
      have r14 := r14.sx (put (o := .lst (ys.set j v)))
      have eD : upd H14 D2 (.lst (ys.set j v)) D = some (.lst ys) := by rw [upd_ne DD]; exact eD
      have e2 : upd H14 D2 (.lst (ys.set j v)) D2 = some (.lst (ys.set j v)) := upd_same
      have bput : ∀ {J : Hp} {o : HO}, Bag K N J b → Bag K N (upd J D2 o) b := fun h => h.keep (N := one D2) (Sx.put rfl) (Ne.symm D2b) (fun c z => by rw [show c = D2 from z]; exact n2)
      have hB := bput hB14 (o := .lst (ys.set j v))
      have hM := hM.new (p := D2) (o := .lst (ys.set j v))
      generalize upd H14 D2 (.lst (ys.set j v)) = H15 at eD e2 hI2 hI hKk r14 hB hM
      have gdd : Gd 100000 30 d := hd14.2.2.le (by omega) (by omega)
      have SH := gdd.showing (by omega) (by omega)
      dsimp only
      with_reducible refine seq_join (fun σ3 H' => ∃ zs bs, σ3 = [some (.ref a), some (.ref b), some (.ref xa), some (.int many), some (.int i), some (.int n), some (.ref D), some (.ref D2), some (.int j), none] ∧ H' D = some (.lst ys) ∧ H' D2 = some (.lst zs) ∧ ItsF N H' ys (List.replicate n none) ∧ ItsF N H' zs bs ∧ firstO bs = some d ∧ zs[j]? = some v ∧ zs.length = n ∧ Rp N H' v d ∧ Bag K N H' b ∧ Mk N H' ∧ KeyAt T.C_Key N H' (.ref xa) f) (fun hN => ?_) (fun σ H16 c => ?_)
      · have f1 : firstO ((List.replicate n none).set j (some d)) = some d := first_at (i := j) (fun k hk => by rw [List.getElem?_set, if_neg (by omega), List.getElem?_replicate, if_pos (by omega)]) (by rw [List.getElem?_set, if_pos rfl, if_pos (by rw [List.length_replicate]; exact hj)])
        have z1 : (ys.set j v)[j]? = some v := by rw [List.getElem?_set, if_pos rfl, if_pos (by omega)]
        have l1 : (ys.set j v).length = n := by rw [List.length_set]; omega
        have base0 := hN _ _ ⟨_, _, rfl, eD, e2, hI, hI2, f1, z1, l1, r14, hB, hM, hKk⟩
        walk_at "g"
        by_cases hc : (j : Int) + 1 < (n : Int)
        · rw [decide_eq_true hc]
          walk_at "g"
          refine ⟨b, 2, N, rfl, hB, by omega, by omega, fun w6 H16 c0 c1 hA16 hB16 => ?_⟩
          have eD := (hA16 D Db).trans eD
          have e2 := (hA16 D2 D2b).trans e2
          have sA := hA16.sx.le (one_le nb2)
          have hM := hM.gr (At.gr hA16 hB16.there)
          have base1 := hN _ _ ⟨_, _, rfl, eD, e2, hI.sx sA, hI2.sx sA, f1, z1, l1, r14.sx sA, hB16, hM, hKk.sx sA⟩
          walk_at "g"
          by_cases hw : w6 = 0
          · subst hw
            walk_at "g"
            obtain ⟨x2, hx2⟩ : ∃ x, ys[n - 1]? = some x := ⟨_, List.getElem?_eq_getElem (by omega)⟩
            obtain ⟨o2, ho2, rr2⟩ := (hI.sx sA).2 (n - 1) x2 hx2
            rw [List.getElem?_replicate, if_pos (by omega)] at ho2
            cases ho2
            obtain ⟨rns2, rr2, rg2⟩ := rr2
            have ei : atI ys ((n : Int) - 1) = some x2 := by rw [show (n : Int) - 1 = ((n - 1 : Nat) : Int) by omega]; exact atI_nat hx2
            refine ⟨_, _, _, _, rfl, rfl, SqL.of eD, ei, ?_⟩
            walk_at "g"
            refine ⟨b, x2, rns2, N, rfl, hB16, hM, rr2, rg2, fun u H17 d7 s17 g17 hB17 r17 hd17 => ?_⟩
            have sB := sA.trans (s17.le (one_le nb2))
            have eD := s17 _ _ Db eD
            have e2 := s17 _ _ D2b e2
            walk_at "g"
            refine ⟨D2, _, _, n - 1, rfl, rfl, e2, by unfold ixN; rw [if_pos (by omega), if_pos (by omega)]; congr 1; omega, ?_⟩
            refine hN _ _ ⟨_, _, rfl, by rw [upd_ne DD]; exact eD, upd_same, (hI.sx sB).sx put, ((hI2.sx sB).set (o := some d7) ⟨r17, hd17.1, hd17.2.1⟩ (n - 1)).sx put, ?_, ?_, by rw [List.length_set]; exact l1, (r14.sx sB).sx put, bput hB17, (hM.gr g17).new, (hKk.sx sB).sx put⟩
            · exact first_at (i := j) (fun k hk => by rw [List.getElem?_set, if_neg (by omega), List.getElem?_set, if_neg (by omega), List.getElem?_replicate, if_pos (by omega)]) (by rw [List.getElem?_set, if_neg (by omega), List.getElem?_set, if_pos rfl, if_pos (by rw [List.length_replicate]; exact hj)])
            · rw [List.getElem?_set, if_neg (by omega)]
              exact z1
          · rw [decide_eq_false (show ¬ V.int w6 = V.int 0 from fun z => hw (by injection z))]
            exact base1
        · rw [decide_eq_false hc]
          exact base0
      obtain ⟨zs, bs, rfl, eD, e2, hI, hI2, f1, z1, l1, r14, hB, hM, hKk⟩ := c
      have lf : lenFor (i : Nat) ys.length := by rw [ln]; exact hlen
      have lf2 : lenFor (i : Nat) zs.length := by rw [l1]; exact hlen
      walk_at "g"
      refine ⟨(i : Nat), many, .ref xa, D, f, ys, List.replicate n none, N, rfl, hKk, hM, eD, hI, lf, m0, by omega, fun d hd => (by rw [first_none] at hd; cases hd), fun u1 H17 s17 q1 => ?_⟩
      rw [first_none] at q1
      obtain ⟨t1, xs1, rfl, _, ht1, qq1⟩ := Rp.tupN (show Rp N H17 u1 (.tuple [.str sGood, .str (Str.ofString "")]) from q1)
      obtain ⟨z5, z6, rfl, w5, w6⟩ := qq1.inv2
      cases w5
      cases w6
      walk_at "g"
      refine ⟨szK rfl, fun p3 hp3 => ?_⟩
      refine ⟨t1, p3, _, rfl, rfl, .inl (same_rd (same_new hp3) ht1), SqT.of upd_same, rfl, ?_⟩
      have s18 : Same H16 (upd H17 p3 (.tup [.str (Str.ofString "good"), .str (Str.ofString "")])) := same_put s17 (same_free s17 hp3)
      have eD := s18 _ _ eD
      have e2 := s18 _ _ e2
      have hI := hI.sx (Sx.same s18)
      have hI2 := hI2.sx (Sx.same s18)
      have r14 := r14.sx (Sx.same s18)
      have hB := hB.same s18
      have hM := hM.gr (Gr.same s18)
      have hKk := hKk.sx (Sx.same s18)
      generalize upd H17 p3 (.tup [.str (Str.ofString "good"), .str (Str.ofString "")]) = H18 at eD e2 hI hI2 r14 hB hM hKk
      clear s18 q1 s17 hp3 ht1 qq1
      walk_at "g"
      refine ⟨(i : Nat), many, .ref xa, D2, f, zs, bs, N, rfl, hKk, hM, e2, hI2, lf2, m0, by omega, fun d' hd => (by rw [f1] at hd; cases hd; exact gdd), fun u1 H17 s17 q1 => ?_⟩
      rw [f1] at q1
      obtain ⟨t1, xs1, rfl, _, ht1, qq1⟩ := Rp.tupN (show Rp N H17 u1 (.tuple [.str sBadRow, .str d.shown]) from q1)
      obtain ⟨z5, z6, rfl, w5, w6⟩ := qq1.inv2
      cases w5
      cases w6
      walk_at "g"
      refine ⟨_, _, _, _, rfl, rfl, SqL.of (s17 _ _ e2), atI_nat z1, ?_⟩
      refine ⟨_, _, rfl, Rp.dp (K := K) _ _ (r14.sx (Sx.same s17)), SH.1, SH.2.1, SH.2.2.1, SH.2.2.2, ?_⟩
      refine ⟨szK rfl, fun p3 hp3 => ?_⟩
      refine ⟨t1, p3, _, rfl, rfl, .inl (same_rd (same_new hp3) ht1), SqT.of upd_same, rfl, ?_⟩
      have s18 : Same H18 (upd H17 p3 (.tup [.str (Str.ofString "BadRow"), .str d.shown])) := same_put s17 (same_free s17 hp3)
      have eD := s18 _ _ eD
      have hI := hI.sx (Sx.same s18)
      have hB := hB.same s18
      have hM := hM.gr (Gr.same s18)
      have hKk := hKk.sx (Sx.same s18)
      generalize upd H17 p3 (.tup [.str (Str.ofString "BadRow"), .str d.shown]) = H19 at eD hI hB hM hKk
      clear s18 q1 s17 hp3 ht1 qq1
      walk_at "g"
      refine ⟨(i : Nat), many, .ref xa, D, f, ys, List.replicate n none, N, rfl, hKk, hM, eD, hI, lf, m0, by omega, fun d hd => (by rw [first_none] at hd; cases hd), fun u1 H17 s17 q1 => ?_⟩
      rw [first_none] at q1
      obtain ⟨t1, xs1, rfl, _, ht1, qq1⟩ := Rp.tupN (show Rp N H17 u1 (.tuple [.str sGood, .str (Str.ofString "")]) from q1)
      obtain ⟨z5, z6, rfl, w5, w6⟩ := qq1.inv2
      cases w5
      cases w6
      walk_at "g"
      refine ⟨szK rfl, fun p3 hp3 => ?_⟩
      refine ⟨t1, p3, _, rfl, rfl, .inl (same_rd (same_new hp3) ht1), SqT.of upd_same, rfl, ?_⟩
      have s18 : Same H19 (upd H17 p3 (.tup [.str (Str.ofString "good"), .str (Str.ofString "")])) := same_put s17 (same_free s17 hp3)
      walk_at "g"
      have le : ∀ a, one b a → N a := one_le nb2
      exact ⟨⟨_, _, _, _, _, rfl⟩, (hB.same s18).less rfl le, fun c z => (hM.gr (Gr.same s18)) c (le c z), (hKk.sx (Sx.same s18)).less le⟩
    · obtain ⟨⟨y4, y5, y6, y7, y8, rfl⟩, hB7, hM7, hK7⟩ := p
      walk_at "g"
      exact q _
end
end D

namespace D
open PySem PySem.Spec PyProof.Rows L2
theorem all_mk {l : PySem.W.OpenLaw} {w : World} {K : PySem.W.Frag} {h : Heap} {mg : Str → Option Value} {fa : Addr} {f_is_whole f_is_value f_is_name f_inner_forms f__well_made f_check_form f_value_of f_names_in f_is_row f_check_rows f__key_value f__idents f__matches f__slipped f__lost f_matched f_slips f_losses f__first_parted f_faithful f__is_beneath f_coarsest f__law_mixed f__law_bag f__law_pick f__law_choice f__law_mingled f__law_form f__law_row f__law_new_name f__law_read f__law_any_key f__law_odd_part f__law_spoilt f__law_tower f__law_key_told f__law_forms_refused f__law_some_row f__law_bad_row f__law_called f__law_row_told f_law C_Key f_Key___init__ f_Key_parts p_Key_parts f_Key___call__ f_Key___le__ f_Key_idents C_ScreenError C_BadForm f_BadForm___init__ C_NoName f_NoName___init__ C_BadRow f_BadRow___init__ C_NoItem f_NoItem___init__ : Addr} (X : K.In h) (G : h.Ns mainGlobals mg) (hfa : mg "law" = some (.ref fa))
    {od_is_whole an_is_whole : Option Addr} {sl_is_whole : Array (Option Value)} {oc_is_whole kV_is_whole dc_is_whole pm_is_whole cd_is_whole ct_is_whole : Value}
    (a_is_whole : PySem.W.nsIn K mainGlobals "is_whole" = some (some (.ref f_is_whole))) (l_is_whole : K.lookup f_is_whole = some ⟨oc_is_whole, od_is_whole, .func (PySem.W.fnOf "is_whole" "is_whole" (defArgs s_is_whole) (defBody s_is_whole) (defScope s_is_whole) .none kV_is_whole dc_is_whole pm_is_whole an_is_whole cd_is_whole ct_is_whole), sl_is_whole⟩) (c_is_whole : PySem.W.codeIn K cd_is_whole "is_whole" = true) (k_is_whole : PySem.W.keepIn K (.ref f_is_whole) = true)
    {od_is_value an_is_value : Option Addr} {sl_is_value : Array (Option Value)} {oc_is_value kV_is_value dc_is_value pm_is_value cd_is_value ct_is_value : Value}
    (a_is_value : PySem.W.nsIn K mainGlobals "is_value" = some (some (.ref f_is_value))) (l_is_value : K.lookup f_is_value = some ⟨oc_is_value, od_is_value, .func (PySem.W.fnOf "is_value" "is_value" (defArgs s_is_value) (defBody s_is_value) (defScope s_is_value) .none kV_is_value dc_is_value pm_is_value an_is_value cd_is_value ct_is_value), sl_is_value⟩) (c_is_value : PySem.W.codeIn K cd_is_value "is_value" = true) (k_is_value : PySem.W.keepIn K (.ref f_is_value) = true)
    {od_is_name an_is_name : Option Addr} {sl_is_name : Array (Option Value)} {oc_is_name kV_is_name dc_is_name pm_is_name cd_is_name ct_is_name : Value}
    (a_is_name : PySem.W.nsIn K mainGlobals "is_name" = some (some (.ref f_is_name))) (l_is_name : K.lookup f_is_name = some ⟨oc_is_name, od_is_name, .func (PySem.W.fnOf "is_name" "is_name" (defArgs s_is_name) (defBody s_is_name) (defScope s_is_name) .none kV_is_name dc_is_name pm_is_name an_is_name cd_is_name ct_is_name), sl_is_name⟩) (c_is_name : PySem.W.codeIn K cd_is_name "is_name" = true) (k_is_name : PySem.W.keepIn K (.ref f_is_name) = true)
    {od_inner_forms an_inner_forms : Option Addr} {sl_inner_forms : Array (Option Value)} {oc_inner_forms kV_inner_forms dc_inner_forms pm_inner_forms cd_inner_forms ct_inner_forms : Value}
    (a_inner_forms : PySem.W.nsIn K mainGlobals "inner_forms" = some (some (.ref f_inner_forms))) (l_inner_forms : K.lookup f_inner_forms = some ⟨oc_inner_forms, od_inner_forms, .func (PySem.W.fnOf "inner_forms" "inner_forms" (defArgs s_inner_forms) (defBody s_inner_forms) (defScope s_inner_forms) .none kV_inner_forms dc_inner_forms pm_inner_forms an_inner_forms cd_inner_forms ct_inner_forms), sl_inner_forms⟩) (c_inner_forms : PySem.W.codeIn K cd_inner_forms "inner_forms" = true) (k_inner_forms : PySem.W.keepIn K (.ref f_inner_forms) = true)
    {od__well_made an__well_made : Option Addr} {sl__well_made : Array (Option Value)} {oc__well_made kV__well_made dc__well_made pm__well_made cd__well_made ct__well_made : Value}
    (a__well_made : PySem.W.nsIn K mainGlobals "_well_made" = some (some (.ref f__well_made))) (l__well_made : K.lookup f__well_made = some ⟨oc__well_made, od__well_made, .func (PySem.W.fnOf "_well_made" "_well_made" (defArgs s__well_made) (defBody s__well_made) (defScope s__well_made) .none kV__well_made dc__well_made pm__well_made an__well_made cd__well_made ct__well_made), sl__well_made⟩) (c__well_made : PySem.W.codeIn K cd__well_made "_well_made" = true) (k__well_made : PySem.W.keepIn K (.ref f__well_made) = true)
    {od_check_form an_check_form : Option Addr} {sl_check_form : Array (Option Value)} {oc_check_form kV_check_form dc_check_form pm_check_form cd_check_form ct_check_form : Value}
    (a_check_form : PySem.W.nsIn K mainGlobals "check_form" = some (some (.ref f_check_form))) (l_check_form : K.lookup f_check_form = some ⟨oc_check_form, od_check_form, .func (PySem.W.fnOf "check_form" "check_form" (defArgs s_check_form) (defBody s_check_form) (defScope s_check_form) .none kV_check_form dc_check_form pm_check_form an_check_form cd_check_form ct_check_form), sl_check_form⟩) (c_check_form : PySem.W.codeIn K cd_check_form "check_form" = true) (k_check_form : PySem.W.keepIn K (.ref f_check_form) = true)
    {od_value_of an_value_of : Option Addr} {sl_value_of : Array (Option Value)} {oc_value_of kV_value_of dc_value_of pm_value_of cd_value_of ct_value_of : Value}
    (a_value_of : PySem.W.nsIn K mainGlobals "value_of" = some (some (.ref f_value_of))) (l_value_of : K.lookup f_value_of = some ⟨oc_value_of, od_value_of, .func (PySem.W.fnOf "value_of" "value_of" (defArgs s_value_of) (defBody s_value_of) (defScope s_value_of) .none kV_value_of dc_value_of pm_value_of an_value_of cd_value_of ct_value_of), sl_value_of⟩) (c_value_of : PySem.W.codeIn K cd_value_of "value_of" = true) (k_value_of : PySem.W.keepIn K (.ref f_value_of) = true)
    {od_names_in an_names_in : Option Addr} {sl_names_in : Array (Option Value)} {oc_names_in kV_names_in dc_names_in pm_names_in cd_names_in ct_names_in : Value}
    (a_names_in : PySem.W.nsIn K mainGlobals "names_in" = some (some (.ref f_names_in))) (l_names_in : K.lookup f_names_in = some ⟨oc_names_in, od_names_in, .func (PySem.W.fnOf "names_in" "names_in" (defArgs s_names_in) (defBody s_names_in) (defScope s_names_in) .none kV_names_in dc_names_in pm_names_in an_names_in cd_names_in ct_names_in), sl_names_in⟩) (c_names_in : PySem.W.codeIn K cd_names_in "names_in" = true) (k_names_in : PySem.W.keepIn K (.ref f_names_in) = true)
    {od_is_row an_is_row : Option Addr} {sl_is_row : Array (Option Value)} {oc_is_row kV_is_row dc_is_row pm_is_row cd_is_row ct_is_row : Value}
    (a_is_row : PySem.W.nsIn K mainGlobals "is_row" = some (some (.ref f_is_row))) (l_is_row : K.lookup f_is_row = some ⟨oc_is_row, od_is_row, .func (PySem.W.fnOf "is_row" "is_row" (defArgs s_is_row) (defBody s_is_row) (defScope s_is_row) .none kV_is_row dc_is_row pm_is_row an_is_row cd_is_row ct_is_row), sl_is_row⟩) (c_is_row : PySem.W.codeIn K cd_is_row "is_row" = true) (k_is_row : PySem.W.keepIn K (.ref f_is_row) = true)
    {od_check_rows an_check_rows : Option Addr} {sl_check_rows : Array (Option Value)} {oc_check_rows kV_check_rows dc_check_rows pm_check_rows cd_check_rows ct_check_rows : Value}
    (a_check_rows : PySem.W.nsIn K mainGlobals "check_rows" = some (some (.ref f_check_rows))) (l_check_rows : K.lookup f_check_rows = some ⟨oc_check_rows, od_check_rows, .func (PySem.W.fnOf "check_rows" "check_rows" (defArgs s_check_rows) (defBody s_check_rows) (defScope s_check_rows) .none kV_check_rows dc_check_rows pm_check_rows an_check_rows cd_check_rows ct_check_rows), sl_check_rows⟩) (c_check_rows : PySem.W.codeIn K cd_check_rows "check_rows" = true) (k_check_rows : PySem.W.keepIn K (.ref f_check_rows) = true)
    {od__key_value an__key_value : Option Addr} {sl__key_value : Array (Option Value)} {oc__key_value kV__key_value dc__key_value pm__key_value cd__key_value ct__key_value : Value}
    (a__key_value : PySem.W.nsIn K mainGlobals "_key_value" = some (some (.ref f__key_value))) (l__key_value : K.lookup f__key_value = some ⟨oc__key_value, od__key_value, .func (PySem.W.fnOf "_key_value" "_key_value" (defArgs s__key_value) (defBody s__key_value) (defScope s__key_value) .none kV__key_value dc__key_value pm__key_value an__key_value cd__key_value ct__key_value), sl__key_value⟩) (c__key_value : PySem.W.codeIn K cd__key_value "_key_value" = true) (k__key_value : PySem.W.keepIn K (.ref f__key_value) = true)
    {od__idents an__idents : Option Addr} {sl__idents : Array (Option Value)} {oc__idents kV__idents dc__idents pm__idents cd__idents ct__idents : Value}
    (a__idents : PySem.W.nsIn K mainGlobals "_idents" = some (some (.ref f__idents))) (l__idents : K.lookup f__idents = some ⟨oc__idents, od__idents, .func (PySem.W.fnOf "_idents" "_idents" (defArgs s__idents) (defBody s__idents) (defScope s__idents) .none kV__idents dc__idents pm__idents an__idents cd__idents ct__idents), sl__idents⟩) (c__idents : PySem.W.codeIn K cd__idents "_idents" = true) (k__idents : PySem.W.keepIn K (.ref f__idents) = true)
    {od__matches an__matches : Option Addr} {sl__matches : Array (Option Value)} {oc__matches kV__matches dc__matches pm__matches cd__matches ct__matches : Value}
    (a__matches : PySem.W.nsIn K mainGlobals "_matches" = some (some (.ref f__matches))) (l__matches : K.lookup f__matches = some ⟨oc__matches, od__matches, .func (PySem.W.fnOf "_matches" "_matches" (defArgs s__matches) (defBody s__matches) (defScope s__matches) .none kV__matches dc__matches pm__matches an__matches cd__matches ct__matches), sl__matches⟩) (c__matches : PySem.W.codeIn K cd__matches "_matches" = true) (k__matches : PySem.W.keepIn K (.ref f__matches) = true)
    {od__slipped an__slipped : Option Addr} {sl__slipped : Array (Option Value)} {oc__slipped kV__slipped dc__slipped pm__slipped cd__slipped ct__slipped : Value}
    (a__slipped : PySem.W.nsIn K mainGlobals "_slipped" = some (some (.ref f__slipped))) (l__slipped : K.lookup f__slipped = some ⟨oc__slipped, od__slipped, .func (PySem.W.fnOf "_slipped" "_slipped" (defArgs s__slipped) (defBody s__slipped) (defScope s__slipped) .none kV__slipped dc__slipped pm__slipped an__slipped cd__slipped ct__slipped), sl__slipped⟩) (c__slipped : PySem.W.codeIn K cd__slipped "_slipped" = true) (k__slipped : PySem.W.keepIn K (.ref f__slipped) = true)
    {od__lost an__lost : Option Addr} {sl__lost : Array (Option Value)} {oc__lost kV__lost dc__lost pm__lost cd__lost ct__lost : Value}
    (a__lost : PySem.W.nsIn K mainGlobals "_lost" = some (some (.ref f__lost))) (l__lost : K.lookup f__lost = some ⟨oc__lost, od__lost, .func (PySem.W.fnOf "_lost" "_lost" (defArgs s__lost) (defBody s__lost) (defScope s__lost) .none kV__lost dc__lost pm__lost an__lost cd__lost ct__lost), sl__lost⟩) (c__lost : PySem.W.codeIn K cd__lost "_lost" = true) (k__lost : PySem.W.keepIn K (.ref f__lost) = true)
    {od_matched an_matched : Option Addr} {sl_matched : Array (Option Value)} {oc_matched kV_matched dc_matched pm_matched cd_matched ct_matched : Value}
    (a_matched : PySem.W.nsIn K mainGlobals "matched" = some (some (.ref f_matched))) (l_matched : K.lookup f_matched = some ⟨oc_matched, od_matched, .func (PySem.W.fnOf "matched" "matched" (defArgs s_matched) (defBody s_matched) (defScope s_matched) .none kV_matched dc_matched pm_matched an_matched cd_matched ct_matched), sl_matched⟩) (c_matched : PySem.W.codeIn K cd_matched "matched" = true) (k_matched : PySem.W.keepIn K (.ref f_matched) = true)
    {od_slips an_slips : Option Addr} {sl_slips : Array (Option Value)} {oc_slips kV_slips dc_slips pm_slips cd_slips ct_slips : Value}
    (a_slips : PySem.W.nsIn K mainGlobals "slips" = some (some (.ref f_slips))) (l_slips : K.lookup f_slips = some ⟨oc_slips, od_slips, .func (PySem.W.fnOf "slips" "slips" (defArgs s_slips) (defBody s_slips) (defScope s_slips) .none kV_slips dc_slips pm_slips an_slips cd_slips ct_slips), sl_slips⟩) (c_slips : PySem.W.codeIn K cd_slips "slips" = true) (k_slips : PySem.W.keepIn K (.ref f_slips) = true)
    {od_losses an_losses : Option Addr} {sl_losses : Array (Option Value)} {oc_losses kV_losses dc_losses pm_losses cd_losses ct_losses : Value}
    (a_losses : PySem.W.nsIn K mainGlobals "losses" = some (some (.ref f_losses))) (l_losses : K.lookup f_losses = some ⟨oc_losses, od_losses, .func (PySem.W.fnOf "losses" "losses" (defArgs s_losses) (defBody s_losses) (defScope s_losses) .none kV_losses dc_losses pm_losses an_losses cd_losses ct_losses), sl_losses⟩) (c_losses : PySem.W.codeIn K cd_losses "losses" = true) (k_losses : PySem.W.keepIn K (.ref f_losses) = true)
    {od__first_parted an__first_parted : Option Addr} {sl__first_parted : Array (Option Value)} {oc__first_parted kV__first_parted dc__first_parted pm__first_parted cd__first_parted ct__first_parted : Value}
    (a__first_parted : PySem.W.nsIn K mainGlobals "_first_parted" = some (some (.ref f__first_parted))) (l__first_parted : K.lookup f__first_parted = some ⟨oc__first_parted, od__first_parted, .func (PySem.W.fnOf "_first_parted" "_first_parted" (defArgs s__first_parted) (defBody s__first_parted) (defScope s__first_parted) .none kV__first_parted dc__first_parted pm__first_parted an__first_parted cd__first_parted ct__first_parted), sl__first_parted⟩) (c__first_parted : PySem.W.codeIn K cd__first_parted "_first_parted" = true) (k__first_parted : PySem.W.keepIn K (.ref f__first_parted) = true)
    {od_faithful an_faithful : Option Addr} {sl_faithful : Array (Option Value)} {oc_faithful kV_faithful dc_faithful pm_faithful cd_faithful ct_faithful : Value}
    (a_faithful : PySem.W.nsIn K mainGlobals "faithful" = some (some (.ref f_faithful))) (l_faithful : K.lookup f_faithful = some ⟨oc_faithful, od_faithful, .func (PySem.W.fnOf "faithful" "faithful" (defArgs s_faithful) (defBody s_faithful) (defScope s_faithful) .none kV_faithful dc_faithful pm_faithful an_faithful cd_faithful ct_faithful), sl_faithful⟩) (c_faithful : PySem.W.codeIn K cd_faithful "faithful" = true) (k_faithful : PySem.W.keepIn K (.ref f_faithful) = true)
    {od__is_beneath an__is_beneath : Option Addr} {sl__is_beneath : Array (Option Value)} {oc__is_beneath kV__is_beneath dc__is_beneath pm__is_beneath cd__is_beneath ct__is_beneath : Value}
    (a__is_beneath : PySem.W.nsIn K mainGlobals "_is_beneath" = some (some (.ref f__is_beneath))) (l__is_beneath : K.lookup f__is_beneath = some ⟨oc__is_beneath, od__is_beneath, .func (PySem.W.fnOf "_is_beneath" "_is_beneath" (defArgs s__is_beneath) (defBody s__is_beneath) (defScope s__is_beneath) .none kV__is_beneath dc__is_beneath pm__is_beneath an__is_beneath cd__is_beneath ct__is_beneath), sl__is_beneath⟩) (c__is_beneath : PySem.W.codeIn K cd__is_beneath "_is_beneath" = true) (k__is_beneath : PySem.W.keepIn K (.ref f__is_beneath) = true)
    {od_coarsest an_coarsest : Option Addr} {sl_coarsest : Array (Option Value)} {oc_coarsest kV_coarsest dc_coarsest pm_coarsest cd_coarsest ct_coarsest : Value}
    (a_coarsest : PySem.W.nsIn K mainGlobals "coarsest" = some (some (.ref f_coarsest))) (l_coarsest : K.lookup f_coarsest = some ⟨oc_coarsest, od_coarsest, .func (PySem.W.fnOf "coarsest" "coarsest" (defArgs s_coarsest) (defBody s_coarsest) (defScope s_coarsest) .none kV_coarsest dc_coarsest pm_coarsest an_coarsest cd_coarsest ct_coarsest), sl_coarsest⟩) (c_coarsest : PySem.W.codeIn K cd_coarsest "coarsest" = true) (k_coarsest : PySem.W.keepIn K (.ref f_coarsest) = true)
    {od__law_mixed an__law_mixed : Option Addr} {sl__law_mixed : Array (Option Value)} {oc__law_mixed kV__law_mixed dc__law_mixed pm__law_mixed cd__law_mixed ct__law_mixed : Value}
    (a__law_mixed : PySem.W.nsIn K mainGlobals "_law_mixed" = some (some (.ref f__law_mixed))) (l__law_mixed : K.lookup f__law_mixed = some ⟨oc__law_mixed, od__law_mixed, .func (PySem.W.fnOf "_law_mixed" "_law_mixed" (defArgs s__law_mixed) (defBody s__law_mixed) (defScope s__law_mixed) .none kV__law_mixed dc__law_mixed pm__law_mixed an__law_mixed cd__law_mixed ct__law_mixed), sl__law_mixed⟩) (c__law_mixed : PySem.W.codeIn K cd__law_mixed "_law_mixed" = true) (k__law_mixed : PySem.W.keepIn K (.ref f__law_mixed) = true)
    {od__law_bag an__law_bag : Option Addr} {sl__law_bag : Array (Option Value)} {oc__law_bag kV__law_bag dc__law_bag pm__law_bag cd__law_bag ct__law_bag : Value}
    (a__law_bag : PySem.W.nsIn K mainGlobals "_law_bag" = some (some (.ref f__law_bag))) (l__law_bag : K.lookup f__law_bag = some ⟨oc__law_bag, od__law_bag, .func (PySem.W.fnOf "_law_bag" "_law_bag" (defArgs s__law_bag) (defBody s__law_bag) (defScope s__law_bag) .none kV__law_bag dc__law_bag pm__law_bag an__law_bag cd__law_bag ct__law_bag), sl__law_bag⟩) (c__law_bag : PySem.W.codeIn K cd__law_bag "_law_bag" = true) (k__law_bag : PySem.W.keepIn K (.ref f__law_bag) = true)
    {od__law_pick an__law_pick : Option Addr} {sl__law_pick : Array (Option Value)} {oc__law_pick kV__law_pick dc__law_pick pm__law_pick cd__law_pick ct__law_pick : Value}
    (a__law_pick : PySem.W.nsIn K mainGlobals "_law_pick" = some (some (.ref f__law_pick))) (l__law_pick : K.lookup f__law_pick = some ⟨oc__law_pick, od__law_pick, .func (PySem.W.fnOf "_law_pick" "_law_pick" (defArgs s__law_pick) (defBody s__law_pick) (defScope s__law_pick) .none kV__law_pick dc__law_pick pm__law_pick an__law_pick cd__law_pick ct__law_pick), sl__law_pick⟩) (c__law_pick : PySem.W.codeIn K cd__law_pick "_law_pick" = true) (k__law_pick : PySem.W.keepIn K (.ref f__law_pick) = true)
    {od__law_choice an__law_choice : Option Addr} {sl__law_choice : Array (Option Value)} {oc__law_choice kV__law_choice dc__law_choice pm__law_choice cd__law_choice ct__law_choice : Value}
    (a__law_choice : PySem.W.nsIn K mainGlobals "_law_choice" = some (some (.ref f__law_choice))) (l__law_choice : K.lookup f__law_choice = some ⟨oc__law_choice, od__law_choice, .func (PySem.W.fnOf "_law_choice" "_law_choice" (defArgs s__law_choice) (defBody s__law_choice) (defScope s__law_choice) .none kV__law_choice dc__law_choice pm__law_choice an__law_choice cd__law_choice ct__law_choice), sl__law_choice⟩) (c__law_choice : PySem.W.codeIn K cd__law_choice "_law_choice" = true) (k__law_choice : PySem.W.keepIn K (.ref f__law_choice) = true)
    {od__law_mingled an__law_mingled : Option Addr} {sl__law_mingled : Array (Option Value)} {oc__law_mingled kV__law_mingled dc__law_mingled pm__law_mingled cd__law_mingled ct__law_mingled : Value}
    (a__law_mingled : PySem.W.nsIn K mainGlobals "_law_mingled" = some (some (.ref f__law_mingled))) (l__law_mingled : K.lookup f__law_mingled = some ⟨oc__law_mingled, od__law_mingled, .func (PySem.W.fnOf "_law_mingled" "_law_mingled" (defArgs s__law_mingled) (defBody s__law_mingled) (defScope s__law_mingled) .none kV__law_mingled dc__law_mingled pm__law_mingled an__law_mingled cd__law_mingled ct__law_mingled), sl__law_mingled⟩) (c__law_mingled : PySem.W.codeIn K cd__law_mingled "_law_mingled" = true) (k__law_mingled : PySem.W.keepIn K (.ref f__law_mingled) = true)
    {od__law_form an__law_form : Option Addr} {sl__law_form : Array (Option Value)} {oc__law_form kV__law_form dc__law_form pm__law_form cd__law_form ct__law_form : Value}
    (a__law_form : PySem.W.nsIn K mainGlobals "_law_form" = some (some (.ref f__law_form))) (l__law_form : K.lookup f__law_form = some ⟨oc__law_form, od__law_form, .func (PySem.W.fnOf "_law_form" "_law_form" (defArgs s__law_form) (defBody s__law_form) (defScope s__law_form) .none kV__law_form dc__law_form pm__law_form an__law_form cd__law_form ct__law_form), sl__law_form⟩) (c__law_form : PySem.W.codeIn K cd__law_form "_law_form" = true) (k__law_form : PySem.W.keepIn K (.ref f__law_form) = true)
    {od__law_row an__law_row : Option Addr} {sl__law_row : Array (Option Value)} {oc__law_row kV__law_row dc__law_row pm__law_row cd__law_row ct__law_row : Value}
    (a__law_row : PySem.W.nsIn K mainGlobals "_law_row" = some (some (.ref f__law_row))) (l__law_row : K.lookup f__law_row = some ⟨oc__law_row, od__law_row, .func (PySem.W.fnOf "_law_row" "_law_row" (defArgs s__law_row) (defBody s__law_row) (defScope s__law_row) .none kV__law_row dc__law_row pm__law_row an__law_row cd__law_row ct__law_row), sl__law_row⟩) (c__law_row : PySem.W.codeIn K cd__law_row "_law_row" = true) (k__law_row : PySem.W.keepIn K (.ref f__law_row) = true)
    {od__law_new_name an__law_new_name : Option Addr} {sl__law_new_name : Array (Option Value)} {oc__law_new_name kV__law_new_name dc__law_new_name pm__law_new_name cd__law_new_name ct__law_new_name : Value}
    (a__law_new_name : PySem.W.nsIn K mainGlobals "_law_new_name" = some (some (.ref f__law_new_name))) (l__law_new_name : K.lookup f__law_new_name = some ⟨oc__law_new_name, od__law_new_name, .func (PySem.W.fnOf "_law_new_name" "_law_new_name" (defArgs s__law_new_name) (defBody s__law_new_name) (defScope s__law_new_name) .none kV__law_new_name dc__law_new_name pm__law_new_name an__law_new_name cd__law_new_name ct__law_new_name), sl__law_new_name⟩) (c__law_new_name : PySem.W.codeIn K cd__law_new_name "_law_new_name" = true) (k__law_new_name : PySem.W.keepIn K (.ref f__law_new_name) = true)
    {od__law_read an__law_read : Option Addr} {sl__law_read : Array (Option Value)} {oc__law_read kV__law_read dc__law_read pm__law_read cd__law_read ct__law_read : Value}
    (a__law_read : PySem.W.nsIn K mainGlobals "_law_read" = some (some (.ref f__law_read))) (l__law_read : K.lookup f__law_read = some ⟨oc__law_read, od__law_read, .func (PySem.W.fnOf "_law_read" "_law_read" (defArgs s__law_read) (defBody s__law_read) (defScope s__law_read) .none kV__law_read dc__law_read pm__law_read an__law_read cd__law_read ct__law_read), sl__law_read⟩) (c__law_read : PySem.W.codeIn K cd__law_read "_law_read" = true) (k__law_read : PySem.W.keepIn K (.ref f__law_read) = true)
    {od__law_any_key an__law_any_key : Option Addr} {sl__law_any_key : Array (Option Value)} {oc__law_any_key kV__law_any_key dc__law_any_key pm__law_any_key cd__law_any_key ct__law_any_key : Value}
    (a__law_any_key : PySem.W.nsIn K mainGlobals "_law_any_key" = some (some (.ref f__law_any_key))) (l__law_any_key : K.lookup f__law_any_key = some ⟨oc__law_any_key, od__law_any_key, .func (PySem.W.fnOf "_law_any_key" "_law_any_key" (defArgs s__law_any_key) (defBody s__law_any_key) (defScope s__law_any_key) .none kV__law_any_key dc__law_any_key pm__law_any_key an__law_any_key cd__law_any_key ct__law_any_key), sl__law_any_key⟩) (c__law_any_key : PySem.W.codeIn K cd__law_any_key "_law_any_key" = true) (k__law_any_key : PySem.W.keepIn K (.ref f__law_any_key) = true)
    {od__law_odd_part an__law_odd_part : Option Addr} {sl__law_odd_part : Array (Option Value)} {oc__law_odd_part kV__law_odd_part dc__law_odd_part pm__law_odd_part cd__law_odd_part ct__law_odd_part : Value}
    (a__law_odd_part : PySem.W.nsIn K mainGlobals "_law_odd_part" = some (some (.ref f__law_odd_part))) (l__law_odd_part : K.lookup f__law_odd_part = some ⟨oc__law_odd_part, od__law_odd_part, .func (PySem.W.fnOf "_law_odd_part" "_law_odd_part" (defArgs s__law_odd_part) (defBody s__law_odd_part) (defScope s__law_odd_part) .none kV__law_odd_part dc__law_odd_part pm__law_odd_part an__law_odd_part cd__law_odd_part ct__law_odd_part), sl__law_odd_part⟩) (c__law_odd_part : PySem.W.codeIn K cd__law_odd_part "_law_odd_part" = true) (k__law_odd_part : PySem.W.keepIn K (.ref f__law_odd_part) = true)
    {od__law_spoilt an__law_spoilt : Option Addr} {sl__law_spoilt : Array (Option Value)} {oc__law_spoilt kV__law_spoilt dc__law_spoilt pm__law_spoilt cd__law_spoilt ct__law_spoilt : Value}
    (a__law_spoilt : PySem.W.nsIn K mainGlobals "_law_spoilt" = some (some (.ref f__law_spoilt))) (l__law_spoilt : K.lookup f__law_spoilt = some ⟨oc__law_spoilt, od__law_spoilt, .func (PySem.W.fnOf "_law_spoilt" "_law_spoilt" (defArgs s__law_spoilt) (defBody s__law_spoilt) (defScope s__law_spoilt) .none kV__law_spoilt dc__law_spoilt pm__law_spoilt an__law_spoilt cd__law_spoilt ct__law_spoilt), sl__law_spoilt⟩) (c__law_spoilt : PySem.W.codeIn K cd__law_spoilt "_law_spoilt" = true) (k__law_spoilt : PySem.W.keepIn K (.ref f__law_spoilt) = true)
    {od__law_tower an__law_tower : Option Addr} {sl__law_tower : Array (Option Value)} {oc__law_tower kV__law_tower dc__law_tower pm__law_tower cd__law_tower ct__law_tower : Value}
    (a__law_tower : PySem.W.nsIn K mainGlobals "_law_tower" = some (some (.ref f__law_tower))) (l__law_tower : K.lookup f__law_tower = some ⟨oc__law_tower, od__law_tower, .func (PySem.W.fnOf "_law_tower" "_law_tower" (defArgs s__law_tower) (defBody s__law_tower) (defScope s__law_tower) .none kV__law_tower dc__law_tower pm__law_tower an__law_tower cd__law_tower ct__law_tower), sl__law_tower⟩) (c__law_tower : PySem.W.codeIn K cd__law_tower "_law_tower" = true) (k__law_tower : PySem.W.keepIn K (.ref f__law_tower) = true)
    {od__law_key_told an__law_key_told : Option Addr} {sl__law_key_told : Array (Option Value)} {oc__law_key_told kV__law_key_told dc__law_key_told pm__law_key_told cd__law_key_told ct__law_key_told : Value}
    (a__law_key_told : PySem.W.nsIn K mainGlobals "_law_key_told" = some (some (.ref f__law_key_told))) (l__law_key_told : K.lookup f__law_key_told = some ⟨oc__law_key_told, od__law_key_told, .func (PySem.W.fnOf "_law_key_told" "_law_key_told" (defArgs s__law_key_told) (defBody s__law_key_told) (defScope s__law_key_told) .none kV__law_key_told dc__law_key_told pm__law_key_told an__law_key_told cd__law_key_told ct__law_key_told), sl__law_key_told⟩) (c__law_key_told : PySem.W.codeIn K cd__law_key_told "_law_key_told" = true) (k__law_key_told : PySem.W.keepIn K (.ref f__law_key_told) = true)
    {od__law_forms_refused an__law_forms_refused : Option Addr} {sl__law_forms_refused : Array (Option Value)} {oc__law_forms_refused kV__law_forms_refused dc__law_forms_refused pm__law_forms_refused cd__law_forms_refused ct__law_forms_refused : Value}
    (a__law_forms_refused : PySem.W.nsIn K mainGlobals "_law_forms_refused" = some (some (.ref f__law_forms_refused))) (l__law_forms_refused : K.lookup f__law_forms_refused = some ⟨oc__law_forms_refused, od__law_forms_refused, .func (PySem.W.fnOf "_law_forms_refused" "_law_forms_refused" (defArgs s__law_forms_refused) (defBody s__law_forms_refused) (defScope s__law_forms_refused) .none kV__law_forms_refused dc__law_forms_refused pm__law_forms_refused an__law_forms_refused cd__law_forms_refused ct__law_forms_refused), sl__law_forms_refused⟩) (c__law_forms_refused : PySem.W.codeIn K cd__law_forms_refused "_law_forms_refused" = true) (k__law_forms_refused : PySem.W.keepIn K (.ref f__law_forms_refused) = true)
    {od__law_some_row an__law_some_row : Option Addr} {sl__law_some_row : Array (Option Value)} {oc__law_some_row kV__law_some_row dc__law_some_row pm__law_some_row cd__law_some_row ct__law_some_row : Value}
    (a__law_some_row : PySem.W.nsIn K mainGlobals "_law_some_row" = some (some (.ref f__law_some_row))) (l__law_some_row : K.lookup f__law_some_row = some ⟨oc__law_some_row, od__law_some_row, .func (PySem.W.fnOf "_law_some_row" "_law_some_row" (defArgs s__law_some_row) (defBody s__law_some_row) (defScope s__law_some_row) .none kV__law_some_row dc__law_some_row pm__law_some_row an__law_some_row cd__law_some_row ct__law_some_row), sl__law_some_row⟩) (c__law_some_row : PySem.W.codeIn K cd__law_some_row "_law_some_row" = true) (k__law_some_row : PySem.W.keepIn K (.ref f__law_some_row) = true)
    {od__law_bad_row an__law_bad_row : Option Addr} {sl__law_bad_row : Array (Option Value)} {oc__law_bad_row kV__law_bad_row dc__law_bad_row pm__law_bad_row cd__law_bad_row ct__law_bad_row : Value}
    (a__law_bad_row : PySem.W.nsIn K mainGlobals "_law_bad_row" = some (some (.ref f__law_bad_row))) (l__law_bad_row : K.lookup f__law_bad_row = some ⟨oc__law_bad_row, od__law_bad_row, .func (PySem.W.fnOf "_law_bad_row" "_law_bad_row" (defArgs s__law_bad_row) (defBody s__law_bad_row) (defScope s__law_bad_row) .none kV__law_bad_row dc__law_bad_row pm__law_bad_row an__law_bad_row cd__law_bad_row ct__law_bad_row), sl__law_bad_row⟩) (c__law_bad_row : PySem.W.codeIn K cd__law_bad_row "_law_bad_row" = true) (k__law_bad_row : PySem.W.keepIn K (.ref f__law_bad_row) = true)
    {od__law_called an__law_called : Option Addr} {sl__law_called : Array (Option Value)} {oc__law_called kV__law_called dc__law_called pm__law_called cd__law_called ct__law_called : Value}
    (a__law_called : PySem.W.nsIn K mainGlobals "_law_called" = some (some (.ref f__law_called))) (l__law_called : K.lookup f__law_called = some ⟨oc__law_called, od__law_called, .func (PySem.W.fnOf "_law_called" "_law_called" (defArgs s__law_called) (defBody s__law_called) (defScope s__law_called) .none kV__law_called dc__law_called pm__law_called an__law_called cd__law_called ct__law_called), sl__law_called⟩) (c__law_called : PySem.W.codeIn K cd__law_called "_law_called" = true) (k__law_called : PySem.W.keepIn K (.ref f__law_called) = true)
    {od__law_row_told an__law_row_told : Option Addr} {sl__law_row_told : Array (Option Value)} {oc__law_row_told kV__law_row_told dc__law_row_told pm__law_row_told cd__law_row_told ct__law_row_told : Value}
    (a__law_row_told : PySem.W.nsIn K mainGlobals "_law_row_told" = some (some (.ref f__law_row_told))) (l__law_row_told : K.lookup f__law_row_told = some ⟨oc__law_row_told, od__law_row_told, .func (PySem.W.fnOf "_law_row_told" "_law_row_told" (defArgs s__law_row_told) (defBody s__law_row_told) (defScope s__law_row_told) .none kV__law_row_told dc__law_row_told pm__law_row_told an__law_row_told cd__law_row_told ct__law_row_told), sl__law_row_told⟩) (c__law_row_told : PySem.W.codeIn K cd__law_row_told "_law_row_told" = true) (k__law_row_told : PySem.W.keepIn K (.ref f__law_row_told) = true)
    {od_law an_law : Option Addr} {sl_law : Array (Option Value)} {oc_law kV_law dc_law pm_law cd_law ct_law : Value}
    (a_law : PySem.W.nsIn K mainGlobals "law" = some (some (.ref f_law))) (l_law : K.lookup f_law = some ⟨oc_law, od_law, .func (PySem.W.fnOf "law" "law" (defArgs s_law) (defBody s_law) (defScope s_law) .none kV_law dc_law pm_law an_law cd_law ct_law), sl_law⟩) (c_law : PySem.W.codeIn K cd_law "law" = true) (k_law : PySem.W.keepIn K (.ref f_law) = true)
    (aC_Key : PySem.W.nsIn K mainGlobals "Key" = some (some (.ref C_Key))) (pg_Key : PySem.W.plainGet K C_Key Str.empty = true) (hd_Key : PySem.W.hasDictIn K C_Key = true) (po_Key : PySem.W.plainOver K C_Key = true) (sa_Key : PySem.W.findIn K (.ref C_Key) "__setattr__" = some (some (.builtin "object.__setattr__"))) (mk_Key : PySem.W.makesIn K C_Key = true) (kc_Key : PySem.W.keepIn K (.ref C_Key) = true) (nf_Key : PySem.W.notFirst K C_Key (.ref C_Key) = true) (ih_Key : PySem.W.findIn K (.ref C_Key) "__class__" = some (some (.builtin "object.__class__"))) (ig_Key : PySem.W.specialIn K (.builtin "object.__class__") "__get__" = some (some (.builtin "getset_descriptor.__get__"))) (it_Key : PySem.W.takesIn K (.builtin "object.__class__") = some true) (io_Key : PySem.W.mroIn K C_Key (.type "object") = some true) (ik_Key : PySem.W.kitOne K (.ref C_Key) (.ref C_Key) = some true)
    (nA_Key__parts : PySem.W.findIn K (.ref C_Key) "_parts" = some none)
    {od_Key___init__ an_Key___init__ : Option Addr} {sl_Key___init__ : Array (Option Value)} {oc_Key___init__ kV_Key___init__ dc_Key___init__ pm_Key___init__ cd_Key___init__ ct_Key___init__ : Value}
    (a_Key___init__ : PySem.W.findIn K (.ref C_Key) "__init__" = some (some (.ref f_Key___init__))) (i_Key___init__ : PySem.W.isFn K (.ref f_Key___init__) = true) (n_Key___init__ : PySem.W.fnIn K f_Key___init__ = true)
    (l_Key___init__ : K.lookup f_Key___init__ = some ⟨oc_Key___init__, od_Key___init__, .func (PySem.W.fnOf "__init__" "Key.__init__" (defArgs s_Key___init__) (defBody s_Key___init__) (defScope s_Key___init__) .none kV_Key___init__ dc_Key___init__ pm_Key___init__ an_Key___init__ cd_Key___init__ ct_Key___init__), sl_Key___init__⟩) (c_Key___init__ : PySem.W.codeIn K cd_Key___init__ "Key.__init__" = true) (k_Key___init__ : PySem.W.keepIn K (.ref f_Key___init__) = true)
    {od_Key_parts an_Key_parts : Option Addr} {sl_Key_parts : Array (Option Value)} {oc_Key_parts kV_Key_parts dc_Key_parts pm_Key_parts cd_Key_parts ct_Key_parts : Value}
    {re_Key_parts : List Value} (a_Key_parts : PySem.W.findIn K (.ref C_Key) "parts" = some (some (.ref p_Key_parts))) (ge_Key_parts : PySem.W.specialIn K (.ref p_Key_parts) "__get__" = some (some (.builtin "property.__get__"))) (ta_Key_parts : PySem.W.takesIn K (.ref p_Key_parts) = some true) (re1_Key_parts : PySem.W.recIn K p_Key_parts "property" = some (.ref f_Key_parts :: re_Key_parts))
    (l_Key_parts : K.lookup f_Key_parts = some ⟨oc_Key_parts, od_Key_parts, .func (PySem.W.fnOf "parts" "Key.parts" (defArgs s_Key_parts) (defBody s_Key_parts) (defScope s_Key_parts) .none kV_Key_parts dc_Key_parts pm_Key_parts an_Key_parts cd_Key_parts ct_Key_parts), sl_Key_parts⟩) (c_Key_parts : PySem.W.codeIn K cd_Key_parts "Key.parts" = true) (k_Key_parts : PySem.W.keepIn K (.ref f_Key_parts) = true)
    {od_Key___call__ an_Key___call__ : Option Addr} {sl_Key___call__ : Array (Option Value)} {oc_Key___call__ kV_Key___call__ dc_Key___call__ pm_Key___call__ cd_Key___call__ ct_Key___call__ : Value}
    (a_Key___call__ : PySem.W.findIn K (.ref C_Key) "__call__" = some (some (.ref f_Key___call__))) (i_Key___call__ : PySem.W.isFn K (.ref f_Key___call__) = true) (n_Key___call__ : PySem.W.fnIn K f_Key___call__ = true)
    (l_Key___call__ : K.lookup f_Key___call__ = some ⟨oc_Key___call__, od_Key___call__, .func (PySem.W.fnOf "__call__" "Key.__call__" (defArgs s_Key___call__) (defBody s_Key___call__) (defScope s_Key___call__) .none kV_Key___call__ dc_Key___call__ pm_Key___call__ an_Key___call__ cd_Key___call__ ct_Key___call__), sl_Key___call__⟩) (c_Key___call__ : PySem.W.codeIn K cd_Key___call__ "Key.__call__" = true) (k_Key___call__ : PySem.W.keepIn K (.ref f_Key___call__) = true)
    {od_Key___le__ an_Key___le__ : Option Addr} {sl_Key___le__ : Array (Option Value)} {oc_Key___le__ kV_Key___le__ dc_Key___le__ pm_Key___le__ cd_Key___le__ ct_Key___le__ : Value}
    (a_Key___le__ : PySem.W.findIn K (.ref C_Key) "__le__" = some (some (.ref f_Key___le__))) (i_Key___le__ : PySem.W.isFn K (.ref f_Key___le__) = true) (n_Key___le__ : PySem.W.fnIn K f_Key___le__ = true)
    (l_Key___le__ : K.lookup f_Key___le__ = some ⟨oc_Key___le__, od_Key___le__, .func (PySem.W.fnOf "__le__" "Key.__le__" (defArgs s_Key___le__) (defBody s_Key___le__) (defScope s_Key___le__) .none kV_Key___le__ dc_Key___le__ pm_Key___le__ an_Key___le__ cd_Key___le__ ct_Key___le__), sl_Key___le__⟩) (c_Key___le__ : PySem.W.codeIn K cd_Key___le__ "Key.__le__" = true) (k_Key___le__ : PySem.W.keepIn K (.ref f_Key___le__) = true)
    {od_Key_idents an_Key_idents : Option Addr} {sl_Key_idents : Array (Option Value)} {oc_Key_idents kV_Key_idents dc_Key_idents pm_Key_idents cd_Key_idents ct_Key_idents : Value}
    (a_Key_idents : PySem.W.findIn K (.ref C_Key) "idents" = some (some (.ref f_Key_idents))) (i_Key_idents : PySem.W.isFn K (.ref f_Key_idents) = true) (n_Key_idents : PySem.W.fnIn K f_Key_idents = true)
    (l_Key_idents : K.lookup f_Key_idents = some ⟨oc_Key_idents, od_Key_idents, .func (PySem.W.fnOf "idents" "Key.idents" (defArgs s_Key_idents) (defBody s_Key_idents) (defScope s_Key_idents) .none kV_Key_idents dc_Key_idents pm_Key_idents an_Key_idents cd_Key_idents ct_Key_idents), sl_Key_idents⟩) (c_Key_idents : PySem.W.codeIn K cd_Key_idents "Key.idents" = true) (k_Key_idents : PySem.W.keepIn K (.ref f_Key_idents) = true)
    (aC_ScreenError : PySem.W.nsIn K mainGlobals "ScreenError" = some (some (.ref C_ScreenError))) (hd_ScreenError : PySem.W.hasDictIn K C_ScreenError = true) (ty_ScreenError : PySem.W.typeIn K (.ref C_ScreenError) = some (.type "type")) (be_ScreenError : PySem.W.subIn K (.ref C_ScreenError) (.type "BaseException") = some true) (vb_ScreenError : PySem.W.subIn K (.ref C_ScreenError) (.type "ValueError") = some true)
    (aC_BadForm : PySem.W.nsIn K mainGlobals "BadForm" = some (some (.ref C_BadForm))) (hd_BadForm : PySem.W.hasDictIn K C_BadForm = true) (ty_BadForm : PySem.W.typeIn K (.ref C_BadForm) = some (.type "type")) (be_BadForm : PySem.W.subIn K (.ref C_BadForm) (.type "BaseException") = some true) (vb_BadForm : PySem.W.subIn K (.ref C_BadForm) (.type "ValueError") = some true)
    {nm_BadForm q_BadForm : Str} {N_BadForm : Addr} {bs_BadForm bm_BadForm : List Value} {sn_BadForm : List Str} {sub_BadForm : List Value} {ab_BadForm : Bool} {col_BadForm : Option Bool} {dd_BadForm : Option Addr} {k0_BadForm k1_BadForm k2_BadForm k3_BadForm k5_BadForm : Option Value} (lx_BadForm : K.lookup C_BadForm = some (excClassObj nm_BadForm q_BadForm C_BadForm N_BadForm bs_BadForm bm_BadForm true sn_BadForm sub_BadForm ab_BadForm col_BadForm dd_BadForm k0_BadForm k1_BadForm k2_BadForm k3_BadForm k5_BadForm "ValueError.__new__")) (rv_BadForm : PySem.HandSPX.refsVE bm_BadForm = true)
    (sa_BadForm : PySem.W.findIn K (.ref C_BadForm) "__setattr__" = some (some (.builtin "object.__setattr__"))) (kc_BadForm : PySem.W.keepIn K (.ref C_BadForm) = true) (ga_BadForm : PySem.W.findIn K (.ref C_BadForm) "__getattribute__" = some (some (.builtin "BaseException.__getattribute__"))) (gg_BadForm : PySem.W.findIn K (.ref C_BadForm) "__getattr__" = some none) (ca_BadForm : PySem.W.findIn K (.ref C_BadForm) "__class__" = some (some (.builtin "object.__class__"))) (cg_BadForm : PySem.W.specialIn K (.builtin "object.__class__") "__get__" = some (some (.builtin "getset_descriptor.__get__"))) (ck_BadForm : PySem.W.takesIn K (.builtin "object.__class__") = some true) (mo_BadForm : PySem.W.mroIn K C_BadForm (.type "object") = some true)
    {od_BadForm___init__ an_BadForm___init__ : Option Addr} {sl_BadForm___init__ : Array (Option Value)} {oc_BadForm___init__ kV_BadForm___init__ dc_BadForm___init__ pm_BadForm___init__ cd_BadForm___init__ ct_BadForm___init__ : Value} (iC_BadForm : PySem.W.findIn K (.ref C_BadForm) "__init__" = some (some (.ref f_BadForm___init__))) (tI_BadForm : PySem.W.typeIn K (.ref f_BadForm___init__) = some (.type "function"))
    (l_BadForm___init__ : K.lookup f_BadForm___init__ = some ⟨oc_BadForm___init__, od_BadForm___init__, .func (PySem.W.fnOf "__init__" "BadForm.__init__" (defArgs s_BadForm___init__) (defBody s_BadForm___init__) (defScope s_BadForm___init__) .none kV_BadForm___init__ dc_BadForm___init__ pm_BadForm___init__ an_BadForm___init__ cd_BadForm___init__ ct_BadForm___init__), sl_BadForm___init__⟩) (c_BadForm___init__ : PySem.W.codeIn K cd_BadForm___init__ "BadForm.__init__" = true) (k_BadForm___init__ : PySem.W.keepIn K (.ref f_BadForm___init__) = true)
    (nf_BadForm_part : PySem.W.findIn K (.ref C_BadForm) "part" = some none)
    (aC_NoName : PySem.W.nsIn K mainGlobals "NoName" = some (some (.ref C_NoName))) (hd_NoName : PySem.W.hasDictIn K C_NoName = true) (ty_NoName : PySem.W.typeIn K (.ref C_NoName) = some (.type "type")) (be_NoName : PySem.W.subIn K (.ref C_NoName) (.type "BaseException") = some true) (vb_NoName : PySem.W.subIn K (.ref C_NoName) (.type "ValueError") = some true)
    {nm_NoName q_NoName : Str} {N_NoName : Addr} {bs_NoName bm_NoName : List Value} {sn_NoName : List Str} {sub_NoName : List Value} {ab_NoName : Bool} {col_NoName : Option Bool} {dd_NoName : Option Addr} {k0_NoName k1_NoName k2_NoName k3_NoName k5_NoName : Option Value} (lx_NoName : K.lookup C_NoName = some (excClassObj nm_NoName q_NoName C_NoName N_NoName bs_NoName bm_NoName true sn_NoName sub_NoName ab_NoName col_NoName dd_NoName k0_NoName k1_NoName k2_NoName k3_NoName k5_NoName "ValueError.__new__")) (rv_NoName : PySem.HandSPX.refsVE bm_NoName = true)
    (sa_NoName : PySem.W.findIn K (.ref C_NoName) "__setattr__" = some (some (.builtin "object.__setattr__"))) (kc_NoName : PySem.W.keepIn K (.ref C_NoName) = true) (ga_NoName : PySem.W.findIn K (.ref C_NoName) "__getattribute__" = some (some (.builtin "BaseException.__getattribute__"))) (gg_NoName : PySem.W.findIn K (.ref C_NoName) "__getattr__" = some none) (ca_NoName : PySem.W.findIn K (.ref C_NoName) "__class__" = some (some (.builtin "object.__class__"))) (cg_NoName : PySem.W.specialIn K (.builtin "object.__class__") "__get__" = some (some (.builtin "getset_descriptor.__get__"))) (ck_NoName : PySem.W.takesIn K (.builtin "object.__class__") = some true) (mo_NoName : PySem.W.mroIn K C_NoName (.type "object") = some true)
    {od_NoName___init__ an_NoName___init__ : Option Addr} {sl_NoName___init__ : Array (Option Value)} {oc_NoName___init__ kV_NoName___init__ dc_NoName___init__ pm_NoName___init__ cd_NoName___init__ ct_NoName___init__ : Value} (iC_NoName : PySem.W.findIn K (.ref C_NoName) "__init__" = some (some (.ref f_NoName___init__))) (tI_NoName : PySem.W.typeIn K (.ref f_NoName___init__) = some (.type "function"))
    (l_NoName___init__ : K.lookup f_NoName___init__ = some ⟨oc_NoName___init__, od_NoName___init__, .func (PySem.W.fnOf "__init__" "NoName.__init__" (defArgs s_NoName___init__) (defBody s_NoName___init__) (defScope s_NoName___init__) .none kV_NoName___init__ dc_NoName___init__ pm_NoName___init__ an_NoName___init__ cd_NoName___init__ ct_NoName___init__), sl_NoName___init__⟩) (c_NoName___init__ : PySem.W.codeIn K cd_NoName___init__ "NoName.__init__" = true) (k_NoName___init__ : PySem.W.keepIn K (.ref f_NoName___init__) = true)
    (nf_NoName_name : PySem.W.findIn K (.ref C_NoName) "name" = some none)
    (aC_BadRow : PySem.W.nsIn K mainGlobals "BadRow" = some (some (.ref C_BadRow))) (hd_BadRow : PySem.W.hasDictIn K C_BadRow = true) (ty_BadRow : PySem.W.typeIn K (.ref C_BadRow) = some (.type "type")) (be_BadRow : PySem.W.subIn K (.ref C_BadRow) (.type "BaseException") = some true) (vb_BadRow : PySem.W.subIn K (.ref C_BadRow) (.type "ValueError") = some true)
    {nm_BadRow q_BadRow : Str} {N_BadRow : Addr} {bs_BadRow bm_BadRow : List Value} {sn_BadRow : List Str} {sub_BadRow : List Value} {ab_BadRow : Bool} {col_BadRow : Option Bool} {dd_BadRow : Option Addr} {k0_BadRow k1_BadRow k2_BadRow k3_BadRow k5_BadRow : Option Value} (lx_BadRow : K.lookup C_BadRow = some (excClassObj nm_BadRow q_BadRow C_BadRow N_BadRow bs_BadRow bm_BadRow true sn_BadRow sub_BadRow ab_BadRow col_BadRow dd_BadRow k0_BadRow k1_BadRow k2_BadRow k3_BadRow k5_BadRow "ValueError.__new__")) (rv_BadRow : PySem.HandSPX.refsVE bm_BadRow = true)
    (sa_BadRow : PySem.W.findIn K (.ref C_BadRow) "__setattr__" = some (some (.builtin "object.__setattr__"))) (kc_BadRow : PySem.W.keepIn K (.ref C_BadRow) = true) (ga_BadRow : PySem.W.findIn K (.ref C_BadRow) "__getattribute__" = some (some (.builtin "BaseException.__getattribute__"))) (gg_BadRow : PySem.W.findIn K (.ref C_BadRow) "__getattr__" = some none) (ca_BadRow : PySem.W.findIn K (.ref C_BadRow) "__class__" = some (some (.builtin "object.__class__"))) (cg_BadRow : PySem.W.specialIn K (.builtin "object.__class__") "__get__" = some (some (.builtin "getset_descriptor.__get__"))) (ck_BadRow : PySem.W.takesIn K (.builtin "object.__class__") = some true) (mo_BadRow : PySem.W.mroIn K C_BadRow (.type "object") = some true)
    {od_BadRow___init__ an_BadRow___init__ : Option Addr} {sl_BadRow___init__ : Array (Option Value)} {oc_BadRow___init__ kV_BadRow___init__ dc_BadRow___init__ pm_BadRow___init__ cd_BadRow___init__ ct_BadRow___init__ : Value} (iC_BadRow : PySem.W.findIn K (.ref C_BadRow) "__init__" = some (some (.ref f_BadRow___init__))) (tI_BadRow : PySem.W.typeIn K (.ref f_BadRow___init__) = some (.type "function"))
    (l_BadRow___init__ : K.lookup f_BadRow___init__ = some ⟨oc_BadRow___init__, od_BadRow___init__, .func (PySem.W.fnOf "__init__" "BadRow.__init__" (defArgs s_BadRow___init__) (defBody s_BadRow___init__) (defScope s_BadRow___init__) .none kV_BadRow___init__ dc_BadRow___init__ pm_BadRow___init__ an_BadRow___init__ cd_BadRow___init__ ct_BadRow___init__), sl_BadRow___init__⟩) (c_BadRow___init__ : PySem.W.codeIn K cd_BadRow___init__ "BadRow.__init__" = true) (k_BadRow___init__ : PySem.W.keepIn K (.ref f_BadRow___init__) = true)
    (nf_BadRow_row : PySem.W.findIn K (.ref C_BadRow) "row" = some none)
    (aC_NoItem : PySem.W.nsIn K mainGlobals "NoItem" = some (some (.ref C_NoItem))) (hd_NoItem : PySem.W.hasDictIn K C_NoItem = true) (ty_NoItem : PySem.W.typeIn K (.ref C_NoItem) = some (.type "type")) (be_NoItem : PySem.W.subIn K (.ref C_NoItem) (.type "BaseException") = some true) (vb_NoItem : PySem.W.subIn K (.ref C_NoItem) (.type "ValueError") = some true)
    {nm_NoItem q_NoItem : Str} {N_NoItem : Addr} {bs_NoItem bm_NoItem : List Value} {sn_NoItem : List Str} {sub_NoItem : List Value} {ab_NoItem : Bool} {col_NoItem : Option Bool} {dd_NoItem : Option Addr} {k0_NoItem k1_NoItem k2_NoItem k3_NoItem k5_NoItem : Option Value} (lx_NoItem : K.lookup C_NoItem = some (excClassObj nm_NoItem q_NoItem C_NoItem N_NoItem bs_NoItem bm_NoItem true sn_NoItem sub_NoItem ab_NoItem col_NoItem dd_NoItem k0_NoItem k1_NoItem k2_NoItem k3_NoItem k5_NoItem "ValueError.__new__")) (rv_NoItem : PySem.HandSPX.refsVE bm_NoItem = true)
    (sa_NoItem : PySem.W.findIn K (.ref C_NoItem) "__setattr__" = some (some (.builtin "object.__setattr__"))) (kc_NoItem : PySem.W.keepIn K (.ref C_NoItem) = true) (ga_NoItem : PySem.W.findIn K (.ref C_NoItem) "__getattribute__" = some (some (.builtin "BaseException.__getattribute__"))) (gg_NoItem : PySem.W.findIn K (.ref C_NoItem) "__getattr__" = some none) (ca_NoItem : PySem.W.findIn K (.ref C_NoItem) "__class__" = some (some (.builtin "object.__class__"))) (cg_NoItem : PySem.W.specialIn K (.builtin "object.__class__") "__get__" = some (some (.builtin "getset_descriptor.__get__"))) (ck_NoItem : PySem.W.takesIn K (.builtin "object.__class__") = some true) (mo_NoItem : PySem.W.mroIn K C_NoItem (.type "object") = some true)
    {od_NoItem___init__ an_NoItem___init__ : Option Addr} {sl_NoItem___init__ : Array (Option Value)} {oc_NoItem___init__ kV_NoItem___init__ dc_NoItem___init__ pm_NoItem___init__ cd_NoItem___init__ ct_NoItem___init__ : Value} (iC_NoItem : PySem.W.findIn K (.ref C_NoItem) "__init__" = some (some (.ref f_NoItem___init__))) (tI_NoItem : PySem.W.typeIn K (.ref f_NoItem___init__) = some (.type "function"))
    (l_NoItem___init__ : K.lookup f_NoItem___init__ = some ⟨oc_NoItem___init__, od_NoItem___init__, .func (PySem.W.fnOf "__init__" "NoItem.__init__" (defArgs s_NoItem___init__) (defBody s_NoItem___init__) (defScope s_NoItem___init__) .none kV_NoItem___init__ dc_NoItem___init__ pm_NoItem___init__ an_NoItem___init__ cd_NoItem___init__ ct_NoItem___init__), sl_NoItem___init__⟩) (c_NoItem___init__ : PySem.W.codeIn K cd_NoItem___init__ "NoItem.__init__" = true) (k_NoItem___init__ : PySem.W.keepIn K (.ref f_NoItem___init__) = true)
    (nf_NoItem_item : PySem.W.findIn K (.ref C_NoItem) "item" = some none)
    (ne_BadForm_ScreenError : C_BadForm ≠ C_ScreenError) (s_BadForm_ScreenError : PySem.W.subIn K (.ref C_BadForm) (.ref C_ScreenError) = some true)
    (ne_BadForm_NoName : C_BadForm ≠ C_NoName) (s_BadForm_NoName : PySem.W.subIn K (.ref C_BadForm) (.ref C_NoName) = some false)
    (ne_BadForm_BadRow : C_BadForm ≠ C_BadRow) (s_BadForm_BadRow : PySem.W.subIn K (.ref C_BadForm) (.ref C_BadRow) = some false)
    (ne_BadForm_NoItem : C_BadForm ≠ C_NoItem) (s_BadForm_NoItem : PySem.W.subIn K (.ref C_BadForm) (.ref C_NoItem) = some false)
    (ne_NoName_ScreenError : C_NoName ≠ C_ScreenError) (s_NoName_ScreenError : PySem.W.subIn K (.ref C_NoName) (.ref C_ScreenError) = some true)
    (ne_NoName_BadForm : C_NoName ≠ C_BadForm) (s_NoName_BadForm : PySem.W.subIn K (.ref C_NoName) (.ref C_BadForm) = some false)
    (ne_NoName_BadRow : C_NoName ≠ C_BadRow) (s_NoName_BadRow : PySem.W.subIn K (.ref C_NoName) (.ref C_BadRow) = some false)
    (ne_NoName_NoItem : C_NoName ≠ C_NoItem) (s_NoName_NoItem : PySem.W.subIn K (.ref C_NoName) (.ref C_NoItem) = some false)
    (ne_BadRow_ScreenError : C_BadRow ≠ C_ScreenError) (s_BadRow_ScreenError : PySem.W.subIn K (.ref C_BadRow) (.ref C_ScreenError) = some true)
    (ne_BadRow_BadForm : C_BadRow ≠ C_BadForm) (s_BadRow_BadForm : PySem.W.subIn K (.ref C_BadRow) (.ref C_BadForm) = some false)
    (ne_BadRow_NoName : C_BadRow ≠ C_NoName) (s_BadRow_NoName : PySem.W.subIn K (.ref C_BadRow) (.ref C_NoName) = some false)
    (ne_BadRow_NoItem : C_BadRow ≠ C_NoItem) (s_BadRow_NoItem : PySem.W.subIn K (.ref C_BadRow) (.ref C_NoItem) = some false)
    (ne_NoItem_ScreenError : C_NoItem ≠ C_ScreenError) (s_NoItem_ScreenError : PySem.W.subIn K (.ref C_NoItem) (.ref C_ScreenError) = some true)
    (ne_NoItem_BadForm : C_NoItem ≠ C_BadForm) (s_NoItem_BadForm : PySem.W.subIn K (.ref C_NoItem) (.ref C_BadForm) = some false)
    (ne_NoItem_NoName : C_NoItem ≠ C_NoName) (s_NoItem_NoName : PySem.W.subIn K (.ref C_NoItem) (.ref C_NoName) = some false)
    (ne_NoItem_BadRow : C_NoItem ≠ C_BadRow) (s_NoItem_BadRow : PySem.W.subIn K (.ref C_NoItem) (.ref C_BadRow) = some false)
    {t_MOST_LETTERS : Tok} (z_MOST_LETTERS : PySem.W.nsIn K mainGlobals "MOST_LETTERS" = some (some (.int 8 t_MOST_LETTERS)))
    {t_MOST_LEVELS : Tok} (z_MOST_LEVELS : PySem.W.nsIn K mainGlobals "MOST_LEVELS" = some (some (.int 5 t_MOST_LEVELS)))
    {t_MOST_ITEMS : Tok} (z_MOST_ITEMS : PySem.W.nsIn K mainGlobals "MOST_ITEMS" = some (some (.int 5 t_MOST_ITEMS)))
    (z_ValueError : PySem.W.nsIn K mainGlobals "ValueError" = some none)
    (z_abs : PySem.W.nsIn K mainGlobals "abs" = some none)
    (z_all : PySem.W.nsIn K mainGlobals "all" = some none)
    (z_any : PySem.W.nsIn K mainGlobals "any" = some none)
    (z_bool : PySem.W.nsIn K mainGlobals "bool" = some none)
    (z_enumerate : PySem.W.nsIn K mainGlobals "enumerate" = some none)
    (z_int : PySem.W.nsIn K mainGlobals "int" = some none)
    (z_isinstance : PySem.W.nsIn K mainGlobals "isinstance" = some none)
    (z_len : PySem.W.nsIn K mainGlobals "len" = some none)
    (z_list : PySem.W.nsIn K mainGlobals "list" = some none)
    (z_range : PySem.W.nsIn K mainGlobals "range" = some none)
    (z_repr : PySem.W.nsIn K mainGlobals "repr" = some none)
    (z_set : PySem.W.nsIn K mainGlobals "set" = some none)
    (z_str : PySem.W.nsIn K mainGlobals "str" = some none)
    (z_tuple : PySem.W.nsIn K mainGlobals "tuple" = some none)
    {pM : Addr} {esM : Array DictEntry} {nM : Nat} {tM1 tM2 tM3 : Tok} (uM : PySem.W.nsIn K mainGlobals "MANY_PARTS" = some (some (.ref pM))) (lM : K.lookup pM = some ⟨.type "dict", none, .dict esM nM, #[]⟩) (kM : PySem.W.KeysLit w.params esM.toList) (oM : (pM == sysModules) = false)
    (i1 : PySem.W.nsIn K pM "is" = some none) (i2 : PySem.W.nsIn K pM "get" = some none) (i3 : PySem.W.nsIn K pM "sum" = some (some (.int 2 tM1))) (i4 : PySem.W.nsIn K pM "same" = some (some (.int 2 tM2))) (i5 : PySem.W.nsIn K pM "pick" = some (some (.int 3 tM3))) (i6 : PySem.W.nsIn K pM "add" = some none) :
    ∃ fd : FuncData, (∀ (s : Shared) (v : Value), BindsTo s fd ⟨[v], []⟩ [("_law_script", v)]) ∧ ∀ base : Heap, K.In base → base.Ns mainGlobals mg → FnG l.prog w K mg base CX0 16 fa fd ["_law_script"] (sp_law K) := by
  have e := hfa.symm.trans (PySem.W.mg_of X G a_law)
  cases e
  let T : Txt K mg := { f_is_whole := f_is_whole, d_is_whole := _, F_is_whole := fun_mk (st := s_is_whole) l_is_whole c_is_whole k_is_whole, b_is_whole := (fun_mk (st := s_is_whole) l_is_whole c_is_whole k_is_whole).binds fun _ _ _ _ _ _ us hl => match us, hl with | [_], _ => rfl, g_is_whole := PySem.W.mg_of X G a_is_whole, f_is_value := f_is_value, d_is_value := _, F_is_value := fun_mk (st := s_is_value) l_is_value c_is_value k_is_value, b_is_value := (fun_mk (st := s_is_value) l_is_value c_is_value k_is_value).binds fun _ _ _ _ _ _ us hl => match us, hl with | [_], _ => rfl, g_is_value := PySem.W.mg_of X G a_is_value, f_is_name := f_is_name, d_is_name := _, F_is_name := fun_mk (st := s_is_name) l_is_name c_is_name k_is_name, b_is_name := (fun_mk (st := s_is_name) l_is_name c_is_name k_is_name).binds fun _ _ _ _ _ _ us hl => match us, hl with | [_], _ => rfl, g_is_name := PySem.W.mg_of X G a_is_name, f_inner_forms := f_inner_forms, d_inner_forms := _, F_inner_forms := fun_mk (st := s_inner_forms) l_inner_forms c_inner_forms k_inner_forms, b_inner_forms := (fun_mk (st := s_inner_forms) l_inner_forms c_inner_forms k_inner_forms).binds fun _ _ _ _ _ _ us hl => match us, hl with | [_], _ => rfl, g_inner_forms := PySem.W.mg_of X G a_inner_forms, f__well_made := f__well_made, d__well_made := _, F__well_made := fun_mk (st := s__well_made) l__well_made c__well_made k__well_made, b__well_made := (fun_mk (st := s__well_made) l__well_made c__well_made k__well_made).binds fun _ _ _ _ _ _ us hl => match us, hl with | [_], _ => rfl, g__well_made := PySem.W.mg_of X G a__well_made, f_check_form := f_check_form, d_check_form := _, F_check_form := fun_mk (st := s_check_form) l_check_form c_check_form k_check_form, b_check_form := (fun_mk (st := s_check_form) l_check_form c_check_form k_check_form).binds fun _ _ _ _ _ _ us hl => match us, hl with | [_], _ => rfl, g_check_form := PySem.W.mg_of X G a_check_form, f_value_of := f_value_of, d_value_of := _, F_value_of := fun_mk (st := s_value_of) l_value_of c_value_of k_value_of, b_value_of := (fun_mk (st := s_value_of) l_value_of c_value_of k_value_of).binds fun _ _ _ _ _ _ us hl => match us, hl with | [_, _], _ => rfl, g_value_of := PySem.W.mg_of X G a_value_of, f_names_in := f_names_in, d_names_in := _, F_names_in := fun_mk (st := s_names_in) l_names_in c_names_in k_names_in, b_names_in := (fun_mk (st := s_names_in) l_names_in c_names_in k_names_in).binds fun _ _ _ _ _ _ us hl => match us, hl with | [_], _ => rfl, g_names_in := PySem.W.mg_of X G a_names_in, f_is_row := f_is_row, d_is_row := _, F_is_row := fun_mk (st := s_is_row) l_is_row c_is_row k_is_row, b_is_row := (fun_mk (st := s_is_row) l_is_row c_is_row k_is_row).binds fun _ _ _ _ _ _ us hl => match us, hl with | [_], _ => rfl, g_is_row := PySem.W.mg_of X G a_is_row, f_check_rows := f_check_rows, d_check_rows := _, F_check_rows := fun_mk (st := s_check_rows) l_check_rows c_check_rows k_check_rows, b_check_rows := (fun_mk (st := s_check_rows) l_check_rows c_check_rows k_check_rows).binds fun _ _ _ _ _ _ us hl => match us, hl with | [_], _ => rfl, g_check_rows := PySem.W.mg_of X G a_check_rows, f__key_value := f__key_value, d__key_value := _, F__key_value := fun_mk (st := s__key_value) l__key_value c__key_value k__key_value, b__key_value := (fun_mk (st := s__key_value) l__key_value c__key_value k__key_value).binds fun _ _ _ _ _ _ us hl => match us, hl with | [_, _, _], _ => rfl, g__key_value := PySem.W.mg_of X G a__key_value, f__idents := f__idents, d__idents := _, F__idents := fun_mk (st := s__idents) l__idents c__idents k__idents, b__idents := (fun_mk (st := s__idents) l__idents c__idents k__idents).binds fun _ _ _ _ _ _ us hl => match us, hl with | [_, _], _ => rfl, g__idents := PySem.W.mg_of X G a__idents, f__matches := f__matches, d__matches := _, F__matches := fun_mk (st := s__matches) l__matches c__matches k__matches, b__matches := (fun_mk (st := s__matches) l__matches c__matches k__matches).binds fun _ _ _ _ _ _ us hl => match us, hl with | [_, _], _ => rfl, g__matches := PySem.W.mg_of X G a__matches, f__slipped := f__slipped, d__slipped := _, F__slipped := fun_mk (st := s__slipped) l__slipped c__slipped k__slipped, b__slipped := (fun_mk (st := s__slipped) l__slipped c__slipped k__slipped).binds fun _ _ _ _ _ _ us hl => match us, hl with | [_, _, _], _ => rfl, g__slipped := PySem.W.mg_of X G a__slipped, f__lost := f__lost, d__lost := _, F__lost := fun_mk (st := s__lost) l__lost c__lost k__lost, b__lost := (fun_mk (st := s__lost) l__lost c__lost k__lost).binds fun _ _ _ _ _ _ us hl => match us, hl with | [_, _, _], _ => rfl, g__lost := PySem.W.mg_of X G a__lost, f_matched := f_matched, d_matched := _, F_matched := fun_mk (st := s_matched) l_matched c_matched k_matched, b_matched := (fun_mk (st := s_matched) l_matched c_matched k_matched).binds fun _ _ _ _ _ _ us hl => match us, hl with | [_, _, _], _ => rfl, g_matched := PySem.W.mg_of X G a_matched, f_slips := f_slips, d_slips := _, F_slips := fun_mk (st := s_slips) l_slips c_slips k_slips, b_slips := (fun_mk (st := s_slips) l_slips c_slips k_slips).binds fun _ _ _ _ _ _ us hl => match us, hl with | [_, _, _], _ => rfl, g_slips := PySem.W.mg_of X G a_slips, f_losses := f_losses, d_losses := _, F_losses := fun_mk (st := s_losses) l_losses c_losses k_losses, b_losses := (fun_mk (st := s_losses) l_losses c_losses k_losses).binds fun _ _ _ _ _ _ us hl => match us, hl with | [_, _, _], _ => rfl, g_losses := PySem.W.mg_of X G a_losses, f__first_parted := f__first_parted, d__first_parted := _, F__first_parted := fun_mk (st := s__first_parted) l__first_parted c__first_parted k__first_parted, b__first_parted := (fun_mk (st := s__first_parted) l__first_parted c__first_parted k__first_parted).binds fun _ _ _ _ _ _ us hl => match us, hl with | [_, _], _ => rfl, g__first_parted := PySem.W.mg_of X G a__first_parted, f_faithful := f_faithful, d_faithful := _, F_faithful := fun_mk (st := s_faithful) l_faithful c_faithful k_faithful, b_faithful := (fun_mk (st := s_faithful) l_faithful c_faithful k_faithful).binds fun _ _ _ _ _ _ us hl => match us, hl with | [_, _], _ => rfl, g_faithful := PySem.W.mg_of X G a_faithful, f__is_beneath := f__is_beneath, d__is_beneath := _, F__is_beneath := fun_mk (st := s__is_beneath) l__is_beneath c__is_beneath k__is_beneath, b__is_beneath := (fun_mk (st := s__is_beneath) l__is_beneath c__is_beneath k__is_beneath).binds fun _ _ _ _ _ _ us hl => match us, hl with | [_, _], _ => rfl, g__is_beneath := PySem.W.mg_of X G a__is_beneath, f_coarsest := f_coarsest, d_coarsest := _, F_coarsest := fun_mk (st := s_coarsest) l_coarsest c_coarsest k_coarsest, b_coarsest := (fun_mk (st := s_coarsest) l_coarsest c_coarsest k_coarsest).binds fun _ _ _ _ _ _ us hl => match us, hl with | [_, _], _ => rfl, g_coarsest := PySem.W.mg_of X G a_coarsest, f__law_mixed := f__law_mixed, d__law_mixed := _, F__law_mixed := fun_mk (st := s__law_mixed) l__law_mixed c__law_mixed k__law_mixed, b__law_mixed := (fun_mk (st := s__law_mixed) l__law_mixed c__law_mixed k__law_mixed).binds fun _ _ _ _ _ _ us hl => match us, hl with | [_, _], _ => rfl, g__law_mixed := PySem.W.mg_of X G a__law_mixed, f__law_bag := f__law_bag, d__law_bag := _, F__law_bag := fun_mk (st := s__law_bag) l__law_bag c__law_bag k__law_bag, b__law_bag := (fun_mk (st := s__law_bag) l__law_bag c__law_bag k__law_bag).binds fun _ _ _ _ _ _ us hl => match us, hl with | [_], _ => rfl, g__law_bag := PySem.W.mg_of X G a__law_bag, f__law_pick := f__law_pick, d__law_pick := _, F__law_pick := fun_mk (st := s__law_pick) l__law_pick c__law_pick k__law_pick, b__law_pick := (fun_mk (st := s__law_pick) l__law_pick c__law_pick k__law_pick).binds fun _ _ _ _ _ _ us hl => match us, hl with | [_, _], _ => rfl, g__law_pick := PySem.W.mg_of X G a__law_pick, f__law_choice := f__law_choice, d__law_choice := _, F__law_choice := fun_mk (st := s__law_choice) l__law_choice c__law_choice k__law_choice, b__law_choice := (fun_mk (st := s__law_choice) l__law_choice c__law_choice k__law_choice).binds fun _ _ _ _ _ _ us hl => match us, hl with | [_, _], _ => rfl, g__law_choice := PySem.W.mg_of X G a__law_choice, f__law_mingled := f__law_mingled, d__law_mingled := _, F__law_mingled := fun_mk (st := s__law_mingled) l__law_mingled c__law_mingled k__law_mingled, b__law_mingled := (fun_mk (st := s__law_mingled) l__law_mingled c__law_mingled k__law_mingled).binds fun _ _ _ _ _ _ us hl => match us, hl with | [_, _], _ => rfl, g__law_mingled := PySem.W.mg_of X G a__law_mingled, f__law_form := f__law_form, d__law_form := _, F__law_form := fun_mk (st := s__law_form) l__law_form c__law_form k__law_form, b__law_form := (fun_mk (st := s__law_form) l__law_form c__law_form k__law_form).binds fun _ _ _ _ _ _ us hl => match us, hl with | [_, _, _], _ => rfl, g__law_form := PySem.W.mg_of X G a__law_form, f__law_row := f__law_row, d__law_row := _, F__law_row := fun_mk (st := s__law_row) l__law_row c__law_row k__law_row, b__law_row := (fun_mk (st := s__law_row) l__law_row c__law_row k__law_row).binds fun _ _ _ _ _ _ us hl => match us, hl with | [_, _], _ => rfl, g__law_row := PySem.W.mg_of X G a__law_row, f__law_new_name := f__law_new_name, d__law_new_name := _, F__law_new_name := fun_mk (st := s__law_new_name) l__law_new_name c__law_new_name k__law_new_name, b__law_new_name := (fun_mk (st := s__law_new_name) l__law_new_name c__law_new_name k__law_new_name).binds fun _ _ _ _ _ _ us hl => match us, hl with | [_, _], _ => rfl, g__law_new_name := PySem.W.mg_of X G a__law_new_name, f__law_read := f__law_read, d__law_read := _, F__law_read := fun_mk (st := s__law_read) l__law_read c__law_read k__law_read, b__law_read := (fun_mk (st := s__law_read) l__law_read c__law_read k__law_read).binds fun _ _ _ _ _ _ us hl => match us, hl with | [_], _ => rfl, g__law_read := PySem.W.mg_of X G a__law_read, f__law_any_key := f__law_any_key, d__law_any_key := _, F__law_any_key := fun_mk (st := s__law_any_key) l__law_any_key c__law_any_key k__law_any_key, b__law_any_key := (fun_mk (st := s__law_any_key) l__law_any_key c__law_any_key k__law_any_key).binds fun _ _ _ _ _ _ us hl => match us, hl with | [_], _ => rfl, g__law_any_key := PySem.W.mg_of X G a__law_any_key, f__law_odd_part := f__law_odd_part, d__law_odd_part := _, F__law_odd_part := fun_mk (st := s__law_odd_part) l__law_odd_part c__law_odd_part k__law_odd_part, b__law_odd_part := (fun_mk (st := s__law_odd_part) l__law_odd_part c__law_odd_part k__law_odd_part).binds fun _ _ _ _ _ _ us hl => match us, hl with | [_, _], _ => rfl, g__law_odd_part := PySem.W.mg_of X G a__law_odd_part, f__law_spoilt := f__law_spoilt, d__law_spoilt := _, F__law_spoilt := fun_mk (st := s__law_spoilt) l__law_spoilt c__law_spoilt k__law_spoilt, b__law_spoilt := (fun_mk (st := s__law_spoilt) l__law_spoilt c__law_spoilt k__law_spoilt).binds fun _ _ _ _ _ _ us hl => match us, hl with | [_, _, _], _ => rfl, g__law_spoilt := PySem.W.mg_of X G a__law_spoilt, f__law_tower := f__law_tower, d__law_tower := _, F__law_tower := fun_mk (st := s__law_tower) l__law_tower c__law_tower k__law_tower, b__law_tower := (fun_mk (st := s__law_tower) l__law_tower c__law_tower k__law_tower).binds fun _ _ _ _ _ _ us hl => match us, hl with | [_, _, _], _ => rfl, g__law_tower := PySem.W.mg_of X G a__law_tower, f__law_key_told := f__law_key_told, d__law_key_told := _, F__law_key_told := fun_mk (st := s__law_key_told) l__law_key_told c__law_key_told k__law_key_told, b__law_key_told := (fun_mk (st := s__law_key_told) l__law_key_told c__law_key_told k__law_key_told).binds fun _ _ _ _ _ _ us hl => match us, hl with | [_], _ => rfl, g__law_key_told := PySem.W.mg_of X G a__law_key_told, f__law_forms_refused := f__law_forms_refused, d__law_forms_refused := _, F__law_forms_refused := fun_mk (st := s__law_forms_refused) l__law_forms_refused c__law_forms_refused k__law_forms_refused, b__law_forms_refused := (fun_mk (st := s__law_forms_refused) l__law_forms_refused c__law_forms_refused k__law_forms_refused).binds fun _ _ _ _ _ _ us hl => match us, hl with | [_], _ => rfl, g__law_forms_refused := PySem.W.mg_of X G a__law_forms_refused, f__law_some_row := f__law_some_row, d__law_some_row := _, F__law_some_row := fun_mk (st := s__law_some_row) l__law_some_row c__law_some_row k__law_some_row, b__law_some_row := (fun_mk (st := s__law_some_row) l__law_some_row c__law_some_row k__law_some_row).binds fun _ _ _ _ _ _ us hl => match us, hl with | [_], _ => rfl, g__law_some_row := PySem.W.mg_of X G a__law_some_row, f__law_bad_row := f__law_bad_row, d__law_bad_row := _, F__law_bad_row := fun_mk (st := s__law_bad_row) l__law_bad_row c__law_bad_row k__law_bad_row, b__law_bad_row := (fun_mk (st := s__law_bad_row) l__law_bad_row c__law_bad_row k__law_bad_row).binds fun _ _ _ _ _ _ us hl => match us, hl with | [_, _], _ => rfl, g__law_bad_row := PySem.W.mg_of X G a__law_bad_row, f__law_called := f__law_called, d__law_called := _, F__law_called := fun_mk (st := s__law_called) l__law_called c__law_called k__law_called, b__law_called := (fun_mk (st := s__law_called) l__law_called c__law_called k__law_called).binds fun _ _ _ _ _ _ us hl => match us, hl with | [_, _, _, _], _ => rfl, g__law_called := PySem.W.mg_of X G a__law_called, f__law_row_told := f__law_row_told, d__law_row_told := _, F__law_row_told := fun_mk (st := s__law_row_told) l__law_row_told c__law_row_told k__law_row_told, b__law_row_told := (fun_mk (st := s__law_row_told) l__law_row_told c__law_row_told k__law_row_told).binds fun _ _ _ _ _ _ us hl => match us, hl with | [_, _, _, _], _ => rfl, g__law_row_told := PySem.W.mg_of X G a__law_row_told, f_law := fa, d_law := _, F_law := fun_mk (st := s_law) l_law c_law k_law, b_law := (fun_mk (st := s_law) l_law c_law k_law).binds fun _ _ _ _ _ _ us hl => match us, hl with | [_], _ => rfl, g_law := PySem.W.mg_of X G a_law, C_Key := C_Key, g_Key := PySem.W.mg_of X G aC_Key, cl_Key := ⟨pg_Key, hd_Key, po_Key, sa_Key⟩, mk_Key := mk_Key, kc_Key := kc_Key, nf_Key := nf_Key, in_Key := ⟨⟨pg_Key, hd_Key, po_Key, sa_Key⟩, ih_Key, ig_Key, it_Key, io_Key, ik_Key⟩, nA_Key__parts := nA_Key__parts, f_Key___init__ := f_Key___init__, d_Key___init__ := _, F_Key___init__ := fun_mk (st := s_Key___init__) l_Key___init__ c_Key___init__ k_Key___init__, b_Key___init__ := (fun_mk (st := s_Key___init__) l_Key___init__ c_Key___init__ k_Key___init__).binds fun _ _ _ _ _ _ us hl => match us, hl with | [_, _], _ => rfl, a_Key___init__ := a_Key___init__, i_Key___init__ := i_Key___init__, n_Key___init__ := n_Key___init__, f_Key_parts := f_Key_parts, d_Key_parts := _, F_Key_parts := fun_mk (st := s_Key_parts) l_Key_parts c_Key_parts k_Key_parts, b_Key_parts := (fun_mk (st := s_Key_parts) l_Key_parts c_Key_parts k_Key_parts).binds fun _ _ _ _ _ _ us hl => match us, hl with | [_], _ => rfl, p_Key_parts := p_Key_parts, P_Key_parts := ⟨a_Key_parts, ge_Key_parts, ta_Key_parts, ⟨_, re1_Key_parts⟩⟩, f_Key___call__ := f_Key___call__, d_Key___call__ := _, F_Key___call__ := fun_mk (st := s_Key___call__) l_Key___call__ c_Key___call__ k_Key___call__, b_Key___call__ := (fun_mk (st := s_Key___call__) l_Key___call__ c_Key___call__ k_Key___call__).binds fun _ _ _ _ _ _ us hl => match us, hl with | [_, _, _], _ => rfl, a_Key___call__ := a_Key___call__, i_Key___call__ := i_Key___call__, n_Key___call__ := n_Key___call__, f_Key___le__ := f_Key___le__, d_Key___le__ := _, F_Key___le__ := fun_mk (st := s_Key___le__) l_Key___le__ c_Key___le__ k_Key___le__, b_Key___le__ := (fun_mk (st := s_Key___le__) l_Key___le__ c_Key___le__ k_Key___le__).binds fun _ _ _ _ _ _ us hl => match us, hl with | [_, _], _ => rfl, a_Key___le__ := a_Key___le__, i_Key___le__ := i_Key___le__, n_Key___le__ := n_Key___le__, f_Key_idents := f_Key_idents, d_Key_idents := _, F_Key_idents := fun_mk (st := s_Key_idents) l_Key_idents c_Key_idents k_Key_idents, b_Key_idents := (fun_mk (st := s_Key_idents) l_Key_idents c_Key_idents k_Key_idents).binds fun _ _ _ _ _ _ us hl => match us, hl with | [_, _], _ => rfl, a_Key_idents := a_Key_idents, i_Key_idents := i_Key_idents, n_Key_idents := n_Key_idents, C_ScreenError := C_ScreenError, g_ScreenError := PySem.W.mg_of X G aC_ScreenError, hd_ScreenError := hd_ScreenError, ty_ScreenError := ty_ScreenError, be_ScreenError := be_ScreenError, vb_ScreenError := vb_ScreenError, C_BadForm := C_BadForm, g_BadForm := PySem.W.mg_of X G aC_BadForm, hd_BadForm := hd_BadForm, ty_BadForm := ty_BadForm, be_BadForm := be_BadForm, vb_BadForm := vb_BadForm, ox_BadForm := ⟨⟨_, _, _, _, _, _, _, _, _, _, _, _, _, _, _, lx_BadForm, rv_BadForm⟩, sa_BadForm, be_BadForm, ty_BadForm, kc_BadForm⟩, xf_BadForm := ⟨ga_BadForm, gg_BadForm, be_BadForm, hd_BadForm⟩, is_BadForm := ⟨ga_BadForm, gg_BadForm, be_BadForm, hd_BadForm, ca_BadForm, cg_BadForm, ck_BadForm, mo_BadForm⟩, f_BadForm___init__ := f_BadForm___init__, d_BadForm___init__ := _, F_BadForm___init__ := fun_mk (st := s_BadForm___init__) l_BadForm___init__ c_BadForm___init__ k_BadForm___init__, b_BadForm___init__ := (fun_mk (st := s_BadForm___init__) l_BadForm___init__ c_BadForm___init__ k_BadForm___init__).binds fun _ _ _ _ _ _ us hl => match us, hl with | [_, _], _ => rfl, iC_BadForm := iC_BadForm, tI_BadForm := tI_BadForm, nf_BadForm_part := nf_BadForm_part, C_NoName := C_NoName, g_NoName := PySem.W.mg_of X G aC_NoName, hd_NoName := hd_NoName, ty_NoName := ty_NoName, be_NoName := be_NoName, vb_NoName := vb_NoName, ox_NoName := ⟨⟨_, _, _, _, _, _, _, _, _, _, _, _, _, _, _, lx_NoName, rv_NoName⟩, sa_NoName, be_NoName, ty_NoName, kc_NoName⟩, xf_NoName := ⟨ga_NoName, gg_NoName, be_NoName, hd_NoName⟩, is_NoName := ⟨ga_NoName, gg_NoName, be_NoName, hd_NoName, ca_NoName, cg_NoName, ck_NoName, mo_NoName⟩, f_NoName___init__ := f_NoName___init__, d_NoName___init__ := _, F_NoName___init__ := fun_mk (st := s_NoName___init__) l_NoName___init__ c_NoName___init__ k_NoName___init__, b_NoName___init__ := (fun_mk (st := s_NoName___init__) l_NoName___init__ c_NoName___init__ k_NoName___init__).binds fun _ _ _ _ _ _ us hl => match us, hl with | [_, _], _ => rfl, iC_NoName := iC_NoName, tI_NoName := tI_NoName, nf_NoName_name := nf_NoName_name, C_BadRow := C_BadRow, g_BadRow := PySem.W.mg_of X G aC_BadRow, hd_BadRow := hd_BadRow, ty_BadRow := ty_BadRow, be_BadRow := be_BadRow, vb_BadRow := vb_BadRow, ox_BadRow := ⟨⟨_, _, _, _, _, _, _, _, _, _, _, _, _, _, _, lx_BadRow, rv_BadRow⟩, sa_BadRow, be_BadRow, ty_BadRow, kc_BadRow⟩, xf_BadRow := ⟨ga_BadRow, gg_BadRow, be_BadRow, hd_BadRow⟩, is_BadRow := ⟨ga_BadRow, gg_BadRow, be_BadRow, hd_BadRow, ca_BadRow, cg_BadRow, ck_BadRow, mo_BadRow⟩, f_BadRow___init__ := f_BadRow___init__, d_BadRow___init__ := _, F_BadRow___init__ := fun_mk (st := s_BadRow___init__) l_BadRow___init__ c_BadRow___init__ k_BadRow___init__, b_BadRow___init__ := (fun_mk (st := s_BadRow___init__) l_BadRow___init__ c_BadRow___init__ k_BadRow___init__).binds fun _ _ _ _ _ _ us hl => match us, hl with | [_, _], _ => rfl, iC_BadRow := iC_BadRow, tI_BadRow := tI_BadRow, nf_BadRow_row := nf_BadRow_row, C_NoItem := C_NoItem, g_NoItem := PySem.W.mg_of X G aC_NoItem, hd_NoItem := hd_NoItem, ty_NoItem := ty_NoItem, be_NoItem := be_NoItem, vb_NoItem := vb_NoItem, ox_NoItem := ⟨⟨_, _, _, _, _, _, _, _, _, _, _, _, _, _, _, lx_NoItem, rv_NoItem⟩, sa_NoItem, be_NoItem, ty_NoItem, kc_NoItem⟩, xf_NoItem := ⟨ga_NoItem, gg_NoItem, be_NoItem, hd_NoItem⟩, is_NoItem := ⟨ga_NoItem, gg_NoItem, be_NoItem, hd_NoItem, ca_NoItem, cg_NoItem, ck_NoItem, mo_NoItem⟩, f_NoItem___init__ := f_NoItem___init__, d_NoItem___init__ := _, F_NoItem___init__ := fun_mk (st := s_NoItem___init__) l_NoItem___init__ c_NoItem___init__ k_NoItem___init__, b_NoItem___init__ := (fun_mk (st := s_NoItem___init__) l_NoItem___init__ c_NoItem___init__ k_NoItem___init__).binds fun _ _ _ _ _ _ us hl => match us, hl with | [_, _], _ => rfl, iC_NoItem := iC_NoItem, tI_NoItem := tI_NoItem, nf_NoItem_item := nf_NoItem_item, ne_BadForm_ScreenError := ne_BadForm_ScreenError, s_BadForm_ScreenError := s_BadForm_ScreenError, ne_BadForm_NoName := ne_BadForm_NoName, s_BadForm_NoName := s_BadForm_NoName, ne_BadForm_BadRow := ne_BadForm_BadRow, s_BadForm_BadRow := s_BadForm_BadRow, ne_BadForm_NoItem := ne_BadForm_NoItem, s_BadForm_NoItem := s_BadForm_NoItem, ne_NoName_ScreenError := ne_NoName_ScreenError, s_NoName_ScreenError := s_NoName_ScreenError, ne_NoName_BadForm := ne_NoName_BadForm, s_NoName_BadForm := s_NoName_BadForm, ne_NoName_BadRow := ne_NoName_BadRow, s_NoName_BadRow := s_NoName_BadRow, ne_NoName_NoItem := ne_NoName_NoItem, s_NoName_NoItem := s_NoName_NoItem, ne_BadRow_ScreenError := ne_BadRow_ScreenError, s_BadRow_ScreenError := s_BadRow_ScreenError, ne_BadRow_BadForm := ne_BadRow_BadForm, s_BadRow_BadForm := s_BadRow_BadForm, ne_BadRow_NoName := ne_BadRow_NoName, s_BadRow_NoName := s_BadRow_NoName, ne_BadRow_NoItem := ne_BadRow_NoItem, s_BadRow_NoItem := s_BadRow_NoItem, ne_NoItem_ScreenError := ne_NoItem_ScreenError, s_NoItem_ScreenError := s_NoItem_ScreenError, ne_NoItem_BadForm := ne_NoItem_BadForm, s_NoItem_BadForm := s_NoItem_BadForm, ne_NoItem_NoName := ne_NoItem_NoName, s_NoItem_NoName := s_NoItem_NoName, ne_NoItem_BadRow := ne_NoItem_BadRow, s_NoItem_BadRow := s_NoItem_BadRow, t_MOST_LETTERS := _, c_MOST_LETTERS := PySem.W.mg_of X G z_MOST_LETTERS, t_MOST_LEVELS := _, c_MOST_LEVELS := PySem.W.mg_of X G z_MOST_LEVELS, t_MOST_ITEMS := _, c_MOST_ITEMS := PySem.W.mg_of X G z_MOST_ITEMS, m_ValueError := PySem.W.mg_none_of X G z_ValueError, m_abs := PySem.W.mg_none_of X G z_abs, m_all := PySem.W.mg_none_of X G z_all, m_any := PySem.W.mg_none_of X G z_any, m_bool := PySem.W.mg_none_of X G z_bool, m_enumerate := PySem.W.mg_none_of X G z_enumerate, m_int := PySem.W.mg_none_of X G z_int, m_isinstance := PySem.W.mg_none_of X G z_isinstance, m_len := PySem.W.mg_none_of X G z_len, m_list := PySem.W.mg_none_of X G z_list, m_range := PySem.W.mg_none_of X G z_range, m_repr := PySem.W.mg_none_of X G z_repr, m_set := PySem.W.mg_none_of X G z_set, m_str := PySem.W.mg_none_of X G z_str, m_tuple := PySem.W.mg_none_of X G z_tuple }
  let U : TManyA K mg w := { p := pM, es := esM, n := nM, kd := ⟨lM, kM, oM⟩, g := PySem.W.mg_of X G uM, is := i1, get := i2, sum := ⟨_, i3⟩, same := ⟨_, i4⟩, pick := ⟨_, i5⟩, add := i6 }
  exact ⟨_, fun s v => .of_eq rfl, fun base _ _ => ok_law (base := base) T U⟩
end D
open PySem PySem.W PyProof.Rows
set_option maxHeartbeats 0 in
theorem PySem.Challenge.cw_drawnanew_k25_row_refusals_holds : PySem.Challenge.rw_drawnanew_k25_row_refusals.Holds := by
  w_on; o_law; k_head; (case hw => w_witness2)
  k_fill
  refine D.walk_ofG (l := PySem.Challenge.rw_drawnanew_k25_row_refusals) (n := 63) (k := 16) (x := "_law_script") (sp := D.sp_law) rfl (by decide) rfl ⟨rfl, by decide, by decide⟩ (fun w h Y => PySem.W.kIn_of Y) ?F (fun _ _ a ns hl hS => ⟨a, ns, rfl, hS, hl, fun _ => rfl⟩)
  case F =>
    intro w mg fa h KX G hmg
    refine' D.all_mk KX G hmg ?a_is_whole ?l_is_whole ?c_is_whole ?k_is_whole ?a_is_value ?l_is_value ?c_is_value ?k_is_value ?a_is_name ?l_is_name ?c_is_name ?k_is_name ?a_inner_forms ?l_inner_forms ?c_inner_forms ?k_inner_forms ?a__well_made ?l__well_made ?c__well_made ?k__well_made ?a_check_form ?l_check_form ?c_check_form ?k_check_form ?a_value_of ?l_value_of ?c_value_of ?k_value_of ?a_names_in ?l_names_in ?c_names_in ?k_names_in ?a_is_row ?l_is_row ?c_is_row ?k_is_row ?a_check_rows ?l_check_rows ?c_check_rows ?k_check_rows ?a__key_value ?l__key_value ?c__key_value ?k__key_value ?a__idents ?l__idents ?c__idents ?k__idents ?a__matches ?l__matches ?c__matches ?k__matches ?a__slipped ?l__slipped ?c__slipped ?k__slipped ?a__lost ?l__lost ?c__lost ?k__lost ?a_matched ?l_matched ?c_matched ?k_matched ?a_slips ?l_slips ?c_slips ?k_slips ?a_losses ?l_losses ?c_losses ?k_losses ?a__first_parted ?l__first_parted ?c__first_parted ?k__first_parted ?a_faithful ?l_faithful ?c_faithful ?k_faithful ?a__is_beneath ?l__is_beneath ?c__is_beneath ?k__is_beneath ?a_coarsest ?l_coarsest ?c_coarsest ?k_coarsest ?a__law_mixed ?l__law_mixed ?c__law_mixed ?k__law_mixed ?a__law_bag ?l__law_bag ?c__law_bag ?k__law_bag ?a__law_pick ?l__law_pick ?c__law_pick ?k__law_pick ?a__law_choice ?l__law_choice ?c__law_choice ?k__law_choice ?a__law_mingled ?l__law_mingled ?c__law_mingled ?k__law_mingled ?a__law_form ?l__law_form ?c__law_form ?k__law_form ?a__law_row ?l__law_row ?c__law_row ?k__law_row ?a__law_new_name ?l__law_new_name ?c__law_new_name ?k__law_new_name ?a__law_read ?l__law_read ?c__law_read ?k__law_read ?a__law_any_key ?l__law_any_key ?c__law_any_key ?k__law_any_key ?a__law_odd_part ?l__law_odd_part ?c__law_odd_part ?k__law_odd_part ?a__law_spoilt ?l__law_spoilt ?c__law_spoilt ?k__law_spoilt ?a__law_tower ?l__law_tower ?c__law_tower ?k__law_tower ?a__law_key_told ?l__law_key_told ?c__law_key_told ?k__law_key_told ?a__law_forms_refused ?l__law_forms_refused ?c__law_forms_refused ?k__law_forms_refused ?a__law_some_row ?l__law_some_row ?c__law_some_row ?k__law_some_row ?a__law_bad_row ?l__law_bad_row ?c__law_bad_row ?k__law_bad_row ?a__law_called ?l__law_called ?c__law_called ?k__law_called ?a__law_row_told ?l__law_row_told ?c__law_row_told ?k__law_row_told ?a_law ?l_law ?c_law ?k_law ?aC_Key ?pg_Key ?hd_Key ?po_Key ?sa_Key ?mk_Key ?kc_Key ?nf_Key ?ih_Key ?ig_Key ?it_Key ?io_Key ?ik_Key ?nA_Key__parts ?a_Key___init__ ?i_Key___init__ ?n_Key___init__ ?l_Key___init__ ?c_Key___init__ ?k_Key___init__ ?a_Key_parts ?ge_Key_parts ?ta_Key_parts ?re1_Key_parts ?l_Key_parts ?c_Key_parts ?k_Key_parts ?a_Key___call__ ?i_Key___call__ ?n_Key___call__ ?l_Key___call__ ?c_Key___call__ ?k_Key___call__ ?a_Key___le__ ?i_Key___le__ ?n_Key___le__ ?l_Key___le__ ?c_Key___le__ ?k_Key___le__ ?a_Key_idents ?i_Key_idents ?n_Key_idents ?l_Key_idents ?c_Key_idents ?k_Key_idents ?aC_ScreenError ?hd_ScreenError ?ty_ScreenError ?be_ScreenError ?vb_ScreenError ?aC_BadForm ?hd_BadForm ?ty_BadForm ?be_BadForm ?vb_BadForm ?lx_BadForm ?rv_BadForm ?sa_BadForm ?kc_BadForm ?ga_BadForm ?gg_BadForm ?ca_BadForm ?cg_BadForm ?ck_BadForm ?mo_BadForm ?iC_BadForm ?tI_BadForm ?l_BadForm___init__ ?c_BadForm___init__ ?k_BadForm___init__ ?nf_BadForm_part ?aC_NoName ?hd_NoName ?ty_NoName ?be_NoName ?vb_NoName ?lx_NoName ?rv_NoName ?sa_NoName ?kc_NoName ?ga_NoName ?gg_NoName ?ca_NoName ?cg_NoName ?ck_NoName ?mo_NoName ?iC_NoName ?tI_NoName ?l_NoName___init__ ?c_NoName___init__ ?k_NoName___init__ ?nf_NoName_name ?aC_BadRow ?hd_BadRow ?ty_BadRow ?be_BadRow ?vb_BadRow ?lx_BadRow ?rv_BadRow ?sa_BadRow ?kc_BadRow ?ga_BadRow ?gg_BadRow ?ca_BadRow ?cg_BadRow ?ck_BadRow ?mo_BadRow ?iC_BadRow ?tI_BadRow ?l_BadRow___init__ ?c_BadRow___init__ ?k_BadRow___init__ ?nf_BadRow_row ?aC_NoItem ?hd_NoItem ?ty_NoItem ?be_NoItem ?vb_NoItem ?lx_NoItem ?rv_NoItem ?sa_NoItem ?kc_NoItem ?ga_NoItem ?gg_NoItem ?ca_NoItem ?cg_NoItem ?ck_NoItem ?mo_NoItem ?iC_NoItem ?tI_NoItem ?l_NoItem___init__ ?c_NoItem___init__ ?k_NoItem___init__ ?nf_NoItem_item ?ne_BadForm_ScreenError ?s_BadForm_ScreenError ?ne_BadForm_NoName ?s_BadForm_NoName ?ne_BadForm_BadRow ?s_BadForm_BadRow ?ne_BadForm_NoItem ?s_BadForm_NoItem ?ne_NoName_ScreenError ?s_NoName_ScreenError ?ne_NoName_BadForm ?s_NoName_BadForm ?ne_NoName_BadRow ?s_NoName_BadRow ?ne_NoName_NoItem ?s_NoName_NoItem ?ne_BadRow_ScreenError ?s_BadRow_ScreenError ?ne_BadRow_BadForm ?s_BadRow_BadForm ?ne_BadRow_NoName ?s_BadRow_NoName ?ne_BadRow_NoItem ?s_BadRow_NoItem ?ne_NoItem_ScreenError ?s_NoItem_ScreenError ?ne_NoItem_BadForm ?s_NoItem_BadForm ?ne_NoItem_NoName ?s_NoItem_NoName ?ne_NoItem_BadRow ?s_NoItem_BadRow ?z_MOST_LETTERS ?z_MOST_LEVELS ?z_MOST_ITEMS ?z_ValueError ?z_abs ?z_all ?z_any ?z_bool ?z_enumerate ?z_int ?z_isinstance ?z_len ?z_list ?z_range ?z_repr ?z_set ?z_str ?z_tuple ?uM ?lM ?kM ?oM ?i1 ?i2 ?i3 ?i4 ?i5 ?i6
    (case a_is_whole => k_is); (case l_is_whole => k_is); (case c_is_whole => k_is); (case k_is_whole => k_is); (case a_is_value => k_is); (case l_is_value => k_is); (case c_is_value => k_is); (case k_is_value => k_is); (case a_is_name => k_is); (case l_is_name => k_is); (case c_is_name => k_is); (case k_is_name => k_is); (case a_inner_forms => k_is); (case l_inner_forms => k_is); (case c_inner_forms => k_is); (case k_inner_forms => k_is); (case a__well_made => k_is); (case l__well_made => k_is); (case c__well_made => k_is); (case k__well_made => k_is); (case a_check_form => k_is); (case l_check_form => k_is); (case c_check_form => k_is); (case k_check_form => k_is); (case a_value_of => k_is); (case l_value_of => k_is); (case c_value_of => k_is); (case k_value_of => k_is); (case a_names_in => k_is); (case l_names_in => k_is); (case c_names_in => k_is); (case k_names_in => k_is); (case a_is_row => k_is); (case l_is_row => k_is); (case c_is_row => k_is); (case k_is_row => k_is); (case a_check_rows => k_is); (case l_check_rows => k_is); (case c_check_rows => k_is); (case k_check_rows => k_is); (case a__key_value => k_is); (case l__key_value => k_is); (case c__key_value => k_is); (case k__key_value => k_is); (case a__idents => k_is); (case l__idents => k_is); (case c__idents => k_is); (case k__idents => k_is); (case a__matches => k_is); (case l__matches => k_is); (case c__matches => k_is); (case k__matches => k_is); (case a__slipped => k_is); (case l__slipped => k_is); (case c__slipped => k_is); (case k__slipped => k_is); (case a__lost => k_is); (case l__lost => k_is); (case c__lost => k_is); (case k__lost => k_is); (case a_matched => k_is); (case l_matched => k_is); (case c_matched => k_is); (case k_matched => k_is); (case a_slips => k_is); (case l_slips => k_is); (case c_slips => k_is); (case k_slips => k_is); (case a_losses => k_is); (case l_losses => k_is); (case c_losses => k_is); (case k_losses => k_is); (case a__first_parted => k_is); (case l__first_parted => k_is); (case c__first_parted => k_is); (case k__first_parted => k_is); (case a_faithful => k_is); (case l_faithful => k_is); (case c_faithful => k_is); (case k_faithful => k_is); (case a__is_beneath => k_is); (case l__is_beneath => k_is); (case c__is_beneath => k_is); (case k__is_beneath => k_is); (case a_coarsest => k_is); (case l_coarsest => k_is); (case c_coarsest => k_is); (case k_coarsest => k_is); (case a__law_mixed => k_is); (case l__law_mixed => k_is); (case c__law_mixed => k_is); (case k__law_mixed => k_is); (case a__law_bag => k_is); (case l__law_bag => k_is); (case c__law_bag => k_is); (case k__law_bag => k_is); (case a__law_pick => k_is); (case l__law_pick => k_is); (case c__law_pick => k_is); (case k__law_pick => k_is); (case a__law_choice => k_is); (case l__law_choice => k_is); (case c__law_choice => k_is); (case k__law_choice => k_is); (case a__law_mingled => k_is); (case l__law_mingled => k_is); (case c__law_mingled => k_is); (case k__law_mingled => k_is); (case a__law_form => k_is); (case l__law_form => k_is); (case c__law_form => k_is); (case k__law_form => k_is); (case a__law_row => k_is); (case l__law_row => k_is); (case c__law_row => k_is); (case k__law_row => k_is); (case a__law_new_name => k_is); (case l__law_new_name => k_is); (case c__law_new_name => k_is); (case k__law_new_name => k_is); (case a__law_read => k_is); (case l__law_read => k_is); (case c__law_read => k_is); (case k__law_read => k_is); (case a__law_any_key => k_is); (case l__law_any_key => k_is); (case c__law_any_key => k_is); (case k__law_any_key => k_is); (case a__law_odd_part => k_is); (case l__law_odd_part => k_is); (case c__law_odd_part => k_is); (case k__law_odd_part => k_is); (case a__law_spoilt => k_is); (case l__law_spoilt => k_is); (case c__law_spoilt => k_is); (case k__law_spoilt => k_is); (case a__law_tower => k_is); (case l__law_tower => k_is); (case c__law_tower => k_is); (case k__law_tower => k_is); (case a__law_key_told => k_is); (case l__law_key_told => k_is); (case c__law_key_told => k_is); (case k__law_key_told => k_is); (case a__law_forms_refused => k_is); (case l__law_forms_refused => k_is); (case c__law_forms_refused => k_is); (case k__law_forms_refused => k_is); (case a__law_some_row => k_is); (case l__law_some_row => k_is); (case c__law_some_row => k_is); (case k__law_some_row => k_is); (case a__law_bad_row => k_is); (case l__law_bad_row => k_is); (case c__law_bad_row => k_is); (case k__law_bad_row => k_is); (case a__law_called => k_is); (case l__law_called => k_is); (case c__law_called => k_is); (case k__law_called => k_is); (case a__law_row_told => k_is); (case l__law_row_told => k_is); (case c__law_row_told => k_is); (case k__law_row_told => k_is); (case a_law => k_is); (case l_law => k_is); (case c_law => k_is); (case k_law => k_is); (case aC_Key => k_is); (case pg_Key => k_is); (case hd_Key => k_is); (case po_Key => k_is); (case sa_Key => k_is); (case mk_Key => k_is); (case kc_Key => k_is); (case nf_Key => k_is); (case ih_Key => k_is); (case ig_Key => k_is); (case it_Key => k_is); (case io_Key => k_is); (case ik_Key => first | exact rfl | decide +kernel | k_is); (case nA_Key__parts => k_is); (case a_Key___init__ => k_is); (case i_Key___init__ => k_is); (case n_Key___init__ => k_is); (case l_Key___init__ => k_is); (case c_Key___init__ => k_is); (case k_Key___init__ => k_is); (case a_Key_parts => k_is); (case ge_Key_parts => k_is); (case ta_Key_parts => k_is); (case re1_Key_parts => k_is); (case l_Key_parts => k_is); (case c_Key_parts => k_is); (case k_Key_parts => k_is); (case a_Key___call__ => k_is); (case i_Key___call__ => k_is); (case n_Key___call__ => k_is); (case l_Key___call__ => k_is); (case c_Key___call__ => k_is); (case k_Key___call__ => k_is); (case a_Key___le__ => k_is); (case i_Key___le__ => k_is); (case n_Key___le__ => k_is); (case l_Key___le__ => k_is); (case c_Key___le__ => k_is); (case k_Key___le__ => k_is); (case a_Key_idents => k_is); (case i_Key_idents => k_is); (case n_Key_idents => k_is); (case l_Key_idents => k_is); (case c_Key_idents => k_is); (case k_Key_idents => k_is); (case aC_ScreenError => k_is); (case hd_ScreenError => k_is); (case ty_ScreenError => k_is); (case be_ScreenError => k_is); (case vb_ScreenError => k_is); (case aC_BadForm => k_is); (case hd_BadForm => k_is); (case ty_BadForm => k_is); (case be_BadForm => k_is); (case vb_BadForm => k_is); (case lx_BadForm => k_is); (case rv_BadForm => decide +kernel); (case sa_BadForm => k_is); (case kc_BadForm => k_is); (case ga_BadForm => k_is); (case gg_BadForm => k_is); (case ca_BadForm => k_is); (case cg_BadForm => k_is); (case ck_BadForm => k_is); (case mo_BadForm => k_is); (case iC_BadForm => k_is); (case tI_BadForm => k_is); (case l_BadForm___init__ => k_is); (case c_BadForm___init__ => k_is); (case k_BadForm___init__ => k_is); (case nf_BadForm_part => k_is); (case aC_NoName => k_is); (case hd_NoName => k_is); (case ty_NoName => k_is); (case be_NoName => k_is); (case vb_NoName => k_is); (case lx_NoName => k_is); (case rv_NoName => decide +kernel); (case sa_NoName => k_is); (case kc_NoName => k_is); (case ga_NoName => k_is); (case gg_NoName => k_is); (case ca_NoName => k_is); (case cg_NoName => k_is); (case ck_NoName => k_is); (case mo_NoName => k_is); (case iC_NoName => k_is); (case tI_NoName => k_is); (case l_NoName___init__ => k_is); (case c_NoName___init__ => k_is); (case k_NoName___init__ => k_is); (case nf_NoName_name => k_is); (case aC_BadRow => k_is); (case hd_BadRow => k_is); (case ty_BadRow => k_is); (case be_BadRow => k_is); (case vb_BadRow => k_is); (case lx_BadRow => k_is); (case rv_BadRow => decide +kernel); (case sa_BadRow => k_is); (case kc_BadRow => k_is); (case ga_BadRow => k_is); (case gg_BadRow => k_is); (case ca_BadRow => k_is); (case cg_BadRow => k_is); (case ck_BadRow => k_is); (case mo_BadRow => k_is); (case iC_BadRow => k_is); (case tI_BadRow => k_is); (case l_BadRow___init__ => k_is); (case c_BadRow___init__ => k_is); (case k_BadRow___init__ => k_is); (case nf_BadRow_row => k_is); (case aC_NoItem => k_is); (case hd_NoItem => k_is); (case ty_NoItem => k_is); (case be_NoItem => k_is); (case vb_NoItem => k_is); (case lx_NoItem => k_is); (case rv_NoItem => decide +kernel); (case sa_NoItem => k_is); (case kc_NoItem => k_is); (case ga_NoItem => k_is); (case gg_NoItem => k_is); (case ca_NoItem => k_is); (case cg_NoItem => k_is); (case ck_NoItem => k_is); (case mo_NoItem => k_is); (case iC_NoItem => k_is); (case tI_NoItem => k_is); (case l_NoItem___init__ => k_is); (case c_NoItem___init__ => k_is); (case k_NoItem___init__ => k_is); (case nf_NoItem_item => k_is); (case ne_BadForm_ScreenError => decide +kernel); (case s_BadForm_ScreenError => k_is); (case ne_BadForm_NoName => decide +kernel); (case s_BadForm_NoName => k_is); (case ne_BadForm_BadRow => decide +kernel); (case s_BadForm_BadRow => k_is); (case ne_BadForm_NoItem => decide +kernel); (case s_BadForm_NoItem => k_is); (case ne_NoName_ScreenError => decide +kernel); (case s_NoName_ScreenError => k_is); (case ne_NoName_BadForm => decide +kernel); (case s_NoName_BadForm => k_is); (case ne_NoName_BadRow => decide +kernel); (case s_NoName_BadRow => k_is); (case ne_NoName_NoItem => decide +kernel); (case s_NoName_NoItem => k_is); (case ne_BadRow_ScreenError => decide +kernel); (case s_BadRow_ScreenError => k_is); (case ne_BadRow_BadForm => decide +kernel); (case s_BadRow_BadForm => k_is); (case ne_BadRow_NoName => decide +kernel); (case s_BadRow_NoName => k_is); (case ne_BadRow_NoItem => decide +kernel); (case s_BadRow_NoItem => k_is); (case ne_NoItem_ScreenError => decide +kernel); (case s_NoItem_ScreenError => k_is); (case ne_NoItem_BadForm => decide +kernel); (case s_NoItem_BadForm => k_is); (case ne_NoItem_NoName => decide +kernel); (case s_NoItem_NoName => k_is); (case ne_NoItem_BadRow => decide +kernel); (case s_NoItem_BadRow => k_is); (case z_MOST_LETTERS => k_is); (case z_MOST_LEVELS => k_is); (case z_MOST_ITEMS => k_is); (case z_ValueError => k_is); (case z_abs => k_is); (case z_all => k_is); (case z_any => k_is); (case z_bool => k_is); (case z_enumerate => k_is); (case z_int => k_is); (case z_isinstance => k_is); (case z_len => k_is); (case z_list => k_is); (case z_range => k_is); (case z_repr => k_is); (case z_set => k_is); (case z_str => k_is); (case z_tuple => k_is); (case uM => k_is); (case lM => k_is); (case kM => k_keys); (case oM => decide); (case i1 => k_is); (case i2 => k_is); (case i3 => k_is); (case i4 => k_is); (case i5 => k_is); (case i6 => k_is)

