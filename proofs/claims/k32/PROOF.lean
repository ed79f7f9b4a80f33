import PyProof.Rows.All
import Wide.All
import OpenK.AllK
import Wide.FinOn
import PyProof.Rows.IntBool
import HandS.ForMost
import HandS.IsInst
import HandS.TupAny
import HandS.Conv
import HandS.More
import HandS.Style
import HandS.Property
import HandS.Star
import HandS.DictComp
import HandS.RaiseMore
import HandS.SetFor
import HandS.SlotsOwn
import HandS.Codes
import KE.GoesEnum
import HandS.Deep
import HandS.Strs
import HandS.ReCall
import HandS.Zip
import HandS.Flow
import HandS.ForExc
import HandS.ExcInit
import HandS.ExcField
import HandS.ExcIs
import KE.KExcIs
import HandS.OwnIter
import HandS.IterNext
import HandS.HotCalls
import HandS.ExcInitHot
import HandS.WordsExc
import PyProof.ReprRoads
import PyProof.ReprBulk
import PyProof.P3Eq
import PyProof.AutoSeq1
import PySem.Challenge.RW_drawnanew_k32_shape_numbers
set_option Elab.async false
set_option linter.all false
set_option maxRecDepth 100000
set_option maxHeartbeats 4000000
namespace D
open PySem PySem.Spec PyProof.Rows L2

/-! ### rules that the layer lacks -/
def bI (b : Bool) : Int := if b = true then 1 else 0
theorem op_mul_ib {X : Cx} : OpR X (binaryOp .Mult) (fun x y H Q => ∃ i k, x = .int i ∧ y = .bl k ∧ Q (.int (i * bI k)) H) := by
  intro pins s σ H x y v u Q I rx ry h
  obtain ⟨i, k, rfl, rfl, q⟩ := h
  obtain ⟨t, rfl⟩ := rx
  cases ry
  exact PySem.IntBool.mul_int_bool ⟨.int (i * bI k), H, I.tok _, ⟨_, rfl⟩, q⟩

/-! ### heaps: M the addresses that may be written -/
abbrev Ms := Addr → Prop
def Sx (M : Ms) (H H' : Hp) : Prop := ∀ a o, ¬ M a → H a = some o → H' a = some o
def one (b : Addr) : Ms := fun a => a = b
def also (M : Ms) (b : Addr) : Ms := fun a => M a ∨ a = b
/-- what may be written stands -/
def Mk (M : Ms) (H : Hp) : Prop := ∀ a, M a → H a ≠ none
theorem Sx.refl {M : Ms} {H : Hp} : Sx M H H := fun _ _ _ h => h
theorem Sx.trans {M : Ms} {H H1 H2 : Hp} (a : Sx M H H1) (b : Sx M H1 H2) : Sx M H H2 := fun c o n h => b c o n (a c o n h)
theorem Sx.le {M N : Ms} {H H' : Hp} (s : Sx M H H') (h : ∀ a, M a → N a) : Sx N H H' := fun a o n e => s a o (fun m => n (h a m)) e
theorem Sx.same {M : Ms} {H H' : Hp} (s : Same H H') : Sx M H H' := fun a o _ e => s a o e
theorem Sx.new {M : Ms} {H : Hp} {p : Addr} {o : HO} (h : H p = none) : Sx M H (upd H p o) := fun a u _ e => by
  rw [upd_ne (ne_of_none e h)]
  exact e
theorem Sx.put {M : Ms} {H : Hp} {p : Addr} {o : HO} (h : M p) : Sx M H (upd H p o) := fun a u n e => by
  rw [upd_ne (fun z => n (by rw [z]; exact h))]
  exact e
theorem same_new {H : Hp} {p : Addr} {o : HO} (h : H p = none) : Same H (upd H p o) := fun a u e => by
  rw [upd_ne (ne_of_none e h)]
  exact e
theorem Mk.step {M : Ms} {H H' : Hp} (m : Mk M H) (h : ∀ a, H a ≠ none → H' a ≠ none) : Mk M H' := fun a z => h a (m a z)
theorem there_new {H : Hp} {p a : Addr} {o : HO} (h : H a ≠ none) : upd H p o a ≠ none := by
  by_cases e : a = p
  · subst e
    rw [upd_same]
    exact fun z => nomatch z
  · rw [upd_ne e]
    exact h
/-- nothing goes -/
def Gr (H H' : Hp) : Prop := ∀ a, H a ≠ none → H' a ≠ none
theorem Gr.refl {H : Hp} : Gr H H := fun _ h => h
theorem Gr.trans {H H1 H2 : Hp} (a : Gr H H1) (b : Gr H1 H2) : Gr H H2 := fun c h => b c (a c h)
theorem Gr.upd {H : Hp} {p : Addr} {o : HO} : Gr H (upd H p o) := fun _ h => there_new h
theorem Gr.same {H H' : Hp} (s : Same H H') : Gr H H' := fun a h => by
  cases e : H a with
  | none => exact absurd e h
  | some o =>
    rw [s a o e]
    exact fun z => nomatch z
theorem Mk.gr {M : Ms} {H H' : Hp} (m : Mk M H) (g : Gr H H') : Mk M H' := fun a z => g a (m a z)
theorem Mk.out {M : Ms} {H : Hp} {p : Addr} (m : Mk M H) (h : H p = none) : ¬ M p := fun z => m p z h
theorem Mk.also {M : Ms} {H : Hp} {p : Addr} (m : Mk M H) (h : H p ≠ none) : Mk (also M p) H := fun a z => by
  rcases z with z | rfl
  · exact m a z
  · exact h
theorem ne_none {H : Hp} {p : Addr} {o : HO} (h : H p = some o) : H p ≠ none := by
  rw [h]
  exact fun z => nomatch z
theorem upd_there {H : Hp} {p : Addr} {o : HO} : upd H p o p ≠ none := by
  rw [upd_same]
  exact fun z => nomatch z

/-! ### lists and tuples that are read -/
theorem sx_rd {M : Ms} {H H' : Hp} {a : Addr} {u : HO} (s : Sx M H H') (n : ¬ M a) (h : Rd H a u) : Rd H' a u := by
  rcases h with h | ⟨o, h⟩
  · exact .inl (s a _ n h)
  · exact .inr ⟨o, s a _ n h⟩
theorem sx_l {K : PySem.W.Frag} {M : Ms} {H H' : Hp} {a : Addr} {xs : List V} (s : Sx M H H') (n : ¬ M a) (h : SqL K H a xs) : SqL K H' a xs := by
  rcases h with h | h
  · exact .inl (sx_rd s n h)
  · exact .inr h
theorem sx_t {K : PySem.W.Frag} {M : Ms} {H H' : Hp} {a : Addr} {xs : List V} (s : Sx M H H') (n : ¬ M a) (h : SqT K H a xs) : SqT K H' a xs := by
  rcases h with h | h
  · exact .inl (sx_rd s n h)
  · exact .inr h

/-! ### data -/
/-- a tuple that stands -/
inductive RdT (H : Hp) (a : Addr) (xs : List V) : Prop
  | inl (h : H a = some (.tup xs))
theorem RdT.rd {H : Hp} {a : Addr} {xs : List V} (h : RdT H a xs) : Rd H a (.tup xs) := h.casesOn fun h => .inl h
theorem RdT.at {H : Hp} {a : Addr} {xs : List V} (h : RdT H a xs) : H a = some (.tup xs) := h.casesOn fun h => h
theorem sx_rt {M : Ms} {H H' : Hp} {a : Addr} {u : List V} (s : Sx M H H') (n : ¬ M a) (h : RdT H a u) : RdT H' a u := .inl (s a _ n h.at)
mutual
inductive Rp (M : Ms) (H : Hp) : V → PyData → Prop
  | non : Rp M H .non .none
  | bl (b : Bool) : Rp M H (.bl b) (.bool b)
  | int (i : Int) : Rp M H (.int i) (.int i)
  | str (x : Str) : Rp M H (.str x) (.str x)
  | lst {a : Addr} {xs : List V} {ds : List PyData} : ¬ M a → Rd H a (.lst xs) → RpAll M H xs ds → Rp M H (.ref a) (.list ds)
  | tup {a : Addr} {xs : List V} {ds : List PyData} : ¬ M a → RdT H a xs → RpAll M H xs ds → Rp M H (.ref a) (.tuple ds)
inductive RpAll (M : Ms) (H : Hp) : List V → List PyData → Prop
  | nil : RpAll M H [] []
  | cons {v : V} {vs : List V} {d : PyData} {ds : List PyData} : Rp M H v d → RpAll M H vs ds → RpAll M H (v :: vs) (d :: ds)
end
section
variable {K : PySem.W.Frag} {M N : Ms} {H H' : Hp}
mutual
theorem Rp.imp (f : ∀ a u, ¬ M a → Rd H a u → ¬ N a) (fl : ∀ a u, ¬ M a → Rd H a u → Rd H' a u) (ft : ∀ a xs, ¬ M a → RdT H a xs → RdT H' a xs) : ∀ (d : PyData) (v : V), Rp M H v d → Rp N H' v d
  | .none, _, h => by cases h; exact .non
  | .bool b, _, h => by cases h; exact .bl b
  | .int i, _, h => by cases h; exact .int i
  | .str x, _, h => by cases h; exact .str x
  | .list ds, _, h => by
    cases h with
    | lst n s r => exact .lst (f _ _ n s) (fl _ _ n s) (RpAll.imp f fl ft ds _ r)
  | .tuple ds, _, h => by
    cases h with
    | tup n s r => exact .tup (f _ _ n s.rd) (ft _ _ n s) (RpAll.imp f fl ft ds _ r)
  | .dict _, _, h => by cases h
theorem RpAll.imp (f : ∀ a u, ¬ M a → Rd H a u → ¬ N a) (fl : ∀ a u, ¬ M a → Rd H a u → Rd H' a u) (ft : ∀ a xs, ¬ M a → RdT H a xs → RdT H' a xs) : ∀ (ds : List PyData) (vs : List V), RpAll M H vs ds → RpAll N H' vs ds
  | [], _, h => by cases h; exact .nil
  | d :: ds, _, h => by
    cases h with
    | cons h1 h2 => exact .cons (Rp.imp f fl ft d _ h1) (RpAll.imp f fl ft ds _ h2)
end
theorem Rp.sx {v : V} {d : PyData} (s : Sx M H H') (h : Rp M H v d) : Rp M H' v d := Rp.imp (fun _ _ n _ => n) (fun _ _ n q => sx_rd s n q) (fun _ _ n q => sx_rt s n q) d v h
theorem RpAll.sx {vs : List V} {ds : List PyData} (s : Sx M H H') (h : RpAll M H vs ds) : RpAll M H' vs ds := RpAll.imp (fun _ _ n _ => n) (fun _ _ n q => sx_rd s n q) (fun _ _ n q => sx_rt s n q) ds vs h
/-- fewer that may be written -/
theorem Rp.less {v : V} {d : PyData} (f : ∀ a, N a → M a) (h : Rp M H v d) : Rp N H v d := Rp.imp (fun a _ n _ m => n (f a m)) (fun _ _ _ q => q) (fun _ _ _ q => q) d v h
theorem RpAll.less {vs : List V} {ds : List PyData} (f : ∀ a, N a → M a) (h : RpAll M H vs ds) : RpAll N H vs ds := RpAll.imp (fun a _ n _ m => n (f a m)) (fun _ _ _ q => q) (fun _ _ _ q => q) ds vs h

/-- an address that no datum reads: nothing stands there -/
theorem sql_kept {a p : Addr} {xs : List V} {o : HO} (h : SqL K H a xs) (n : H p = none) : SqL K (upd H p o) a xs := sx_l (M := fun _ => False) (Sx.new n) (fun z => z) h
theorem sqt_kept {a p : Addr} {xs : List V} {o : HO} (h : SqT K H a xs) (n : H p = none) : SqT K (upd H p o) a xs := sx_t (M := fun _ => False) (Sx.new n) (fun z => z) h

mutual
theorem Rp.dp : ∀ (d : PyData) (v : V), Rp M H v d → Dp K H v d
  | .none, _, h => by cases h; exact .non
  | .bool b, _, h => by cases h; exact .bl b
  | .int i, _, h => by cases h; exact .int i
  | .str x, _, h => by cases h; exact .str x
  | .list ds, _, h => by
    cases h with
    | lst n s r => exact .lst (.inl s) (RpAll.dp ds _ r)
  | .tuple ds, _, h => by
    cases h with
    | tup n s r => exact .tup (.inl s.rd) (RpAll.dp ds _ r)
  | .dict _, _, h => by cases h
theorem RpAll.dp : ∀ (ds : List PyData) (vs : List V), RpAll M H vs ds → DpAll K H vs ds
  | [], _, h => by cases h; exact .nil
  | d :: ds, _, h => by
    cases h with
    | cons h1 h2 => exact .cons (Rp.dp d _ h1) (RpAll.dp ds _ h2)
end
theorem RpAll.length : ∀ {ds : List PyData} {vs : List V}, RpAll M H vs ds → vs.length = ds.length
  | [], _, h => by cases h; rfl
  | d :: ds, _, h => by
    cases h with
    | cons _ h2 =>
      rw [List.length_cons, List.length_cons, RpAll.length h2]
theorem RpAll.get : ∀ {ds : List PyData} {vs : List V} {i : Nat} {v : V}, RpAll M H vs ds → vs[i]? = some v → ∃ d, ds[i]? = some d ∧ Rp M H v d
  | [], _, i, v, h, e => by cases h; simp at e
  | d :: ds, _, 0, v, h, e => by
    cases h with
    | cons h1 _ =>
      have e1 := Option.some.inj e
      subst e1
      exact ⟨d, rfl, h1⟩
  | d :: ds, _, i + 1, v, h, e => by
    cases h with
    | cons _ h2 => exact RpAll.get (i := i) h2 e
theorem RpAll.getD : ∀ {ds : List PyData} {vs : List V} {i : Nat} {d : PyData}, RpAll M H vs ds → ds[i]? = some d → ∃ v, vs[i]? = some v ∧ Rp M H v d
  | [], _, i, v, h, e => by simp at e
  | d :: ds, _, 0, v, h, e => by
    cases h with
    | cons h1 _ =>
      have e1 := Option.some.inj e
      subst e1
      exact ⟨_, rfl, h1⟩
  | d :: ds, _, i + 1, v, h, e => by
    cases h with
    | cons _ h2 => exact RpAll.getD (i := i) h2 e
theorem RpAll.append : ∀ {ds es : List PyData} {vs us : List V}, RpAll M H vs ds → RpAll M H us es → RpAll M H (vs ++ us) (ds ++ es)
  | [], _, _, _, h, g => by cases h; exact g
  | d :: ds, _, _, _, h, g => by
    cases h with
    | cons h1 h2 => exact .cons h1 (RpAll.append h2 g)
theorem RpAll.take : ∀ (n : Nat) {ds : List PyData} {vs : List V}, RpAll M H vs ds → RpAll M H (vs.take n) (ds.take n)
  | 0, _, _, _ => .nil
  | n + 1, [], _, h => by cases h; exact .nil
  | n + 1, d :: ds, _, h => by
    cases h with
    | cons h1 h2 => exact .cons h1 (RpAll.take n h2)
theorem RpAll.drop : ∀ (n : Nat) {ds : List PyData} {vs : List V}, RpAll M H vs ds → RpAll M H (vs.drop n) (ds.drop n)
  | 0, _, _, h => h
  | n + 1, [], _, h => by cases h; exact .nil
  | n + 1, d :: ds, _, h => by
    cases h with
    | cons h1 h2 => exact RpAll.drop n h2
theorem RpAll.one {v : V} {d : PyData} (h : Rp M H v d) : RpAll M H [v] [d] := .cons h .nil
theorem RpAll.eraseIdx : ∀ (n : Nat) {ds : List PyData} {vs : List V}, RpAll M H vs ds → RpAll M H (vs.eraseIdx n) (ds.eraseIdx n)
  | _, [], _, h => by cases h; exact .nil
  | 0, d :: ds, _, h => by
    cases h with
    | cons h1 h2 => exact h2
  | n + 1, d :: ds, _, h => by
    cases h with
    | cons h1 h2 => exact .cons h1 (RpAll.eraseIdx n h2)
theorem RpAll.ints : ∀ (ns : List Int), RpAll M H (ns.map V.int) (ns.map PyData.int)
  | [] => .nil
  | n :: r => .cons (.int n) (RpAll.ints r)
theorem RpAll.ofInts : ∀ {ns : List Int} {vs : List V}, RpAll M H vs (ns.map PyData.int) → vs = ns.map V.int
  | [], _, h => by cases h; rfl
  | n :: r, _, h => by
    cases h with
    | cons h1 h2 =>
      cases h1
      rw [RpAll.ofInts h2]
      rfl
end

/-- a fresh address may be written from now on -/
theorem rd_ne {H : Hp} {a p : Addr} {u : HO} (h : Rd H a u) (n : H p = none) : a ≠ p := fun e => by
  subst e
  rcases h with h | ⟨o, h⟩ <;> rw [n] at h <;> cases h
theorem Rp.fresh {M : Ms} {H : Hp} {p : Addr} (hp : H p = none) : ∀ {d : PyData} {v : V}, Rp M H v d → Rp (also M p) H v d := fun {d v} h => Rp.imp (fun a u n r z => z.elim n fun e => rd_ne r hp e) (fun _ _ _ q => q) (fun _ _ _ q => q) d v h
theorem RpAll.fresh {M : Ms} {H : Hp} {p : Addr} (hp : H p = none) {ds : List PyData} {vs : List V} (h : RpAll M H vs ds) : RpAll (also M p) H vs ds := RpAll.imp (fun a u n r z => z.elim n fun e => rd_ne r hp e) (fun _ _ _ q => q) (fun _ _ _ q => q) ds vs h
theorem also_le {M : Ms} {p : Addr} : ∀ a, M a → also M p a := fun _ h => .inl h

/-! ### the bag of a script's numbers -/
structure Bag (K : PySem.W.Frag) (M : Ms) (H : Hp) (b : Addr) : Prop where
  w : M b
  h : ∃ (n : Addr) (ns : List Int) (p r t s : Int), H b = some (.lst [.ref n, .int p, .int r, .int t, .int s]) ∧ ¬ M n ∧ Rd H n (.lst (ns.map V.int)) ∧ 0 ≤ p ∧ 0 ≤ r
/-- only the object at b has changed -/
def At (b : Addr) (H H' : Hp) : Prop := ∀ a, a ≠ b → H' a = H a
theorem At.upd {b : Addr} {H : Hp} {o : HO} : At b H (upd H b o) := fun _ n => upd_ne n
theorem At.sx {b : Addr} {H H' : Hp} (h : At b H H') : Sx (one b) H H' := fun a o n e => (h a n).trans e
theorem Bag.there {K : PySem.W.Frag} {M : Ms} {H : Hp} {b : Addr} (h : Bag K M H b) : H b ≠ none := by
  obtain ⟨_, n, ns, p, r, t, s, e, _⟩ := h
  exact ne_none e
/-- other things are written, new ones made -/
theorem Bag.keep {K : PySem.W.Frag} {M N : Ms} {H H' : Hp} {b : Addr} (h : Bag K M H b) (s : Sx N H H') (nb : ¬ N b) (le : ∀ a, N a → M a) : Bag K M H' b := by
  obtain ⟨w, n, ns, p, r, t, sd, e, hn, rd, q⟩ := h
  exact ⟨w, n, ns, p, r, t, sd, s _ _ nb e, hn, sx_rd s (fun z => hn (le _ z)) rd, q⟩
theorem Bag.more {K : PySem.W.Frag} {M : Ms} {H : Hp} {b p : Addr} (h : Bag K M H b) (hp : H p = none) : Bag K (also M p) H b := by
  obtain ⟨w, n, ns, q, r, t, sd, e, hn, rd, z⟩ := h
  exact ⟨.inl w, n, ns, q, r, t, sd, e, fun m => m.elim hn fun e => rd_ne rd hp e, rd, z⟩
theorem Bag.less {K : PySem.W.Frag} {M N : Ms} {H : Hp} {b : Addr} (h : Bag K M H b) (w : N b) (f : ∀ a, N a → M a) : Bag K N H b := by
  obtain ⟨_, n, ns, q, r, t, sd, e, hn, rd, z⟩ := h
  exact ⟨w, n, ns, q, r, t, sd, e, fun m => hn (f _ m), rd, z⟩
theorem one_le {M : Ms} {b : Addr} (w : M b) : ∀ a, one b a → M a := fun a e => by
  have e' : a = b := e
  rw [e']
  exact w
/-- a draw: behind it the bag stands, all else too -/
def Dr (K : PySem.W.Frag) (M : Ms) (b : Addr) (H : Hp) (R : PyData → Prop) (Q : VK) : Prop := ∀ v H' d, Sx (one b) H H' → Gr H H' → Bag K M H' b → Rp M H' v d → R d → Q v H'
/-- a def that writes nothing -/
def Pu (M : Ms) (H : Hp) (R : PyData → Prop) (Q : VK) : Prop := ∀ v H' d, Same H H' → Rp M H' v d → R d → Q v H'

/-! ### loops that the layer has no short rule for -/
theorem for_enum {K : PySem.W.Frag} {a : Addr} {xs : List V} {g : TG} {tb : TS} {D : Ends} {σ : L2.St} {H : Hp} (Pv : Nat → L2.St → Hp → Prop) (h0 : Pv 0 σ H) (hl : ∀ i σ H, i ≤ xs.length → Pv i σ H → SqL K H a xs)
    (hs : ∀ i x T σ H, xs[i]? = some x → H T = none → Pv i σ H → g (.ref T) σ (upd H T (.tup [.int (i : Nat), x])) fun σ2 H2 => tb { D with nx := Pv (i + 1), ct := Pv (i + 1), bk := D.nx } σ2 H2) (hd : ∀ σ H, Pv xs.length σ H → D.nx σ H) :
    ∃ W : Nat → Nat → L2.St → Hp → Prop, (∃ m, W 0 m σ H) ∧ ∀ i m σ H, W i m σ H →
      ((Ite K a).stop i H ∧ D.nx σ H) ∨ ((Ite K a).go i H ∧ ∃ N : L2.St → Hp → Prop, (∀ σ' H', N σ' H' → ∃ m', m' < m ∧ W (i + 1) m' σ' H') ∧ ∀ x H', (Ite K a).yld i H x H' → g x σ H' fun σ2 H2 => tb { D with nx := N, ct := N, bk := D.nx } σ2 H2) := by
  refine ⟨fun i m σ H => m = xs.length - i ∧ i ≤ xs.length ∧ Pv i σ H, ⟨xs.length, by simp, Nat.zero_le _, h0⟩, ?_⟩
  rintro i m σ H ⟨rfl, hi, p⟩
  have q := hl i σ H hi p
  by_cases hlt : i < xs.length
  · refine .inr ⟨⟨xs, xs[i], q, by simp [hlt]⟩, Pv (i + 1), fun σ' H' p' => ⟨xs.length - (i + 1), by omega, rfl, hlt, p'⟩, fun x H' y => ?_⟩
    obtain ⟨T, z, rfl, hT, rfl, hz⟩ := y
    exact hs i z T σ _ (hz xs q) hT p
  · have e : i = xs.length := by omega
    subst e
    exact .inl ⟨⟨xs, q, Nat.le_refl _⟩, hd σ H p⟩

theorem seqIx {j n : Nat} (h : j < n) : seqIndex? (j : Int) n = some j := by
  unfold seqIndex?
  have h1 : ¬ ((j : Int) < 0) := by omega
  have h2 : (0 : Int) ≤ (j : Int) := by omega
  have h3 : (j : Int) < (n : Int) := by omega
  simp only [if_neg h1, decide_eq_true h2, decide_eq_true h3, Bool.and_self, if_true, Int.toNat_natCast]
theorem small1000000 {n : Nat} (h : n ≤ 1000000) : n < sizeLine := Nat.lt_of_le_of_lt h (by decide)
theorem At.gr {b : Addr} {H H' : Hp} (h : At b H H') (hb : H' b ≠ none) : Gr H H' := fun a n => by
  by_cases e : a = b
  · rw [e]
    exact hb
  · rw [h a e]
    exact n

/-- what did not stand needs no leave -/
theorem Sx.cut {M : Ms} {H H' : Hp} {p : Addr} (s : Sx (also M p) H H') (n : H p = none) : Sx M H H' := fun a o m e => s a o (fun z => z.elim m fun z => by
  rw [z, n] at e
  cases e) e

theorem str_len (x y : Str) : (x ++ y).length = x.length + y.length := by
  show (x.cps ++ y.cps).size = _
  rw [Array.size_append]
  rfl

theorem log2_10 {v : Int} (h0 : 0 ≤ v) (h1 : v < 10) : v.natAbs.log2 < 1920 := Nat.lt_of_le_of_lt (Nat.log2_le_self _) (by omega)
theorem dig_len {v : Int} (h0 : 0 ≤ v) (h1 : v < 10) : (Str.ofString (toString v)).length = 1 := by
  have h : v = 0 ∨ v = 1 ∨ v = 2 ∨ v = 3 ∨ v = 4 ∨ v = 5 ∨ v = 6 ∨ v = 7 ∨ v = 8 ∨ v = 9 := by omega
  rcases h with rfl | rfl | rfl | rfl | rfl | rfl | rfl | rfl | rfl | rfl <;> decide +kernel
def isLab : V → Bool
  | .str z => decide (z.length ≤ 30)
  | _ => false
theorem lab_all (xs : List V) (h : xs.all isLab = true) : ∀ v ∈ xs, ∃ z : Str, v = V.str z ∧ z.length ≤ 30 := fun v hv => by
  have h1 := List.all_eq_true.mp h v hv
  cases v with
  | str z => exact ⟨z, rfl, of_decide_eq_true h1⟩
  | _ => cases h1

theorem sz2 {x y : V} : [x, y].length ≤ sizeLine := by show 2 ≤ sizeLine; decide
/-! ### sizes of nodes -/
def mx (ns : List Int) : Int := ns.foldl (fun a b => if a < b then b else a) 0
theorem foldmx : ∀ (ns : List Int) (a : Int), a ≤ ns.foldl (fun a b => if a < b then b else a) a ∧ (∀ n ∈ ns, n ≤ ns.foldl (fun a b => if a < b then b else a) a) ∧ (ns.foldl (fun a b => if a < b then b else a) a = a ∨ ns.foldl (fun a b => if a < b then b else a) a ∈ ns)
  | [], a => ⟨Int.le_refl _, (fun _ h => nomatch h), .inl rfl⟩
  | n :: r, a => by
    have ih := foldmx r (if a < n then n else a)
    simp only [List.foldl_cons]
    obtain ⟨h1, h2, h3⟩ := ih
    refine ⟨?_, fun m hm => ?_, ?_⟩
    · split at h1 <;> split <;> omega
    · rcases List.mem_cons.mp hm with rfl | hm
      · split at h1 <;> split <;> omega
      · exact h2 m hm
    · rcases h3 with h3 | h3
      · by_cases c : a < n
        · right
          rw [if_pos c] at h3 ⊢
          rw [h3]
          exact List.mem_cons_self
        · left
          rw [if_neg c] at h3 ⊢
          exact h3
      · exact .inr (List.mem_cons_of_mem _ h3)
theorem mx_of {ns : List Int} {m : Int} (h0 : ∀ n ∈ ns, 0 ≤ n) (hm : m ∈ ns) (hle : ∀ y, y ∈ ns → y ≤ m) : m = mx ns := by
  obtain ⟨h1, h2, h3⟩ := foldmx ns 0
  have a := h2 m hm
  have b := h0 m hm
  unfold mx
  rcases h3 with h3 | h3
  · omega
  · have c := hle _ h3
    omega
theorem mx_take {ns : List Int} {i : Nat} {z : Int} (h : ns[i]? = some z) : mx (ns.take (i + 1)) = if mx (ns.take i) < z then z else mx (ns.take i) := by
  unfold mx
  rw [List.take_add_one, h, List.foldl_append]
  rfl
def sRow : Str := "row"
def sCol : Str := "col"
def szf (z : Str) (ps : List (Int × Int)) : Int × Int :=
  if ps = [] then (if z = sRow ∨ z = sCol then (0, 0) else ((z.length : Int), 1))
  else if z = sRow then ((ps.map (·.1)).sum, mx (ps.map (·.2))) else (mx (ps.map (·.1)), (ps.map (·.2)).sum)
/-- pairs -/
def pD (p : Int × Int) : PyData := .tuple [.int p.1, .int p.2]
theorem Rp.pair {M : Ms} {H : Hp} {v : V} {p : Int × Int} (h : Rp M H v (pD p)) : ∃ t, v = .ref t ∧ Rd H t (.tup [.int p.1, .int p.2]) := by
  cases h with
  | @tup a xs _ n s r =>
    cases r with
    | cons h1 h2 =>
      cases h2 with
      | cons h3 h4 =>
        cases h1
        cases h3
        cases h4
        exact ⟨a, rfl, s.rd⟩
theorem RpAll.pair {M : Ms} {H : Hp} {vs : List V} {ps : List (Int × Int)} {i : Nat} {v : V} (h : RpAll M H vs (ps.map pD)) (hv : vs[i]? = some v) : ∃ p t, ps[i]? = some p ∧ v = .ref t ∧ Rd H t (.tup [.int p.1, .int p.2]) := by
  obtain ⟨d, hd, hr⟩ := h.get hv
  rw [List.getElem?_map] at hd
  obtain ⟨p, hp, rfl⟩ := Option.map_eq_some_iff.mp hd
  obtain ⟨t, e, r⟩ := hr.pair
  exact ⟨p, t, hp, e, r⟩
theorem same_rd {H H' : Hp} {a : Addr} {u : HO} (s : Same H H') (h : Rd H a u) : Rd H' a u := sx_rd (M := fun _ => False) (Sx.same s) (fun z => z) h

/-! ### the layer's rules with the written part named, for comprehensions -/
section
variable {X : Cx} {K : PySem.W.Frag}
theorem ix_listK (h : X.K = K) : IxR X (rIxL K) := by subst h; exact ix_list
theorem ix_tupK (h : X.K = K) : IxR X (rIxT K) := by subst h; exact ix_tup
theorem sl_listK (h : X.K = K) : SlR X (rSlL K) := by subst h; exact sl_list
theorem sl_tupK (h : X.K = K) : SlR X (rSlA K) := by subst h; exact sl_tupA
theorem op_in_seqK (h : X.K = K) : OpR X (compareOp .In) (rIn K false) := by subst h; exact op_in_seq
theorem op_notIn_seqK (h : X.K = K) : OpR X (compareOp .NotIn) (rIn K true) := by subst h; exact op_notIn_seq
theorem op_catAK (h : X.K = K) : OpR X (binaryOp .Add) (rCatA K) := by subst h; exact op_catA
theorem op_eqDK (h : X.K = K) (hu : X.A.units + 64 < cLine) : OpR X (compareOp .Eq) (rEqD K) := by subst h; exact op_eqD hu
theorem op_neDK (h : X.K = K) (hu : X.A.units + 64 < cLine) : OpR X (compareOp .NotEq) (rNeD K) := by subst h; exact op_neD hu
def rLenS (K : PySem.W.Frag) : List V → Hp → VK → Prop := fun xs H Q => ∃ p ys, xs = [.ref p] ∧ (SqL K H p ys ∨ SqT K H p ys) ∧ Q (.int ys.length) H
theorem call_lenK (h : X.K = K) : CallR X (.builtin "len") (rLenS K) := by subst h; exact call_len_seq
def rListS (K : PySem.W.Frag) : List V → Hp → VK → Prop := fun xs H Q => ∃ p ys, xs = [.ref p] ∧ (SqL K H p ys ∨ SqT K H p ys) ∧ ∀ l, H l = none → Q (.ref l) (upd H l (.lst ys))
theorem call_listK (h : X.K = K) : CallR X (.type "list") (rListS K) := by subst h; exact call_list_of
def rTupS (K : PySem.W.Frag) : List V → Hp → VK → Prop := fun xs H Q => ∃ p ys, xs = [.ref p] ∧ ((SqL K H p ys ∧ ∀ l, H l = none → Q (.ref l) (upd H l (.tup ys))) ∨ (SqT K H p ys ∧ Q (.ref p) H))
theorem call_tupleK (h : X.K = K) : CallR X (.type "tuple") (rTupS K) := by subst h; exact call_tuple_of
theorem cr_sumK (h : X.K = K) (hc : X.calm = true) : CallR X (.builtin "sum") (rSum K) := by subst h; exact cr_sum hc
theorem cr_maxK (h : X.K = K) (hc : X.calm = true) : CallR X (.builtin "max") (rMax K) := by subst h; exact cr_max hc
theorem cr_minK (h : X.K = K) (hc : X.calm = true) : CallR X (.builtin "min") (rMin K) := by subst h; exact cr_min hc
theorem cr_anyK (h : X.K = K) (hc : X.calm = true) : CallR X (.builtin "any") (rAny K) := by subst h; exact cr_any hc
theorem cr_allK (h : X.K = K) (hc : X.calm = true) : CallR X (.builtin "all") (rAll K) := by subst h; exact cr_all hc
theorem call_isi1K (h : X.K = K) : CallR X (.builtin "isinstance") (rIsi K) := by subst h; exact call_isi
theorem call_isiTK (h : X.K = K) : CallR X (.builtin "isinstance") (rIsiT K) := by subst h; exact call_isiT
def tTruth (K : PySem.W.Frag) (ta : TE) : TT := fun σ H Q => ta σ H fun x H' => ∃ k, TruV K x H' k ∧ Q k H'
theorem pt_truthK {a : Expr} {ta : TE} (h : X.K = K) (ha : PE X a ta) (he : ∀ whole, isTrue a X.env whole = (do let v ← whole; standAt a.pos; holding [v] (truthy v))) : PT X a (tTruth K ta) := by subst h; exact pt_truth ha he
theorem pe_fldK {e : Expr} {f : Str} {pos : Pos} {ta : TE} (h : X.K = K) (he : PE X e ta) (hb : attributeBase e f X.env (eval e X.env) = eval e X.env) : PE X (.Attribute e f pos) (tFld K ta f) := by subst h; exact pe_fld he hb
theorem pi_listK {tg l : Expr} {tl : TE} (h : X.K = K) (hl : PE X l tl) : PI X tg l (iList K tl) := by subst h; exact pi_list hl
theorem pi_tupK {tg l : Expr} {tl : TE} (h : X.K = K) (hl : PE X l tl) : PI X tg l (iTup K tl) := by subst h; exact pi_tup hl
theorem pg_tupK {es : List Expr} {k : Nat} {t : TGs} {n : Nat} {pos : Pos} (hK : X.K = K) (hc : X.calm = true) (h : PGs X es t)
    (hn : (assignEach es X.env).length = n := by rfl) (hst : (assignEach es X.env).findIdx? (·.1) = none := by rfl) : PG X (.Tuple es k pos) (gTup K n t) := by subst hK; exact pg_tup hc h hn hst
theorem pi_enumK {e : Expr} {ta : TA} {p pos tpos : Pos} {elts : List Expr} {kk : Nat} (hK : X.K = K) (hg : Gl X "enumerate") (hm : X.mg "enumerate" = none) (ha : PA X [e] ta) (hs : starEach [e] X.env = [(false, eval e X.env)] := by rfl) :
    PI X (.Tuple elts kk tpos) (.Call (.Name "enumerate" p) [e] [] pos) (iEnum K ta) := by subst hK; exact pi_enum hg hm ha hs
theorem pi_zipK {e e2 : Expr} {ta : TA} {p pos tpos : Pos} {elts : List Expr} {kk : Nat} (hK : X.K = K) (hg : Gl X "zip") (hm : X.mg "zip" = none) (ha : PA X [e, e2] ta)
    (hs : starEach [e, e2] X.env = (false, eval e X.env) :: starEach [e2] X.env := by rfl) (hpl : (backTo pos (starEach [e2] X.env)).any (·.1) = false := by rfl) :
    PI X (.Tuple elts kk tpos) (.Call (.Name "zip" p) [e, e2] [] pos) (iZip K ta) := by subst hK; exact pi_zip hg hm ha hs hpl
end

/-- a comprehension over a list whose elements make nothing -/
theorem lc_vals {K : PySem.W.Frag} {a : Addr} {xs ys : List V} {g : TG} {tt : TT} {te : TE} {vs : List Nat} {σ : L2.St} {H : Hp} {D : Addr} {Qd : Hp → Prop} (hD : H D = none) (hS : SqL K H a xs) (hn : ys.length = xs.length) (hz : xs.length ≤ 1000000)
    (hs : ∀ (i : Nat) (x y : V) (H' : Hp) (C : VK) (N : Hp → Prop), xs[i]? = some x → ys[i]? = some y → Same H H' → C y H' → g x (wipe σ vs) H' fun σ2 H2 => wipe σ2 vs = wipe σ vs ∧ tt σ2 H2 fun b H3 => if b = true then te σ2 H3 C else N H3)
    (hd : ∀ H', Same H H' → H' D = some (.lst ys) → Qd H') :
    ∃ W : Nat → Nat → Hp → Prop, (∃ m, W 0 m (upd H D (.lst []))) ∧ ∀ i m H, W i m H →
      ((Itl K a).stop i H ∧ Qd H) ∨ ((Itl K a).go i H ∧ ∃ Nx : Hp → Prop, (∀ H', Nx H' → ∃ m', m' < m ∧ W (i + 1) m' H') ∧ ∀ x H', (Itl K a).yld i H x H' → g x (wipe σ vs) H' fun σ2 H2 => wipe σ2 vs = wipe σ vs ∧ tt σ2 H2 fun b H3 =>
        if b = true then te σ2 H3 fun y H4 => ∃ acc, H4 D = some (.lst acc) ∧ acc.length < sizeLine ∧ Nx (upd H4 D (.lst (acc ++ [y]))) else Nx H3) := by
  refine lc_list (K := K) (a := a) (xs := xs) (fun i H' => Same H H' ∧ H' D = some (.lst (ys.take i))) ⟨same_new hD, by rw [upd_same]; rfl⟩ (fun i H' _ p => p.1.seq hS) (fun i x H' hx p => ?_) (fun H' p => ?_)
  · have hi : i < ys.length := by
      rw [hn]
      exact (List.getElem?_eq_some_iff.mp hx).1
    refine hs i x ys[i] H' _ _ hx (List.getElem?_eq_getElem hi) p.1 ⟨_, p.2, ?_, fun c o e => ?_, ?_⟩
    · rw [List.length_take]
      exact small1000000 (by omega)
    · rw [upd_ne (ne_of_none e hD)]
      exact p.1 c o e
    · rw [upd_same, List.take_add_one, List.getElem?_eq_getElem hi]
      rfl
  · refine hd H' p.1 ?_
    have e := p.2
    rw [← hn, List.take_length] at e
    exact e
theorem same_sqt {K : PySem.W.Frag} {H H' : Hp} {a : Addr} {xs : List V} (s : Same H H') (h : SqT K H a xs) : SqT K H' a xs := sx_t (M := fun _ => False) (Sx.same s) (fun z => z) h
/-- a comprehension over a tuple whose elements make nothing -/
theorem lc_valsT {K : PySem.W.Frag} {a : Addr} {xs ys : List V} {g : TG} {tt : TT} {te : TE} {vs : List Nat} {σ : L2.St} {H : Hp} {D : Addr} {Qd : Hp → Prop} (hD : H D = none) (hS : SqT K H a xs) (hn : ys.length = xs.length) (hz : xs.length ≤ 1000000)
    (hs : ∀ (i : Nat) (x y : V) (H' : Hp) (C : VK) (N : Hp → Prop), xs[i]? = some x → ys[i]? = some y → Same H H' → C y H' → g x (wipe σ vs) H' fun σ2 H2 => wipe σ2 vs = wipe σ vs ∧ tt σ2 H2 fun b H3 => if b = true then te σ2 H3 C else N H3)
    (hd : ∀ H', Same H H' → H' D = some (.lst ys) → Qd H') :
    ∃ W : Nat → Nat → Hp → Prop, (∃ m, W 0 m (upd H D (.lst []))) ∧ ∀ i m H, W i m H →
      ((Itt K a).stop i H ∧ Qd H) ∨ ((Itt K a).go i H ∧ ∃ Nx : Hp → Prop, (∀ H', Nx H' → ∃ m', m' < m ∧ W (i + 1) m' H') ∧ ∀ x H', (Itt K a).yld i H x H' → g x (wipe σ vs) H' fun σ2 H2 => wipe σ2 vs = wipe σ vs ∧ tt σ2 H2 fun b H3 =>
        if b = true then te σ2 H3 fun y H4 => ∃ acc, H4 D = some (.lst acc) ∧ acc.length < sizeLine ∧ Nx (upd H4 D (.lst (acc ++ [y]))) else Nx H3) := by
  refine lc_tup (K := K) (a := a) (xs := xs) (fun i H' => Same H H' ∧ H' D = some (.lst (ys.take i))) ⟨same_new hD, by rw [upd_same]; rfl⟩ (fun i H' _ p => same_sqt p.1 hS) (fun i x H' hx p => ?_) (fun H' p => ?_)
  · have hi : i < ys.length := by
      rw [hn]
      exact (List.getElem?_eq_some_iff.mp hx).1
    refine hs i x ys[i] H' _ _ hx (List.getElem?_eq_getElem hi) p.1 ⟨_, p.2, ?_, fun c o e => ?_, ?_⟩
    · rw [List.length_take]
      exact small1000000 (by omega)
    · rw [upd_ne (ne_of_none e hD)]
      exact p.1 c o e
    · rw [upd_same, List.take_add_one, List.getElem?_eq_getElem hi]
      rfl
  · refine hd H' p.1 ?_
    have e := p.2
    rw [← hn, List.take_length] at e
    exact e

/-- two ways meet behind an if without else -/
theorem join2 {b : Bool} {A : Prop} {N : L2.St → Hp → Prop} {σ : L2.St} {H : Hp} (Pv : L2.St → Hp → Prop) (h1 : b = true → (∀ σ H, Pv σ H → N σ H) → A) (h2 : b = false → Pv σ H) (hN : ∀ σ H, Pv σ H → N σ H) : if b = true then A else N σ H := by
  cases b with
  | true =>
    rw [if_pos rfl]
    exact h1 rfl hN
  | false =>
    rw [if_neg Bool.false_ne_true]
    exact hN _ _ (h2 rfl)


theorem RpAll.rep {M : Ms} {H : Hp} {xs : List V} {ds : List PyData} (h : RpAll M H xs ds) : ∀ n : Nat, RpAll M H (List.replicate n xs).flatten (List.replicate n ds).flatten
  | 0 => .nil
  | n + 1 => by
    rw [List.replicate_succ, List.replicate_succ, List.flatten_cons, List.flatten_cons]
    exact h.append (RpAll.rep h n)
theorem Bag.same {K : PySem.W.Frag} {M : Ms} {H H' : Hp} {b : Addr} (h : Bag K M H b) (s : Same H H') : Bag K M H' b := h.keep (N := fun _ => False) (Sx.same s) (fun z => z) (fun _ z => z.elim)
/-- a list of data that may still be written -/
def Ld (M : Ms) (H : Hp) (a : Addr) (ds : List PyData) : Prop := ¬ M a ∧ ∃ xs, H a = some (.lst xs) ∧ RpAll M H xs ds
theorem Ld.rp {M : Ms} {H : Hp} {a : Addr} {ds : List PyData} (h : Ld M H a ds) : Rp M H (.ref a) (.list ds) := by
  obtain ⟨n, xs, e, r⟩ := h
  exact .lst n (.inl e) r
theorem Ld.sx {M : Ms} {H H' : Hp} {a : Addr} {ds : List PyData} (h : Ld M H a ds) (s : Sx M H H') : Ld M H' a ds := by
  obtain ⟨n, xs, e, r⟩ := h
  exact ⟨n, xs, s _ _ n e, r.sx s⟩
theorem Ld.new {M : Ms} {H : Hp} {a : Addr} {xs : List V} {ds : List PyData} (m : Mk M H) (h : H a = none) (r : RpAll M H xs ds) : Ld M (upd H a (.lst xs)) a ds := ⟨m.out h, xs, upd_same, r.sx (Sx.new h)⟩
/-- a comprehension over a list: each element a datum, made on the way -/
theorem lc_data {K : PySem.W.Frag} {a : Addr} {xs : List V} {ys : List PyData} {g : TG} {tt : TT} {te : TE} {vs : List Nat} {σ : L2.St} {H : Hp} {D : Addr} {Qd : Hp → Prop} (M : Ms) (hM : Mk M H) (hD : H D = none) (hS : SqL K H a xs) (hn : ys.length = xs.length) (hz : xs.length ≤ 1000000)
    (hs : ∀ (i : Nat) (x : V) (y : PyData) (H' : Hp) (C : VK) (N : Hp → Prop), xs[i]? = some x → ys[i]? = some y → Same H H' → Mk (also M D) H' → (∀ v H2, Same H' H2 → Rp (also M D) H2 v y → C v H2) → g x (wipe σ vs) H' fun σ2 H2 => wipe σ2 vs = wipe σ vs ∧ tt σ2 H2 fun b H3 => if b = true then te σ2 H3 C else N H3)
    (hd : ∀ H', Same H H' → Ld M H' D ys → Qd H') :
    ∃ W : Nat → Nat → Hp → Prop, (∃ m, W 0 m (upd H D (.lst []))) ∧ ∀ i m H, W i m H →
      ((Itl K a).stop i H ∧ Qd H) ∨ ((Itl K a).go i H ∧ ∃ Nx : Hp → Prop, (∀ H', Nx H' → ∃ m', m' < m ∧ W (i + 1) m' H') ∧ ∀ x H', (Itl K a).yld i H x H' → g x (wipe σ vs) H' fun σ2 H2 => wipe σ2 vs = wipe σ vs ∧ tt σ2 H2 fun b H3 =>
        if b = true then te σ2 H3 fun y H4 => ∃ acc, H4 D = some (.lst acc) ∧ acc.length < sizeLine ∧ Nx (upd H4 D (.lst (acc ++ [y]))) else Nx H3) := by
  refine lc_list (K := K) (a := a) (xs := xs) (fun i H' => Same H H' ∧ ∃ acc, H' D = some (.lst acc) ∧ RpAll (also M D) H' acc (ys.take i)) ⟨same_new hD, [], upd_same, by rw [List.take_zero]; exact .nil⟩ (fun i H' _ p => p.1.seq hS) (fun i x H' hx p => ?_) (fun H' p => ?_)
  · obtain ⟨s, acc, e, r⟩ := p
    have hi : i < ys.length := by
      rw [hn]
      exact (List.getElem?_eq_some_iff.mp hx).1
    have hl := r.length
    rw [List.length_take] at hl
    refine hs i x ys[i] H' _ _ hx (List.getElem?_eq_getElem hi) s ((hM.gr (Gr.same s)).also (ne_none e)) fun v H2 s2 rv => ?_
    refine ⟨acc, s2 _ _ e, small1000000 (by omega), fun c o q => ?_, acc ++ [v], upd_same, ?_⟩
    · rw [upd_ne (ne_of_none q hD)]
      exact s2 _ _ (s c o q)
    · rw [List.take_add_one, List.getElem?_eq_getElem hi]
      exact ((r.sx (Sx.same s2)).append (.one rv)).sx (Sx.put (.inr rfl))
  · obtain ⟨s, acc, e, r⟩ := p
    rw [← hn, List.take_length] at r
    exact hd H' s ⟨hM.out hD, acc, e, r.less also_le⟩

theorem cut_hi (xs : List V) (n : Nat) : cutV xs none (some (n : Int)) = xs.take n := by
  unfold cutV
  rw [show HT.sIx xs.length 0 none = 0 from HT.sIx_none .., show HT.sIx xs.length xs.length (some (n : Int)) = min n xs.length from HT.sIx_nat _ _ n, List.drop_zero, Nat.sub_zero]
  rw [List.take_eq_take_iff]
  omega

theorem szK {n : Nat} (h : Nat.ble n 1000 = true) : n ≤ sizeLine := Nat.le_of_lt (small1000 (Nat.le_of_ble_eq_true h))

/-- what holds behind a statement, said once for all its ways -/
theorem seq_join {t u : TS} {D : Ends} {σ : L2.St} {H : Hp} (Pv : L2.St → Hp → Prop) (h : (∀ σ H, Pv σ H → u D σ H) → t { D with nx := u D } σ H) (hN : ∀ σ H, Pv σ H → u D σ H) : tSeq t u D σ H := h hN

theorem lc_str {z : Str} {g : TG} {tt : TT} {te : TE} {vs : List Nat} {σ : L2.St} {H1 : Hp} {D : Addr} {Qd : Hp → Prop} (Pv : Nat → Hp → Prop) (h0 : Pv 0 (upd H1 D (.lst [])))
    (hs : ∀ i c H, z.cps[i]? = some c → Pv i H → g (.str ⟨#[c]⟩) (wipe σ vs) H fun σ2 H2 => wipe σ2 vs = wipe σ vs ∧ tt σ2 H2 fun b H3 =>
      if b = true then te σ2 H3 fun y H4 => ∃ acc, H4 D = some (.lst acc) ∧ acc.length < sizeLine ∧ Pv (i + 1) (upd H4 D (.lst (acc ++ [y]))) else Pv (i + 1) H3) (hd : ∀ H, Pv z.cps.size H → Qd H) :
    ∃ W : Nat → Nat → Hp → Prop, (∃ m, W 0 m (upd H1 D (.lst []))) ∧ ∀ i m H, W i m H →
      ((Its z).stop i H ∧ Qd H) ∨ ((Its z).go i H ∧ ∃ Nx : Hp → Prop, (∀ H', Nx H' → ∃ m', m' < m ∧ W (i + 1) m' H') ∧ ∀ x H', (Its z).yld i H x H' → g x (wipe σ vs) H' fun σ2 H2 => wipe σ2 vs = wipe σ vs ∧ tt σ2 H2 fun b H3 =>
        if b = true then te σ2 H3 fun y H4 => ∃ acc, H4 D = some (.lst acc) ∧ acc.length < sizeLine ∧ Nx (upd H4 D (.lst (acc ++ [y]))) else Nx H3) := by
  refine ⟨fun i m H => m = z.cps.size - i ∧ i ≤ z.cps.size ∧ Pv i H, ⟨_, rfl, Nat.zero_le _, h0⟩, ?_⟩
  rintro i m H ⟨rfl, hi, p⟩
  by_cases hlt : i < z.cps.size
  · refine .inr ⟨hlt, Pv (i + 1), fun H' p' => ⟨z.cps.size - (i + 1), by omega, rfl, hlt, p'⟩, fun x H' y => ?_⟩
    obtain ⟨e, c, hc, rfl⟩ := y
    subst e
    exact hs i c _ hc p
  · have e : i = z.cps.size := by omega
    subst e
    exact .inl ⟨Nat.le_refl _, hd H p⟩
/-- a comprehension over a text whose elements make nothing -/
theorem lc_valsS {z : Str} {ys : List V} {g : TG} {tt : TT} {te : TE} {vs : List Nat} {σ : L2.St} {H : Hp} {D : Addr} {Qd : Hp → Prop} (hD : H D = none) (hn : ys.length = z.cps.size) (hz : z.cps.size ≤ 1000000)
    (hs : ∀ (i : Nat) (c : Nat) (y : V) (H' : Hp) (C : VK) (N : Hp → Prop), z.cps[i]? = some c → ys[i]? = some y → Same H H' → C y H' → g (.str ⟨#[c]⟩) (wipe σ vs) H' fun σ2 H2 => wipe σ2 vs = wipe σ vs ∧ tt σ2 H2 fun b H3 => if b = true then te σ2 H3 C else N H3)
    (hd : ∀ H', Same H H' → H' D = some (.lst ys) → Qd H') :
    ∃ W : Nat → Nat → Hp → Prop, (∃ m, W 0 m (upd H D (.lst []))) ∧ ∀ i m H, W i m H →
      ((Its z).stop i H ∧ Qd H) ∨ ((Its z).go i H ∧ ∃ Nx : Hp → Prop, (∀ H', Nx H' → ∃ m', m' < m ∧ W (i + 1) m' H') ∧ ∀ x H', (Its z).yld i H x H' → g x (wipe σ vs) H' fun σ2 H2 => wipe σ2 vs = wipe σ vs ∧ tt σ2 H2 fun b H3 =>
        if b = true then te σ2 H3 fun y H4 => ∃ acc, H4 D = some (.lst acc) ∧ acc.length < sizeLine ∧ Nx (upd H4 D (.lst (acc ++ [y]))) else Nx H3) := by
  refine lc_str (z := z) (fun i H' => Same H H' ∧ H' D = some (.lst (ys.take i))) ⟨same_new hD, by rw [upd_same]; rfl⟩ (fun i c H' hc p => ?_) (fun H' p => ?_)
  · have hi : i < ys.length := by
      rw [hn]
      exact (Array.getElem?_eq_some_iff.mp hc).1
    refine hs i c ys[i] H' _ _ hc (List.getElem?_eq_getElem hi) p.1 ⟨_, p.2, ?_, fun c o e => ?_, ?_⟩
    · rw [List.length_take]
      exact small1000000 (by omega)
    · rw [upd_ne (ne_of_none e hD)]
      exact p.1 c o e
    · rw [upd_same, List.take_add_one, List.getElem?_eq_getElem hi]
      rfl
  · refine hd H' p.1 ?_
    have e := p.2
    rw [← hn, List.take_length] at e
    exact e

theorem cut1 (y : V) (r : List V) : cutV (y :: r) (some 1) none = r := by
  unfold cutV
  rw [show HT.sIx (y :: r).length 0 (some 1) = min 1 (y :: r).length from HT.sIx_nat (y :: r).length 0 1, HT.sIx_none]
  rw [show min 1 (y :: r).length = 1 by
      rw [List.length_cons]
      omega]
  show List.take ((y :: r).length - 1) r = r
  rw [List.length_cons, Nat.add_sub_cancel]
  exact List.take_length

theorem rd_ty {K : PySem.W.Frag} {H : Hp} {a : Addr} {xs : List V} (h : Rd H a (.tup xs)) : TyX K H (.ref a) (.type "tuple") := by
  rcases h with h | ⟨o, h⟩
  · exact .base (.tup h)
  · exact .fTuple h
/-- a comprehension over a tuple: each element a datum, made on the way -/
theorem lc_dataT {K : PySem.W.Frag} {a : Addr} {xs : List V} {ys : List PyData} {g : TG} {tt : TT} {te : TE} {vs : List Nat} {σ : L2.St} {H : Hp} {D : Addr} {Qd : Hp → Prop} (M : Ms) (hM : Mk M H) (hD : H D = none) (hS : SqT K H a xs) (hn : ys.length = xs.length) (hz : xs.length ≤ 1000000)
    (hs : ∀ (i : Nat) (x : V) (y : PyData) (H' : Hp) (C : VK) (N : Hp → Prop), xs[i]? = some x → ys[i]? = some y → Same H H' → Mk (also M D) H' → (∀ v H2, Same H' H2 → Rp (also M D) H2 v y → C v H2) → g x (wipe σ vs) H' fun σ2 H2 => wipe σ2 vs = wipe σ vs ∧ tt σ2 H2 fun b H3 => if b = true then te σ2 H3 C else N H3)
    (hd : ∀ H', Same H H' → Ld M H' D ys → Qd H') :
    ∃ W : Nat → Nat → Hp → Prop, (∃ m, W 0 m (upd H D (.lst []))) ∧ ∀ i m H, W i m H →
      ((Itt K a).stop i H ∧ Qd H) ∨ ((Itt K a).go i H ∧ ∃ Nx : Hp → Prop, (∀ H', Nx H' → ∃ m', m' < m ∧ W (i + 1) m' H') ∧ ∀ x H', (Itt K a).yld i H x H' → g x (wipe σ vs) H' fun σ2 H2 => wipe σ2 vs = wipe σ vs ∧ tt σ2 H2 fun b H3 =>
        if b = true then te σ2 H3 fun y H4 => ∃ acc, H4 D = some (.lst acc) ∧ acc.length < sizeLine ∧ Nx (upd H4 D (.lst (acc ++ [y]))) else Nx H3) := by
  refine lc_tup (K := K) (a := a) (xs := xs) (fun i H' => Same H H' ∧ ∃ acc, H' D = some (.lst acc) ∧ RpAll (also M D) H' acc (ys.take i)) ⟨same_new hD, [], upd_same, by rw [List.take_zero]; exact .nil⟩ (fun i H' _ p => same_sqt p.1 hS) (fun i x H' hx p => ?_) (fun H' p => ?_)
  · obtain ⟨s, acc, e, r⟩ := p
    have hi : i < ys.length := by
      rw [hn]
      exact (List.getElem?_eq_some_iff.mp hx).1
    have hl := r.length
    rw [List.length_take] at hl
    refine hs i x ys[i] H' _ _ hx (List.getElem?_eq_getElem hi) s ((hM.gr (Gr.same s)).also (ne_none e)) fun v H2 s2 rv => ?_
    refine ⟨acc, s2 _ _ e, small1000000 (by omega), fun c o q => ?_, acc ++ [v], upd_same, ?_⟩
    · rw [upd_ne (ne_of_none q hD)]
      exact s2 _ _ (s c o q)
    · rw [List.take_add_one, List.getElem?_eq_getElem hi]
      exact ((r.sx (Sx.same s2)).append (.one rv)).sx (Sx.put (.inr rfl))
  · obtain ⟨s, acc, e, r⟩ := p
    rw [← hn, List.take_length] at r
    exact hd H' s ⟨hM.out hD, acc, e, r.less also_le⟩


/-- a list that is made beside stays away -/
theorem same_put {H H' : Hp} {p : Addr} {o : HO} (s : Same H H') (h : H p = none) : Same H (upd H' p o) := fun a u e => by
  rw [upd_ne (ne_of_none e h)]
  exact s a u e
end D

namespace D
open PySem PySem.Spec PyProof.Rows L2
/-! ### forms -/
inductive Fm where
  | is (n : Int) | get (x : Str) | sum (f g : Fm) | same (f g : Fm) | pick (f g h : Fm)
def sIs : Str := "is"
def sGet : Str := "get"
def sSum : Str := "sum"
def sSame : Str := "same"
def sPick : Str := "pick"
namespace Fm
def word : Fm → Str
  | .is _ => sIs | .get _ => sGet | .sum _ _ => sSum | .same _ _ => sSame | .pick _ _ _ => sPick
def enc : Fm → PyData
  | .is n => .tuple [.str sIs, .int n]
  | .get x => .tuple [.str sGet, .str x]
  | .sum f g => .tuple [.str sSum, f.enc, g.enc]
  | .same f g => .tuple [.str sSame, f.enc, g.enc]
  | .pick f g h => .tuple [.str sPick, f.enc, g.enc, h.enc]
def subs : Fm → List Fm
  | .is _ => [] | .get _ => [] | .sum f g => [f, g] | .same f g => [f, g] | .pick f g h => [f, g, h]
def dep : Fm → Nat
  | .is _ => 1 | .get _ => 1
  | .sum f g => max f.dep g.dep + 1 | .same f g => max f.dep g.dep + 1
  | .pick f g h => max f.dep (max g.dep h.dep) + 1
def size : Fm → Nat
  | .is _ => 1 | .get _ => 1
  | .sum f g => f.size + g.size + 1 | .same f g => f.size + g.size + 1
  | .pick f g h => f.size + g.size + h.size + 1
def val (ρ : Str → Int) : Fm → Int
  | .is n => n | .get x => ρ x
  | .sum f g => (f.val ρ + g.val ρ) % 10
  | .same f g => if f.val ρ = g.val ρ then 1 else 0
  | .pick f g h => if f.val ρ = 0 then h.val ρ else g.val ρ
def ok (nm : Str → Prop) : Fm → Prop
  | .is n => 0 ≤ n ∧ n ≤ 9 | .get x => nm x
  | .sum f g => f.ok nm ∧ g.ok nm | .same f g => f.ok nm ∧ g.ok nm
  | .pick f g h => f.ok nm ∧ g.ok nm ∧ h.ok nm
theorem dep_pos : ∀ f : Fm, 1 ≤ f.dep
  | .is _ => Nat.le_refl _ | .get _ => Nat.le_refl _
  | .sum f g => by show 1 ≤ max f.dep g.dep + 1; omega
  | .same f g => by show 1 ≤ max f.dep g.dep + 1; omega
  | .pick f g h => by show 1 ≤ max f.dep (max g.dep h.dep) + 1; omega
theorem val_range {ρ : Str → Int} {nm : Str → Prop} (h : ∀ x, nm x → 0 ≤ ρ x ∧ ρ x ≤ 9) : ∀ f : Fm, f.ok nm → 0 ≤ f.val ρ ∧ f.val ρ ≤ 9
  | .is n, o => o
  | .get x, o => h x o
  | .sum f g, o => by
    show 0 ≤ (f.val ρ + g.val ρ) % 10 ∧ (f.val ρ + g.val ρ) % 10 ≤ 9
    omega
  | .same f g, o => by
    show 0 ≤ (if f.val ρ = g.val ρ then (1 : Int) else 0) ∧ (if f.val ρ = g.val ρ then (1 : Int) else 0) ≤ 9
    split <;> decide
  | .pick f g k, o => by
    show 0 ≤ (if f.val ρ = 0 then k.val ρ else g.val ρ) ∧ (if f.val ρ = 0 then k.val ρ else g.val ρ) ≤ 9
    split
    · exact val_range h k o.2.2
    · exact val_range h g o.2.1
end Fm
section
variable {M : Ms} {H : Hp} {v : V}
theorem Rp.tupN {ds : List PyData} (h : Rp M H v (.tuple ds)) : ∃ a xs, v = .ref a ∧ ¬ M a ∧ Rd H a (.tup xs) ∧ RpAll M H xs ds := by
  cases h with
  | @tup a xs _ n s r => exact ⟨a, xs, rfl, n, s.rd, r⟩
theorem Rp.tupX {ds : List PyData} (h : Rp M H v (.tuple ds)) : ∃ a xs, v = .ref a ∧ ¬ M a ∧ H a = some (.tup xs) ∧ RpAll M H xs ds := by
  cases h with
  | @tup a xs _ n s r => exact ⟨a, xs, rfl, n, s.at, r⟩
theorem Rp.lstN {ds : List PyData} (h : Rp M H v (.list ds)) : ∃ a xs, v = .ref a ∧ ¬ M a ∧ Rd H a (.lst xs) ∧ RpAll M H xs ds := by
  cases h with
  | @lst a xs _ n s r => exact ⟨a, xs, rfl, n, s, r⟩
theorem Rp.int_inv {i : Int} (h : Rp M H v (.int i)) : v = .int i := by cases h; rfl
theorem Rp.str_inv {x : Str} (h : Rp M H v (.str x)) : v = .str x := by cases h; rfl
theorem RpAll.inv1 {xs : List V} {d1 : PyData} (h : RpAll M H xs [d1]) : ∃ v1, xs = [v1] ∧ Rp M H v1 d1 := by
  cases h with | cons h1 h2 => cases h2; exact ⟨_, rfl, h1⟩
theorem RpAll.inv2 {xs : List V} {d1 d2 : PyData} (h : RpAll M H xs [d1, d2]) : ∃ v1 v2, xs = [v1, v2] ∧ Rp M H v1 d1 ∧ Rp M H v2 d2 := by
  cases h with | cons h1 h2 => obtain ⟨v2, rfl, r2⟩ := h2.inv1; exact ⟨_, _, rfl, h1, r2⟩
theorem RpAll.inv3 {xs : List V} {d1 d2 d3 : PyData} (h : RpAll M H xs [d1, d2, d3]) : ∃ v1 v2 v3, xs = [v1, v2, v3] ∧ Rp M H v1 d1 ∧ Rp M H v2 d2 ∧ Rp M H v3 d3 := by
  cases h with | cons h1 h2 => obtain ⟨v2, v3, rfl, r2, r3⟩ := h2.inv2; exact ⟨_, _, _, rfl, h1, r2, r3⟩
theorem RpAll.inv4 {xs : List V} {d1 d2 d3 d4 : PyData} (h : RpAll M H xs [d1, d2, d3, d4]) : ∃ v1 v2 v3 v4, xs = [v1, v2, v3, v4] ∧ Rp M H v1 d1 ∧ Rp M H v2 d2 ∧ Rp M H v3 d3 ∧ Rp M H v4 d4 := by
  cases h with | cons h1 h2 => obtain ⟨v2, v3, v4, rfl, r2, r3, r4⟩ := h2.inv3; exact ⟨_, _, _, _, rfl, h1, r2, r3, r4⟩
/-- what stands of a form -/
inductive FmAt (M : Ms) (H : Hp) : Fm → List V → Prop
  | is (n : Int) : FmAt M H (.is n) [.str sIs, .int n]
  | get (x : Str) : FmAt M H (.get x) [.str sGet, .str x]
  | sum {f g : Fm} {u w : V} (a : Rp M H u f.enc) (b : Rp M H w g.enc) : FmAt M H (.sum f g) [.str sSum, u, w]
  | same {f g : Fm} {u w : V} (a : Rp M H u f.enc) (b : Rp M H w g.enc) : FmAt M H (.same f g) [.str sSame, u, w]
  | pick {f g h : Fm} {u w z : V} (a : Rp M H u f.enc) (b : Rp M H w g.enc) (c : Rp M H z h.enc) : FmAt M H (.pick f g h) [.str sPick, u, w, z]
theorem Rp.form {f : Fm} (h : Rp M H v f.enc) : ∃ a xs, v = .ref a ∧ ¬ M a ∧ Rd H a (.tup xs) ∧ FmAt M H f xs := by
  cases f with
  | is n =>
    obtain ⟨a, xs, rfl, n, s, r⟩ := Rp.tupN h
    obtain ⟨v1, v2, rfl, r1, r2⟩ := r.inv2
    cases r1; cases r2
    exact ⟨a, _, rfl, n, s, .is _⟩
  | get x =>
    obtain ⟨a, xs, rfl, n, s, r⟩ := Rp.tupN h
    obtain ⟨v1, v2, rfl, r1, r2⟩ := r.inv2
    cases r1; cases r2
    exact ⟨a, _, rfl, n, s, .get _⟩
  | sum f g =>
    obtain ⟨a, xs, rfl, n, s, r⟩ := Rp.tupN h
    obtain ⟨v1, v2, v3, rfl, r1, r2, r3⟩ := r.inv3
    cases r1
    exact ⟨a, _, rfl, n, s, .sum r2 r3⟩
  | same f g =>
    obtain ⟨a, xs, rfl, n, s, r⟩ := Rp.tupN h
    obtain ⟨v1, v2, v3, rfl, r1, r2, r3⟩ := r.inv3
    cases r1
    exact ⟨a, _, rfl, n, s, .same r2 r3⟩
  | pick f g k =>
    obtain ⟨a, xs, rfl, n, s, r⟩ := Rp.tupN h
    obtain ⟨v1, v2, v3, v4, rfl, r1, r2, r3, r4⟩ := r.inv4
    cases r1
    exact ⟨a, _, rfl, n, s, .pick r2 r3 r4⟩
theorem FmAt.rp {f : Fm} {xs : List V} {a : Addr} (h : FmAt M H f xs) (n : ¬ M a) (s : RdT H a xs) : Rp M H (.ref a) f.enc := by
  cases h with
  | is k => exact .tup n s (.cons (.str _) (.one (.int _)))
  | get x => exact .tup n s (.cons (.str _) (.one (.str _)))
  | sum a b => exact .tup n s (.cons (.str _) (.cons a (.one b)))
  | same a b => exact .tup n s (.cons (.str _) (.cons a (.one b)))
  | pick a b c => exact .tup n s (.cons (.str _) (.cons a (.cons b (.one c))))
end

/-! ### names -/
def isNm (x : Str) : Prop := 1 ≤ x.length ∧ x.length ≤ 8 ∧ ∀ c ∈ x.cps.toList, 97 ≤ c ∧ c ≤ 122
def addN (acc : List Str) (n : Str) : List Str := if n ∈ acc then acc else acc ++ [n]
def Fm.names : Fm → List Str
  | .is _ => [] | .get x => [x]
  | .sum f g => g.names.foldl addN (f.names.foldl addN [])
  | .same f g => g.names.foldl addN (f.names.foldl addN [])
  | .pick f g h => h.names.foldl addN (g.names.foldl addN (f.names.foldl addN []))
theorem addN_mem {acc : List Str} {n x : Str} (h : x ∈ addN acc n) : x ∈ acc ∨ x = n := by
  unfold addN at h
  split at h
  · exact .inl h
  · rcases List.mem_append.mp h with h | h
    · exact .inl h
    · exact .inr (List.mem_singleton.mp h)
theorem addsN_mem : ∀ (ns acc : List Str) (x : Str), x ∈ ns.foldl addN acc → x ∈ acc ∨ x ∈ ns
  | [], acc, x, h => .inl h
  | n :: r, acc, x, h => by
    rcases addsN_mem r (addN acc n) x h with h | h
    · rcases addN_mem h with h | h
      · exact .inl h
      · exact .inr (by rw [h]; exact List.mem_cons_self)
    · exact .inr (List.mem_cons_of_mem _ h)
theorem Fm.names_ok {nm : Str → Prop} : ∀ f : Fm, f.ok nm → ∀ x ∈ f.names, nm x
  | .is _, _, x, h => nomatch h
  | .get y, o, x, h => by rw [List.mem_singleton.mp h]; exact o
  | .sum f g, o, x, h => by
    rcases addsN_mem _ _ _ h with h | h
    · rcases addsN_mem _ _ _ h with h | h
      · exact nomatch h
      · exact f.names_ok o.1 x h
    · exact g.names_ok o.2 x h
  | .same f g, o, x, h => by
    rcases addsN_mem _ _ _ h with h | h
    · rcases addsN_mem _ _ _ h with h | h
      · exact nomatch h
      · exact f.names_ok o.1 x h
    · exact g.names_ok o.2 x h
  | .pick f g k, o, x, h => by
    rcases addsN_mem _ _ _ h with h | h
    · rcases addsN_mem _ _ _ h with h | h
      · rcases addsN_mem _ _ _ h with h | h
        · exact nomatch h
        · exact f.names_ok o.1 x h
      · exact g.names_ok o.2.1 x h
    · exact k.names_ok o.2.2 x h
theorem addN_len (acc : List Str) (n : Str) : (addN acc n).length ≤ acc.length + 1 := by
  unfold addN
  split
  · omega
  · rw [List.length_append]
    exact Nat.le_refl _
theorem addsN_len : ∀ (ns acc : List Str), (ns.foldl addN acc).length ≤ acc.length + ns.length
  | [], acc => Nat.le_refl _
  | n :: r, acc => by
    have h1 := addsN_len r (addN acc n)
    have h2 := addN_len acc n
    show (r.foldl addN (addN acc n)).length ≤ acc.length + (r.length + 1)
    omega
theorem Fm.names_len : ∀ f : Fm, f.names.length ≤ f.size
  | .is _ => Nat.zero_le _
  | .get _ => Nat.le_refl _
  | .sum f g => by
    have h1 := f.names_len; have h2 := g.names_len; have h3 := addsN_len f.names []; have h4 := addsN_len g.names (f.names.foldl addN [])
    show (g.names.foldl addN (f.names.foldl addN [])).length ≤ f.size + g.size + 1
    rw [List.length_nil] at h3
    omega
  | .same f g => by
    have h1 := f.names_len; have h2 := g.names_len; have h3 := addsN_len f.names []; have h4 := addsN_len g.names (f.names.foldl addN [])
    show (g.names.foldl addN (f.names.foldl addN [])).length ≤ f.size + g.size + 1
    rw [List.length_nil] at h3
    omega
  | .pick f g k => by
    have h1 := f.names_len; have h2 := g.names_len; have h3 := addsN_len f.names []; have h4 := addsN_len g.names (f.names.foldl addN [])
    have h5 := k.names_len; have h6 := addsN_len k.names (g.names.foldl addN (f.names.foldl addN []))
    show (k.names.foldl addN (g.names.foldl addN (f.names.foldl addN []))).length ≤ f.size + g.size + k.size + 1
    rw [List.length_nil] at h3
    omega
theorem Fm.size_le : ∀ (d : Nat) (f : Fm), f.dep ≤ d → f.size ≤ 4 ^ d
  | 0, f, h => absurd f.dep_pos (by omega)
  | d + 1, .is _, _ => Nat.pow_pos (by decide)
  | d + 1, .get _, _ => Nat.pow_pos (by decide)
  | d + 1, .sum f g, h => by
    have h0 : max f.dep g.dep + 1 ≤ d + 1 := h
    have h1 := Fm.size_le d f (by omega)
    have h2 := Fm.size_le d g (by omega)
    have h3 : 1 ≤ 4 ^ d := Nat.pow_pos (by decide)
    show f.size + g.size + 1 ≤ 4 ^ d * 4
    omega
  | d + 1, .same f g, h => by
    have h0 : max f.dep g.dep + 1 ≤ d + 1 := h
    have h1 := Fm.size_le d f (by omega)
    have h2 := Fm.size_le d g (by omega)
    have h3 : 1 ≤ 4 ^ d := Nat.pow_pos (by decide)
    show f.size + g.size + 1 ≤ 4 ^ d * 4
    omega
  | d + 1, .pick f g k, h => by
    have h0 : max f.dep (max g.dep k.dep) + 1 ≤ d + 1 := h
    have h1 := Fm.size_le d f (by omega)
    have h2 := Fm.size_le d g (by omega)
    have h4 := Fm.size_le d k (by omega)
    have h3 : 1 ≤ 4 ^ d := Nat.pow_pos (by decide)
    show f.size + g.size + k.size + 1 ≤ 4 ^ d * 4
    omega
theorem in_strs (n : Str) (acc : List Str) : inV (.str n) (acc.map V.str) = decide (n ∈ acc) := by
  unfold inV
  rw [List.any_map, Bool.eq_iff_iff, List.any_eq_true, decide_eq_true_iff]
  constructor
  · rintro ⟨x, hx, e⟩
    have e' : (x == n) = true := e
    rw [beq_iff_eq] at e'
    rw [← e']
    exact hx
  · intro h
    exact ⟨n, h, by show (n == n) = true; exact beq_self_eq_true n⟩
theorem flat_strs (acc : List Str) : (acc.map V.str).all flatV = true := by
  rw [List.all_map, List.all_eq_true]
  intro x _
  rfl
theorem RpAll.strs {M : Ms} {H : Hp} : ∀ (ns : List Str), RpAll M H (ns.map V.str) (ns.map PyData.str)
  | [] => .nil
  | n :: r => .cons (.str n) (RpAll.strs r)
theorem RpAll.ofStrs {M : Ms} {H : Hp} : ∀ {ns : List Str} {vs : List V}, RpAll M H vs (ns.map PyData.str) → vs = ns.map V.str
  | [], _, h => by cases h; rfl
  | n :: r, _, h => by
    cases h with
    | cons h1 h2 =>
      cases h1
      rw [RpAll.ofStrs h2]
      rfl

theorem sign_lo {c : Nat} (h : 97 ≤ c) : decide (({ cps := #[c] } : Str).cps.toList < (Str.ofString "a").cps.toList) = false := by
  rw [show (Str.ofString "a").cps.toList = [97] by decide +kernel, decide_eq_false_iff_not]
  show ¬ [c] < [97]
  rw [List.cons_lt_cons_iff]
  rintro (h1 | ⟨_, h1⟩)
  · omega
  · exact absurd h1 (by decide)
theorem sign_hi {c : Nat} (h : c ≤ 122) : decide ((Str.ofString "z").cps.toList < ({ cps := #[c] } : Str).cps.toList) = false := by
  rw [show (Str.ofString "z").cps.toList = [122] by decide +kernel, decide_eq_false_iff_not]
  show ¬ [122] < [c]
  rw [List.cons_lt_cons_iff]
  rintro (h1 | ⟨_, h1⟩)
  · omega
  · exact absurd h1 (by decide)

/-- a form with its level -/
def lvD (p : Fm × Nat) : PyData := .tuple [p.1.enc, .int (p.2 : Int)]
def szs (ps : List (Fm × Nat)) : Nat := (ps.map fun p => p.1.size).sum
theorem szs_app (ps qs : List (Fm × Nat)) : szs (ps ++ qs) = szs ps + szs qs := by
  unfold szs
  rw [List.map_append, List.sum_append_nat]
theorem szs_rev (ps : List (Fm × Nat)) : szs ps.reverse = szs ps := by
  unfold szs
  rw [List.map_reverse, List.sum_reverse]
theorem subs_size (f : Fm) (n : Nat) : szs (f.subs.map fun g => (g, n)) + 1 = f.size := by
  cases f <;> simp [szs, Fm.subs, Fm.size] <;> omega
theorem subs_ok {nm : Str → Prop} {f g : Fm} (h : f.ok nm) (hg : g ∈ f.subs) : g.ok nm := by
  cases f <;> simp [Fm.subs] at hg <;> simp [Fm.ok] at h
  all_goals (first | (rcases hg with rfl | rfl | rfl <;> simp_all) | (rcases hg with rfl | rfl <;> simp_all))
theorem subs_dep {f g : Fm} (hg : g ∈ f.subs) : g.dep + 1 ≤ f.dep := by
  cases f <;> simp [Fm.subs] at hg <;> simp [Fm.dep]
  all_goals (first | (rcases hg with rfl | rfl | rfl <;> omega) | (rcases hg with rfl | rfl <;> omega))
theorem subs_len (f : Fm) : f.subs.length ≤ 3 := by cases f <;> simp [Fm.subs]
theorem RpAll.reverse {M : Ms} {H : Hp} : ∀ {vs : List V} {ds : List PyData}, RpAll M H vs ds → RpAll M H vs.reverse ds.reverse
  | _, [], h => by cases h; exact .nil
  | _, d :: ds, h => by
    cases h with
    | cons h1 h2 =>
      rw [List.reverse_cons, List.reverse_cons]
      exact (RpAll.reverse h2).append (.one h1)
theorem RpAll.last {M : Ms} {H : Hp} {vs : List V} {ds : List PyData} {d : PyData} (h : RpAll M H vs (ds ++ [d])) : ∃ us v, vs = us ++ [v] ∧ RpAll M H us ds ∧ Rp M H v d := by
  have h1 := h.reverse
  rw [List.reverse_append] at h1
  generalize hv : vs.reverse = ws at h1
  cases h1 with
  | @cons v us _ _ a b =>
    have e : vs = us.reverse ++ [v] := by
      rw [← List.reverse_reverse vs, hv, List.reverse_cons]
    refine ⟨us.reverse, v, e, ?_, a⟩
    have b' : RpAll M H us ds.reverse := b
    have := b'.reverse
    rw [List.reverse_reverse] at this
    exact this

theorem Fm.size_pos : ∀ f : Fm, 1 ≤ f.size
  | .is _ => Nat.le_refl _ | .get _ => Nat.le_refl _
  | .sum f g => by show 1 ≤ f.size + g.size + 1; omega
  | .same f g => by show 1 ≤ f.size + g.size + 1; omega
  | .pick f g h => by show 1 ≤ f.size + g.size + h.size + 1; omega
theorem szs_len : ∀ ps : List (Fm × Nat), ps.length ≤ szs ps
  | [] => Nat.le_refl _
  | p :: r => by
    have h1 := szs_len r
    have h2 := p.1.size_pos
    show r.length + 1 ≤ ((p :: r).map fun p => p.1.size).sum
    rw [List.map_cons, List.sum_cons]
    unfold szs at h1
    omega

def stepN (acc : List Str) (s : Fm) : List Str := s.names.foldl addN acc
theorem names_fold (f : Fm) (h : ∀ x, f ≠ .get x) : f.names = f.subs.foldl stepN [] := by
  cases f with
  | get x => exact absurd rfl (h x)
  | _ => rfl
theorem fold_take {α β : Type} (g : β → α → β) (b : β) (l : List α) (i : Nat) (x : α) (h : l[i]? = some x) : (l.take (i + 1)).foldl g b = g ((l.take i).foldl g b) x := by
  rw [List.take_add_one, h, List.foldl_append]
  rfl
end D

namespace D
open PySem PySem.Spec PyProof.Rows L2
theorem sub_len {α : Type} [DecidableEq α] : ∀ (l2 l1 : List α), l1.Nodup → (∀ x ∈ l1, x ∈ l2) → l1.length ≤ l2.length ∧ (l1.length = l2.length → l2.Nodup)
  | [], l1, _, h => by
    cases l1 with
    | nil => exact ⟨Nat.le_refl _, fun _ => .nil⟩
    | cons x r => exact nomatch h x List.mem_cons_self
  | y :: r, l1, nd, h => by
    by_cases hy : y ∈ l1
    · have nd1 : (l1.erase y).Nodup := nd.erase y
      have h1 : ∀ x ∈ l1.erase y, x ∈ r := fun x hx => by
        have hx' := (nd.mem_erase_iff).mp hx
        rcases List.mem_cons.mp (h x hx'.2) with e | e
        · exact absurd e hx'.1
        · exact e
      obtain ⟨a, b⟩ := sub_len r (l1.erase y) nd1 h1
      have le := List.length_erase_of_mem hy
      have pos : 0 < l1.length := List.length_pos_of_mem hy
      refine ⟨by rw [List.length_cons]; omega, fun e => ?_⟩
      rw [List.length_cons] at e
      refine List.nodup_cons.mpr ⟨fun hr => ?_, b (by omega)⟩
      have h2 : ∀ x ∈ l1, x ∈ r := fun x hx => by
        rcases List.mem_cons.mp (h x hx) with e | e
        · rw [e]; exact hr
        · exact e
      have := (sub_len r l1 nd h2).1
      omega
    · have h2 : ∀ x ∈ l1, x ∈ r := fun x hx => by
        rcases List.mem_cons.mp (h x hx) with e | e
        · rw [e] at hx; exact absurd hx hy
        · exact e
      have := (sub_len r l1 nd h2).1
      refine ⟨by rw [List.length_cons]; omega, fun e => ?_⟩
      rw [List.length_cons] at e
      omega
section
variable {X : Cx}
def tLenSetT (K : PySem.W.Frag) (ta : TE) : TE := fun σ H Q => ta σ H fun x H1 => ∃ (l : Addr) (ns : List Int), x = V.ref l ∧ SqT K H1 l (ns.map V.int) ∧ ns.length ≤ 1000 ∧ ∀ c : Nat, (c = ns.length ↔ ns.Nodup) → Q (.int c) H1
theorem pe_lenSetT {K : PySem.W.Frag} {a : Expr} {ta : TE} {p p2 q pos : Pos} (hK : X.K = K) (hc : X.calm = true) (hg : Gl X "len") (hm : X.mg "len" = none) (hg2 : Gl X "set") (hm2 : X.mg "set" = none) (ha : PE X a ta)
    (na : starEach [a] X.env = (false, eval a X.env) :: starEach [] X.env := by rfl) : PE X (.Call (.Name "len" p) [.Call (.Name "set" p2) [a] [] q] [] pos) (tLenSetT K ta) := by
  subst hK
  refine ⟨fun pins s σ H Q I h => ?_⟩
  refine Call_ (ld_blt I hg hm PySem.boot_len ?_)
  refine PyProof.Rows.callWith_builtin1 (PyProof.Rows.args_cons ?_ rfl) rfl rfl
  refine Call_ (ld_blt I hg2 hm2 PyProof.Rows.boot_set ?_)
  refine PyProof.Rows.callWith_type1 (PyProof.Rows.args_cons (thn (ha.run pins s σ H _ I h) fun v s1 ⟨x, H1, I1, r1, q1⟩ => PyProof.Rows.args_nil ?_) na) na rfl
  obtain ⟨l, ns, rfl, hq, h1, q1⟩ := q1
  cases r1
  obtain ⟨its, rv, pt, hz⟩ := I1.tuple hq
  have hi : IntsAre its.toArray.toList ns := ints_of_vals rv
  refine call_set_tupI ns (I1.ok.hd hc) (show s1.heap.IsTuple l its.toArray from pt) hi (by unfold scanBound; omega) fun h' tk c R1 hcn k => ?_
  obtain ⟨o, es, ep, t, ho, hex, hdt, g, nd, hm2, hb, hf, hn, hr, hl2⟩ := R1
  refine PyProof.Rows.args_nil ?_
  have I2 : Inv X pins σ H1 { s1 with heap := h', toks := tk } := I1.kept k
  have hsub : ∀ x ∈ es.toList.map keyOf, x ∈ ns := fun x hx => of_decide_eq_true ((hm2 x).mpr hx)
  have hsup : ∀ x ∈ ns, x ∈ es.toList.map keyOf := fun x hx => (hm2 x).mp (decide_eq_true hx)
  have hlen : (es.toList.map keyOf).length = es.size := by rw [List.length_map, Array.length_toList]
  have hc2 : es.size = ns.length ↔ ns.Nodup := by
    obtain ⟨a1, a2⟩ := sub_len ns _ nd hsub
    refine ⟨fun e => a2 (by rw [hlen, e]), fun hnd => ?_⟩
    have b1 := (sub_len (es.toList.map keyOf) ns hnd hsup).1
    omega
  exact call_len_set ho hex hdt hf (by unfold scanBound at hb; omega) ⟨.int es.size, H1, I2.tok _, ⟨_, rfl⟩, q1 es.size hc2⟩
end
end D

namespace D
open PySem PySem.Spec PyProof.Rows L2
section
variable {X : Cx} {C g : Addr} {n : Nat} {CX : CXT} {sp : Sp} {E : XK} {fd : FuncData} {ps : List Str}
/-- x op y, two instances of one class with its own def for op -/
def rOwnI (C : Addr) (sp : Sp) (E : XK) : R2 := fun x y H Q => ∃ a dx fs b dy gs, x = .ref a ∧ y = .ref b ∧ H a = some (.ins C dx fs) ∧ H b = some (.ins C dy gs) ∧ sp [x, y] H Q E
theorem op_ownI {op : CmpOp} (hop : ∀ a b, compareOp op a b = richCompare op a b) (hs : PySem.W.findIn X.K (.ref C) (cmpInfo op).2.1 = some (some (.ref g))) (hf : PySem.W.isFn X.K (.ref g) = true) (hn : PySem.W.notFirst X.K C (.ref C) = true)
    (F : FnOk X.prog X.w X.K X.mg X.base CX n g fd ps sp) (hb : Binds X.K fd ps []) (hr : Room n X.A) (hx : Passes CX X E) : OpR X (compareOp op) (rOwnI C sp E) := by
  intro pins s σ H x y v u Q I rx ry h
  obtain ⟨a, dx, fs, b, dy, gs, rfl, rfl, ha, hb2, q⟩ := h
  cases (show v = Value.ref a from rx)
  cases (show u = Value.ref b from ry)
  obtain ⟨mA, O, _⟩ := ins_get I.hok ha
  obtain ⟨od, J, _⟩ := O.look
  obtain ⟨mA', O', _⟩ := ins_get I.hok hb2
  obtain ⟨od', J', _⟩ := O'.look
  obtain ⟨m, hF⟩ := I.fr
  rw [hop]
  refine PySem.W.cmp_K (op := op) (tb := .ref C) hr.units0 hF I.ok.mod.kin J J'.type hn hs hf ?_
  refine wpAny_mono (run_fn (us := [.ref a, .ref b]) (vs := [.ref a, .ref b]) F hr hb .nil hx I (.cons rfl (.cons rfl .nil)) q) (fun w s' z => ?_) fun _ _ x => x
  obtain ⟨z', H', I', rz, qz⟩ := z
  exact SlX.cmpback rz ⟨z', H', I', rz, qz⟩
/-- an instance is called -/
def tCallOI (C : Addr) (sp : Sp) (E : XK) (tf : TE) (t : TA) : TE := fun σ H Q => tf σ H fun y H1 => ∃ a dx fs, y = V.ref a ∧ t σ H1 fun vs H2 => H2 a = some (.ins C dx fs) ∧ sp (V.ref a :: vs) H2 Q E
theorem pe_callOI {fe e : Expr} {es : List Expr} {pos : Pos} {tf : TE} {t : TA} (c : StX.CallO X.K C g) (F : FnOk X.prog X.w X.K X.mg X.base CX n g fd ps sp) (hb : Binds X.K fd ps []) (hr : Room n X.A) (hx : Passes CX X E) (hf : PE X fe tf) (ha : PA X (e :: es) t)
    (ht : eval (.Call fe (e :: es) [] pos) X.env = (do callWith pos (← eval fe X.env) [] (backTo pos (starEach (e :: es) X.env)) (backToKw pos (keywordEach [] X.env))) := by rfl)
    (he : starEach (e :: es) X.env = (false, eval e X.env) :: starEach es X.env := by rfl) (hpl : (backTo pos (starEach es X.env)).any (·.1) = false := by rfl) : PE X (.Call fe (e :: es) [] pos) (tCallOI C sp E tf t) := by
  refine ⟨fun pins s σ H Q I h => ?_⟩
  refine Call_ (thn (hf.run pins s σ H _ I h) fun u s1 ⟨y, H1, I1, ry, a, dx, fs, ey, q⟩ => ?_) ht
  subst ey
  cases (show u = Value.ref a from ry)
  refine StX.callO_with (thn (ha.run pos pins s1 σ H1 _ I1 q) fun us s2 ⟨vs, H2, I2, r, hi, q2⟩ => ?_) he hpl
  obtain ⟨ox, od, J, hd⟩ := StX.insC_at I2 (.inr ⟨dx, fs, hi⟩)
  exact ⟨⟨C, ox, od, J, hd⟩, StX.run_callO c (F.raw hb .nil) hr hx I2 (.inr ⟨dx, fs, hi⟩) r (by rw [List.append_nil]; exact q2)⟩
/-- isinstance of an own class -/
def rIsC (C : Addr) : List V → Hp → VK → Prop := fun xs H Q => ∃ a dx fs, xs = [.ref a, .ref C] ∧ H a = some (.ins C dx fs) ∧ Q (.bl true) H
theorem call_isCK (c : C8.InsC X.K C) : CallR X (.builtin "isinstance") (rIsC C) := C8.call_isC c
end
end D

namespace PySem
theorem meets_enumerate_newT (l : Addr) (items : Array Value) :
    Meets (Builtin.«enumerate.__new__» ⟨[.type "enumerate", .ref l], []⟩) (fun _ R s => s.heap.IsTuple l items ∧
      R (.ok (.ret (.ref (s.heap.push { cls := .type "tuple_iterator", data := .fields #[.ref l, .int 0 0] }).objs.size)))
        { s with heap := (s.heap.push { cls := .type "tuple_iterator", data := .fields #[.ref l, .int 0 0] }).push { cls := .type "enumerate", data := .fields #[.none, .bool false, .ref s.heap.objs.size, rawInt 0, .none, .none] } }) :=
  .of_wp fun prog w A R s h => by
    obtain ⟨hp, g, d, tk, os⟩ := s; obtain ⟨hL, h⟩ := h
    have hsub := sub_enumerate
    wp_walk
    refine wpAny_stack_any fun st => wpAny_pure ?_
    split
    · rename_i c _ _ _ _ _
      cases (c == Value.type "enumerate")
      · wp_walk using wpAny_pyIter_tuple hL
        exact ⟨_, rfl, h⟩
      · wp_walk using wpAny_pyIter_tuple hL
        exact ⟨_, rfl, h⟩
    · wp_walk using wpAny_pyIter_tuple hL
      exact ⟨_, rfl, h⟩
section
variable {prog : Program} {w : World} {A : Around} {E : Value → Shared → Prop} {s : Shared}
theorem call_enumerate_tuple {l : Addr} {items : Array Value} {Q : Value → Shared → Prop} (hL : s.heap.IsTuple l items)
    (h : ∀ h', IsEnum h' (s.heap.objs.size + 1) s.heap.objs.size 0 .none → h'.IsTupleIter s.heap.objs.size l 0 → h'.objs.size = s.heap.objs.size + 2 →
      (∀ b o, s.heap.get? b = some o → h'.get? b = some o) → Q (.ref (s.heap.objs.size + 1)) { s with heap := h' }) :
    wpAny (model prog w) A (call (.type "enumerate") [.ref l]) Q E s := by
  refine callType_new F.called_enumerate (by decide) (F.typeCall_enumerate_1 _) (F.newCall_enumerate_1 _) (fun obj => F.args_object_init_2 obj _) F.entry_enumerate_new
    (meets_enumerate_newT l items) ⟨hL, ?_⟩
  have hz : (s.heap.push { cls := .type "tuple_iterator", data := .fields #[.ref l, .int 0 0] }).objs.size = s.heap.objs.size + 1 := Heap.size_push ..
  show _ ∧ _
  rw [hz]
  have he : IsEnum ((s.heap.push { cls := .type "tuple_iterator", data := .fields #[.ref l, .int 0 0] }).push
      { cls := .type "enumerate", data := .fields #[.none, .bool false, .ref s.heap.objs.size, rawInt 0, .none, .none] }) (s.heap.objs.size + 1) s.heap.objs.size 0 .none := by
    have := Heap.get?_push_size (s.heap.push { cls := .type "tuple_iterator", data := .fields #[.ref l, .int 0 0] })
      (o := { cls := .type "enumerate", data := .fields #[.none, .bool false, .ref s.heap.objs.size, rawInt 0, .none, .none] }) rfl
    rw [hz] at this; exact this
  refine ⟨⟨_, he, rfl⟩, h _ he ⟨_, Heap.get?_push_of_some _ (Heap.get?_push_size _ rfl), rfl, rfl⟩ (by rw [Heap.size_push, hz]) fun b o x => Heap.get?_push_of_some _ (Heap.get?_push_of_some _ x)⟩
end
end PySem
namespace D
open PySem PySem.Spec PyProof.Rows L2
/-- the tuple at a, each item in a new pair with its place -/
def Itet (K : PySem.W.Frag) (a : Addr) : It :=
  ⟨fun i H => ∃ (xs : List V) (x : V), SqT K H a xs ∧ xs[i]? = some x, fun i H v H' => ∃ T x, v = .ref T ∧ H T = none ∧ H' = upd H T (.tup [.int (i : Nat), x]) ∧ ∀ xs, SqT K H a xs → xs[i]? = some x, fun i H => ∃ xs : List V, SqT K H a xs ∧ xs.length = i⟩
theorem turn_enumT {P : Program} {w : World} {K : PySem.W.Frag} {elts : List Expr} {kk : Nat} {tpos : Pos} (a e it : Addr) :
    Turn P w K (.Tuple elts kk tpos) (Itet K a) [e, it] e (fun i h => (∃ old, IsEnum h e it ((i : Nat) : Int) old) ∧ h.IsTupleIter it a i ∧ e ≠ it) where
  mem := by simp
  obj := fun i h st b hb => by
    obtain ⟨⟨old, he⟩, ⟨o, ho, hc, hd⟩, _⟩ := st
    have e' : b = e ∨ b = it := by simpa using hb
    rcases e' with z | z
    · rw [z]; exact ⟨_, he, fun v q => nomatch q⟩
    · rw [z]; exact ⟨o, ho, fun v q => by rw [hd] at q; cases q⟩
  keep := fun i h h' st k => let ⟨⟨old, he⟩, hi, hne⟩ := st; ⟨⟨old, k e (by simp) _ he⟩, hi.at fun o q => k it (by simp) o q, hne⟩
  item := by
    intro X hP hw hK hc i pins s σ H E I hf st hg
    subst hP hw hK
    obtain ⟨⟨old, he⟩, hit, hne⟩ := st
    obtain ⟨xs, x, hq, hx⟩ := hg
    obtain ⟨its, rv, p, hz⟩ := I.tuple hq
    have p2 : s.heap.IsTuple a its.toArray := p
    obtain ⟨u, hu, ru⟩ := rv.get hx
    have hel : e < s.heap.objs.size := Heap.lt_size he
    have hil : it < s.heap.objs.size := by obtain ⟨_, q, _⟩ := hit; exact Heap.lt_size q
    have hai : a ≠ it := fun z => by
      obtain ⟨o1, q1, c1, _⟩ := hit
      obtain ⟨o2, q2, c2, _⟩ := p2
      rw [z, q1] at q2
      cases q2
      rw [c1] at c2
      exact absurd c2 (by decide)
    have hea : e ≠ a := fun z => by
      obtain ⟨o2, q2, c2, _⟩ := p2
      rw [← z, he] at q2
      cases q2
      exact absurd (show Value.type "enumerate" = Value.type "tuple" from c2) (by decide)
    have hlt : i < its.toArray.size := by
      have := (List.getElem?_eq_some_iff.mp hu).1
      simpa using this
    refine wpAny_pyNext_enum_itemD (Draws.tuple (A := X.A.in1) (I.ok.hd hc) it a hai its.toArray) he ⟨hit, p2⟩ hlt hne (fun z => by
      rcases List.mem_cons.mp z with z | z
      · exact hne z
      · exact hea (List.mem_singleton.mp z)) fun x' h' tk hP ho hst' hT hsz hk => ?_
    obtain rfl : x' = u := by
      have h1 : its.toArray[i]? = some x' := hP
      rw [List.getElem?_toArray, hu] at h1
      exact (Option.some.inj h1).symm
    refine ⟨_, rfl, wpAny_letOwnedTupleGo_enum (s := { s with heap := h', toks := tk + 1 }) ho fun h'' he' sb => ?_⟩
    have hT2 : h''.get? s.heap.objs.size = some { cls := .type "tuple", data := .seq #[.int i tk, x'] } := (sb.2 _ (Nat.ne_of_gt hel)).trans hT
    have new : ObjOk X.prog X.w (upd H s.heap.objs.size (.tup [.int (i : Nat), x])) h'' s.heap.objs.size (.tup [.int (i : Nat), x]) :=
      ⟨by show 2 ≤ sizeLine; decide, [.int i tk, x'], .cons ⟨_, rfl⟩ (.cons ru .nil), ⟨_, hT2, rfl, _, rfl⟩⟩
    have I1 : Inv X pins σ (upd H s.heap.objs.size (.tup [.int (i : Nat), x])) { s with heap := h'', toks := tk + 1 } :=
      I.turnedNew (ch := [e, it]) (fun b ob hb q => (sb.2 b (fun z => hb (by simp [z]))).trans (hk b ob (fun z => hb (by simp [z])) (fun z => hb (by simp [z])) q)) hf (Nat.le_refl _) new
    refine ⟨.ref s.heap.objs.size, _, I1, rfl, ⟨_, x, rfl, I.hok.fresh (Nat.le_refl _), rfl, fun ys hy => by rw [I.tuple_inj hy hq]; exact hx⟩, ⟨⟨x', ?_⟩, hst'.1.at fun o q => (sb.2 it (Ne.symm hne)).trans q, hne⟩, fun b hb => ?_⟩
    · have e1 : ((i + 1 : Nat) : Int) = (i : Int) + 1 := by omega
      rw [e1]; exact he'
    · have hb' : b < s.heap.objs.size := by
        have e' : b = e ∨ b = it := by simpa using hb
        rcases e' with z | z
        · rw [z]; exact hel
        · rw [z]; exact hil
      rw [upd_ne (Nat.ne_of_lt hb')]
      exact (hf b hb).1
  done := by
    intro X hP hw hK hc i pins s σ H E I hf st hg
    subst hP hw hK
    obtain ⟨⟨old, he⟩, hit, hne⟩ := st
    obtain ⟨xs, hq, hx⟩ := hg
    obtain ⟨its, rv, p, hz⟩ := I.tuple hq
    have p2 : s.heap.IsTuple a its.toArray := p
    obtain ⟨f0, f1, f2, f3, f4, f5⟩ := hf it (by simp)
    have hl := rv.length
    have hai : a ≠ it := fun z => by
      obtain ⟨o1, q1, c1, _⟩ := hit
      obtain ⟨o2, q2, c2, _⟩ := p2
      rw [z, q1] at q2
      cases q2
      rw [c1] at c2
      exact absurd c2 (by decide)
    have en : i = its.toArray.size := by
      rw [List.size_toArray]
      omega
    exact wpAny_pyNext_enum_endD (Draws.tuple (A := X.A.in1) (I.ok.hd hc) it a hai its.toArray) he (show _ ∧ _ from ⟨by rw [← en]; exact hit, p2⟩) fun h' eb => ⟨rfl, I.turned (t' := s.toks) (fun b o hb q => eb b o hb q) f0 f1 f3 f4 f5⟩
  self := fun A i s Q E st h => let ⟨⟨_, he⟩, _⟩ := st; wpAny_pyIter_enum he h
def iEnumT (K : PySem.W.Frag) (ta : TA) : TI := fun σ H R => ta σ H fun vs H1 => ∃ a xs, vs = [.ref a] ∧ SqT K H1 a xs ∧ R (Itet K a) H1
theorem pi_enumTK {K : PySem.W.Frag} {X : Cx} {e : Expr} {ta : TA} {p pos tpos : Pos} {elts : List Expr} {kk : Nat} (hK : X.K = K) (hg : Gl X "enumerate") (hm : X.mg "enumerate" = none) (ha : PA X [e] ta) (hs : starEach [e] X.env = [(false, eval e X.env)] := by rfl) :
    PI X (.Tuple elts kk tpos) (.Call (.Name "enumerate" p) [e] [] pos) (iEnumT K ta) := by
  subst hK
  refine ⟨fun pins s σ H R I h => ?_⟩
  refine Call_ (ld_blt I hg hm boot_enumerate (PyProof.Rows.callWith_type1 (thn (ha.run pos pins s σ H _ I h) fun us s1 ⟨vs, H1, I1, r1, q1⟩ => ?_) hs rfl))
  obtain ⟨a, xs, ex, hq, q⟩ := q1
  subst ex
  cases r1 with
  | cons r rr =>
    cases rr
    cases r
    obtain ⟨its, rv, p', hz⟩ := I1.tuple hq
    refine call_enumerate_tuple (show s1.heap.IsTuple a its.toArray from p') fun h' he hit hsz hk => wpAny_pyIter_enum he ?_
    have I2 : Inv X pins σ H1 { s1 with heap := h' } := I1.kept (t' := s1.toks) hk
    refine ⟨s1.heap.objs.size + 1, [s1.heap.objs.size + 1, s1.heap.objs.size], _, _, H1, rfl, I2, turn_enumT a (s1.heap.objs.size + 1) s1.heap.objs.size, ⟨⟨.none, he⟩, hit, Nat.succ_ne_self _⟩, fun b hb => ?_, q⟩
    have e' : b = s1.heap.objs.size + 1 ∨ b = s1.heap.objs.size := by simpa using hb
    have hle : s1.heap.objs.size ≤ b := by
      rcases e' with z | z
      · rw [z]; exact Nat.le_add_right _ _
      · rw [z]; exact Nat.le_refl _
    exact I1.fpOk hle (I1.hok.fresh hle)
theorem for_enumT {K : PySem.W.Frag} {a : Addr} {xs : List V} {g : TG} {tb : TS} {D : Ends} {σ : L2.St} {H : Hp} (Pv : Nat → L2.St → Hp → Prop) (h0 : Pv 0 σ H) (hl : ∀ i σ H, i ≤ xs.length → Pv i σ H → SqT K H a xs)
    (hs : ∀ i x T σ H, xs[i]? = some x → H T = none → Pv i σ H → g (.ref T) σ (upd H T (.tup [.int (i : Nat), x])) fun σ2 H2 => tb { D with nx := Pv (i + 1), ct := Pv (i + 1), bk := D.nx } σ2 H2) (hd : ∀ σ H, Pv xs.length σ H → D.nx σ H) :
    ∃ W : Nat → Nat → L2.St → Hp → Prop, (∃ m, W 0 m σ H) ∧ ∀ i m σ H, W i m σ H →
      ((Itet K a).stop i H ∧ D.nx σ H) ∨ ((Itet K a).go i H ∧ ∃ N : L2.St → Hp → Prop, (∀ σ' H', N σ' H' → ∃ m', m' < m ∧ W (i + 1) m' σ' H') ∧ ∀ x H', (Itet K a).yld i H x H' → g x σ H' fun σ2 H2 => tb { D with nx := N, ct := N, bk := D.nx } σ2 H2) := by
  refine ⟨fun i m σ H => m = xs.length - i ∧ i ≤ xs.length ∧ Pv i σ H, ⟨xs.length, by simp, Nat.zero_le _, h0⟩, ?_⟩
  rintro i m σ H ⟨rfl, hi, p⟩
  have q := hl i σ H hi p
  by_cases hlt : i < xs.length
  · refine .inr ⟨⟨xs, xs[i], q, by simp [hlt]⟩, Pv (i + 1), fun σ' H' p' => ⟨xs.length - (i + 1), by omega, rfl, hlt, p'⟩, fun x H' y => ?_⟩
    obtain ⟨T, z, rfl, hT, rfl, hz⟩ := y
    exact hs i z T σ _ (hz xs q) hT p
  · have e : i = xs.length := by omega
    subst e
    exact .inl ⟨⟨xs, q, rfl⟩, hd σ H p⟩
/-- comprehensions over enumerate -/
theorem lc_enum {K : PySem.W.Frag} {a : Addr} {xs : List V} {g : TG} {tt : TT} {te : TE} {vs : List Nat} {σ : L2.St} {H1 : Hp} {D : Addr} {Qd : Hp → Prop} (Pv : Nat → Hp → Prop) (h0 : Pv 0 (upd H1 D (.lst []))) (hl : ∀ i H, i ≤ xs.length → Pv i H → SqL K H a xs)
    (hs : ∀ i x T H, xs[i]? = some x → H T = none → Pv i H → g (.ref T) (wipe σ vs) (upd H T (.tup [.int (i : Nat), x])) fun σ2 H2 => wipe σ2 vs = wipe σ vs ∧ tt σ2 H2 fun b H3 =>
      if b = true then te σ2 H3 fun y H4 => ∃ acc, H4 D = some (.lst acc) ∧ acc.length < sizeLine ∧ Pv (i + 1) (upd H4 D (.lst (acc ++ [y]))) else Pv (i + 1) H3) (hd : ∀ H, Pv xs.length H → Qd H) :
    ∃ W : Nat → Nat → Hp → Prop, (∃ m, W 0 m (upd H1 D (.lst []))) ∧ ∀ i m H, W i m H →
      ((Ite K a).stop i H ∧ Qd H) ∨ ((Ite K a).go i H ∧ ∃ Nx : Hp → Prop, (∀ H', Nx H' → ∃ m', m' < m ∧ W (i + 1) m' H') ∧ ∀ x H', (Ite K a).yld i H x H' → g x (wipe σ vs) H' fun σ2 H2 => wipe σ2 vs = wipe σ vs ∧ tt σ2 H2 fun b H3 =>
        if b = true then te σ2 H3 fun y H4 => ∃ acc, H4 D = some (.lst acc) ∧ acc.length < sizeLine ∧ Nx (upd H4 D (.lst (acc ++ [y]))) else Nx H3) := by
  refine ⟨fun i m H => m = xs.length - i ∧ i ≤ xs.length ∧ Pv i H, ⟨xs.length, by simp, Nat.zero_le _, h0⟩, ?_⟩
  rintro i m H ⟨rfl, hi, p⟩
  have q := hl i H hi p
  by_cases hlt : i < xs.length
  · refine .inr ⟨⟨xs, xs[i], q, by simp [hlt]⟩, Pv (i + 1), fun H' p' => ⟨xs.length - (i + 1), by omega, rfl, hlt, p'⟩, fun x H' y => ?_⟩
    obtain ⟨T, z, rfl, hT, rfl, hz⟩ := y
    exact hs i z T _ (hz xs q) hT p
  · have e : i = xs.length := by omega
    subst e
    exact .inl ⟨⟨xs, q, Nat.le_refl _⟩, hd H p⟩
theorem lc_enumT {K : PySem.W.Frag} {a : Addr} {xs : List V} {g : TG} {tt : TT} {te : TE} {vs : List Nat} {σ : L2.St} {H1 : Hp} {D : Addr} {Qd : Hp → Prop} (Pv : Nat → Hp → Prop) (h0 : Pv 0 (upd H1 D (.lst []))) (hl : ∀ i H, i ≤ xs.length → Pv i H → SqT K H a xs)
    (hs : ∀ i x T H, xs[i]? = some x → H T = none → Pv i H → g (.ref T) (wipe σ vs) (upd H T (.tup [.int (i : Nat), x])) fun σ2 H2 => wipe σ2 vs = wipe σ vs ∧ tt σ2 H2 fun b H3 =>
      if b = true then te σ2 H3 fun y H4 => ∃ acc, H4 D = some (.lst acc) ∧ acc.length < sizeLine ∧ Pv (i + 1) (upd H4 D (.lst (acc ++ [y]))) else Pv (i + 1) H3) (hd : ∀ H, Pv xs.length H → Qd H) :
    ∃ W : Nat → Nat → Hp → Prop, (∃ m, W 0 m (upd H1 D (.lst []))) ∧ ∀ i m H, W i m H →
      ((Itet K a).stop i H ∧ Qd H) ∨ ((Itet K a).go i H ∧ ∃ Nx : Hp → Prop, (∀ H', Nx H' → ∃ m', m' < m ∧ W (i + 1) m' H') ∧ ∀ x H', (Itet K a).yld i H x H' → g x (wipe σ vs) H' fun σ2 H2 => wipe σ2 vs = wipe σ vs ∧ tt σ2 H2 fun b H3 =>
        if b = true then te σ2 H3 fun y H4 => ∃ acc, H4 D = some (.lst acc) ∧ acc.length < sizeLine ∧ Nx (upd H4 D (.lst (acc ++ [y]))) else Nx H3) := by
  refine ⟨fun i m H => m = xs.length - i ∧ i ≤ xs.length ∧ Pv i H, ⟨xs.length, by simp, Nat.zero_le _, h0⟩, ?_⟩
  rintro i m H ⟨rfl, hi, p⟩
  have q := hl i H hi p
  by_cases hlt : i < xs.length
  · refine .inr ⟨⟨xs, xs[i], q, by simp [hlt]⟩, Pv (i + 1), fun H' p' => ⟨xs.length - (i + 1), by omega, rfl, hlt, p'⟩, fun x H' y => ?_⟩
    obtain ⟨T, z, rfl, hT, rfl, hz⟩ := y
    exact hs i z T _ (hz xs q) hT p
  · have e : i = xs.length := by omega
    subst e
    exact .inl ⟨⟨xs, q, rfl⟩, hd H p⟩
/-- the same where each element is a value that is known: new things may be made on the way -/
theorem lc_enumV {K : PySem.W.Frag} {a : Addr} {xs ys : List V} {g : TG} {tt : TT} {te : TE} {vs : List Nat} {σ : L2.St} {H : Hp} {D : Addr} {Qd : Hp → Prop} (hD : H D = none) (hS : SqL K H a xs) (hn : ys.length = xs.length) (hz : xs.length ≤ 1000000)
    (hs : ∀ (i : Nat) (x y : V) (T : Addr) (H' : Hp) (C : VK) (N : Hp → Prop), xs[i]? = some x → ys[i]? = some y → H' T = none → Same H H' → H' D ≠ none → (∀ H2, Same (upd H' T (.tup [.int (i : Nat), x])) H2 → C y H2) → g (.ref T) (wipe σ vs) (upd H' T (.tup [.int (i : Nat), x])) fun σ2 H2 => wipe σ2 vs = wipe σ vs ∧ tt σ2 H2 fun b H3 => if b = true then te σ2 H3 C else N H3)
    (hd : ∀ H', Same H H' → H' D = some (.lst ys) → Qd H') :
    ∃ W : Nat → Nat → Hp → Prop, (∃ m, W 0 m (upd H D (.lst []))) ∧ ∀ i m H, W i m H →
      ((Ite K a).stop i H ∧ Qd H) ∨ ((Ite K a).go i H ∧ ∃ Nx : Hp → Prop, (∀ H', Nx H' → ∃ m', m' < m ∧ W (i + 1) m' H') ∧ ∀ x H', (Ite K a).yld i H x H' → g x (wipe σ vs) H' fun σ2 H2 => wipe σ2 vs = wipe σ vs ∧ tt σ2 H2 fun b H3 =>
        if b = true then te σ2 H3 fun y H4 => ∃ acc, H4 D = some (.lst acc) ∧ acc.length < sizeLine ∧ Nx (upd H4 D (.lst (acc ++ [y]))) else Nx H3) := by
  refine lc_enum (K := K) (a := a) (xs := xs) (fun i H' => Same H H' ∧ H' D = some (.lst (ys.take i))) ⟨same_new hD, by rw [upd_same]; rfl⟩ (fun i H' _ p => p.1.seq hS) (fun i x T H' hx hT p => ?_) (fun H' p => ?_)
  · have hi : i < ys.length := by
      rw [hn]
      exact (List.getElem?_eq_some_iff.mp hx).1
    refine hs i x ys[i] T H' _ _ hx (List.getElem?_eq_getElem hi) hT p.1 (ne_none p.2) fun H2 s2 => ⟨_, s2 _ _ (same_new hT _ _ p.2), ?_, ?_, ?_⟩
    · rw [List.length_take]
      exact small1000000 (by omega)
    · exact same_put (p.1.trans ((same_new hT).trans s2)) hD
    · rw [upd_same, List.take_add_one, List.getElem?_eq_getElem hi]
      rfl
  · refine hd H' p.1 ?_
    have e := p.2
    rw [← hn, List.take_length] at e
    exact e
theorem lc_enumTV {K : PySem.W.Frag} {a : Addr} {xs ys : List V} {g : TG} {tt : TT} {te : TE} {vs : List Nat} {σ : L2.St} {H : Hp} {D : Addr} {Qd : Hp → Prop} (hD : H D = none) (hS : SqT K H a xs) (hn : ys.length = xs.length) (hz : xs.length ≤ 1000000)
    (hs : ∀ (i : Nat) (x y : V) (T : Addr) (H' : Hp) (C : VK) (N : Hp → Prop), xs[i]? = some x → ys[i]? = some y → H' T = none → Same H H' → H' D ≠ none → (∀ H2, Same (upd H' T (.tup [.int (i : Nat), x])) H2 → C y H2) → g (.ref T) (wipe σ vs) (upd H' T (.tup [.int (i : Nat), x])) fun σ2 H2 => wipe σ2 vs = wipe σ vs ∧ tt σ2 H2 fun b H3 => if b = true then te σ2 H3 C else N H3)
    (hd : ∀ H', Same H H' → H' D = some (.lst ys) → Qd H') :
    ∃ W : Nat → Nat → Hp → Prop, (∃ m, W 0 m (upd H D (.lst []))) ∧ ∀ i m H, W i m H →
      ((Itet K a).stop i H ∧ Qd H) ∨ ((Itet K a).go i H ∧ ∃ Nx : Hp → Prop, (∀ H', Nx H' → ∃ m', m' < m ∧ W (i + 1) m' H') ∧ ∀ x H', (Itet K a).yld i H x H' → g x (wipe σ vs) H' fun σ2 H2 => wipe σ2 vs = wipe σ vs ∧ tt σ2 H2 fun b H3 =>
        if b = true then te σ2 H3 fun y H4 => ∃ acc, H4 D = some (.lst acc) ∧ acc.length < sizeLine ∧ Nx (upd H4 D (.lst (acc ++ [y]))) else Nx H3) := by
  refine lc_enumT (K := K) (a := a) (xs := xs) (fun i H' => Same H H' ∧ H' D = some (.lst (ys.take i))) ⟨same_new hD, by rw [upd_same]; rfl⟩ (fun i H' _ p => same_sqt p.1 hS) (fun i x T H' hx hT p => ?_) (fun H' p => ?_)
  · have hi : i < ys.length := by
      rw [hn]
      exact (List.getElem?_eq_some_iff.mp hx).1
    refine hs i x ys[i] T H' _ _ hx (List.getElem?_eq_getElem hi) hT p.1 (ne_none p.2) fun H2 s2 => ⟨_, s2 _ _ (same_new hT _ _ p.2), ?_, ?_, ?_⟩
    · rw [List.length_take]
      exact small1000000 (by omega)
    · exact same_put (p.1.trans ((same_new hT).trans s2)) hD
    · rw [upd_same, List.take_add_one, List.getElem?_eq_getElem hi]
      rfl
  · refine hd H' p.1 ?_
    have e := p.2
    rw [← hn, List.take_length] at e
    exact e
/-- elements are data that are made on the way -/
theorem lc_enumD {K : PySem.W.Frag} {a : Addr} {xs : List V} {ys : List PyData} {g : TG} {tt : TT} {te : TE} {vs : List Nat} {σ : L2.St} {H : Hp} {D : Addr} {Qd : Hp → Prop} (M : Ms) (hM : Mk M H) (hD : H D = none) (hS : SqL K H a xs) (hn : ys.length = xs.length) (hz : xs.length ≤ 1000000)
    (hs : ∀ (i : Nat) (x : V) (y : PyData) (T : Addr) (H' : Hp) (C : VK) (N : Hp → Prop), xs[i]? = some x → ys[i]? = some y → H' T = none → Same H H' → Mk (also M D) (upd H' T (.tup [.int (i : Nat), x])) → (∀ v H2, Same (upd H' T (.tup [.int (i : Nat), x])) H2 → Rp (also M D) H2 v y → C v H2) → g (.ref T) (wipe σ vs) (upd H' T (.tup [.int (i : Nat), x])) fun σ2 H2 => wipe σ2 vs = wipe σ vs ∧ tt σ2 H2 fun b H3 => if b = true then te σ2 H3 C else N H3)
    (hd : ∀ H', Same H H' → Ld M H' D ys → Qd H') :
    ∃ W : Nat → Nat → Hp → Prop, (∃ m, W 0 m (upd H D (.lst []))) ∧ ∀ i m H, W i m H →
      ((Ite K a).stop i H ∧ Qd H) ∨ ((Ite K a).go i H ∧ ∃ Nx : Hp → Prop, (∀ H', Nx H' → ∃ m', m' < m ∧ W (i + 1) m' H') ∧ ∀ x H', (Ite K a).yld i H x H' → g x (wipe σ vs) H' fun σ2 H2 => wipe σ2 vs = wipe σ vs ∧ tt σ2 H2 fun b H3 =>
        if b = true then te σ2 H3 fun y H4 => ∃ acc, H4 D = some (.lst acc) ∧ acc.length < sizeLine ∧ Nx (upd H4 D (.lst (acc ++ [y]))) else Nx H3) := by
  refine lc_enum (K := K) (a := a) (xs := xs) (fun i H' => Same H H' ∧ ∃ acc, H' D = some (.lst acc) ∧ RpAll (also M D) H' acc (ys.take i)) ⟨same_new hD, [], upd_same, by rw [List.take_zero]; exact .nil⟩ (fun i H' _ p => p.1.seq hS) (fun i x T H' hx hT p => ?_) (fun H' p => ?_)
  · obtain ⟨s, acc, e, r⟩ := p
    have hi : i < ys.length := by
      rw [hn]
      exact (List.getElem?_eq_some_iff.mp hx).1
    have hl := r.length
    rw [List.length_take] at hl
    have s1 : Same H' (upd H' T (.tup [.int (i : Nat), x])) := same_new hT
    refine hs i x ys[i] T H' _ _ hx (List.getElem?_eq_getElem hi) hT s (((hM.gr (Gr.same s)).also (ne_none e)).gr (Gr.same s1)) fun v H2 s2 rv => ?_
    refine ⟨acc, s2 _ _ (s1 _ _ e), small1000000 (by omega), ?_, acc ++ [v], upd_same, ?_⟩
    · exact same_put (s.trans (s1.trans s2)) hD
    · rw [List.take_add_one, List.getElem?_eq_getElem hi]
      exact ((r.sx (Sx.same (s1.trans s2))).append (.one rv)).sx (Sx.put (.inr rfl))
  · obtain ⟨s, acc, e, r⟩ := p
    rw [← hn, List.take_length] at r
    exact hd H' s ⟨hM.out hD, acc, e, r.less also_le⟩
end D
namespace D
open PySem PySem.Spec PyProof.Rows L2
theorem mt_lcountK {K : PySem.W.Frag} {X : Cx} (hK : X.K = K) : MtR X "list.count" (rCntI K) := by subst hK; exact mt_lcount
end D
namespace D
open PySem PySem.Spec PyProof.Rows L2
section
variable {X : Cx} {K : PySem.W.Frag} {o e : Expr} {es : List Expr} {to : TE} {t : TA} {name : Str} {apos cpos : Pos} {T id : String} {r : V → List V → Hp → VK → Prop}
theorem pe_bm0K2 (hK : X.K = K) (pa : PlainAttrs T) (slot : Slot T name id) (hty : typeOf (.builtin id) = pure (.type "method_descriptor")) (hm : MtR X id r) (ho : PE X o to)
    (hbase : attributeBase o name X.env (eval o X.env) = eval o X.env := by rfl) (hline : (apos.endLine == cpos.line) = true := by rfl) : PE X (.Call (.Attribute o name apos) [] [] cpos) (tBM0 K T r to) := by
  subst hK
  exact pe_bm0 pa slot hty hm ho hbase hline
theorem pe_bmK2 (hK : X.K = K) (pa : PlainAttrs T) (slot : Slot T name id) (hty : typeOf (.builtin id) = pure (.type "method_descriptor")) (hm : MtR X id r) (ho : PE X o to) (ha : PA X (e :: es) t)
    (hbase : attributeBase o name X.env (eval o X.env) = eval o X.env := by rfl)
    (hfew : ((backTo cpos (starEach (e :: es) X.env)).all (fun x => !x.1) && (backToKw cpos (keywordEach [] X.env)).all (fun x => x.1.isSome)
      && decide ((e :: es).length + ([] : List Keyword).length + (if ([] : List Keyword).isEmpty then 0 else 1) < 30)) = true := by rfl)
    (hline : (apos.endLine == cpos.line) = true := by rfl) (hs : starEach (e :: es) X.env = (false, eval e X.env) :: starEach es X.env := by rfl) (hplain : (backTo cpos (starEach es X.env)).any (·.1) = false := by rfl) :
    PE X (.Call (.Attribute o name apos) (e :: es) [] cpos) (tBM K T r to t) := by
  subst hK
  exact pe_bm pa slot hty hm ho ha hbase hfew hline hs hplain
end
end D

namespace D
open PySem PySem.Spec PyProof.Rows L2
/-- comprehensions' loops, whatever their bodies -/
theorem rng_loop {n : Nat} {lo : Int} {Qd : Hp → Prop} {H0 : Hp} {B : V → Hp → (Hp → Prop) → Prop} (Pv : Nat → Hp → Prop) (h0 : Pv 0 H0) (hs : ∀ i H, i < n → Pv i H → B (.int (lo + (i : Nat))) H (Pv (i + 1))) (hd : ∀ H, Pv n H → Qd H) :
    ∃ W : Nat → Nat → Hp → Prop, (∃ m, W 0 m H0) ∧ ∀ i m H, W i m H → ((Itr lo n).stop i H ∧ Qd H) ∨ ((Itr lo n).go i H ∧ ∃ Nx : Hp → Prop, (∀ H', Nx H' → ∃ m', m' < m ∧ W (i + 1) m' H') ∧ ∀ x H', (Itr lo n).yld i H x H' → B x H' Nx) := by
  refine ⟨fun i m H => m = n - i ∧ i ≤ n ∧ Pv i H, ⟨_, rfl, Nat.zero_le _, h0⟩, ?_⟩
  rintro i m H ⟨rfl, hi, p⟩
  by_cases hlt : i < n
  · refine .inr ⟨hlt, Pv (i + 1), fun H' p' => ⟨n - (i + 1), by omega, rfl, hlt, p'⟩, fun x H' y => ?_⟩
    obtain ⟨rfl, rfl⟩ := y
    exact hs i _ hlt p
  · have e : i = n := by omega
    subst e
    exact .inl ⟨Nat.le_refl _, hd H p⟩
theorem list_loop {K : PySem.W.Frag} {a : Addr} {xs : List V} {Qd : Hp → Prop} {H0 : Hp} {B : V → Hp → (Hp → Prop) → Prop} (Pv : Nat → Hp → Prop) (h0 : Pv 0 H0) (hl : ∀ i H, i ≤ xs.length → Pv i H → SqL K H a xs) (hs : ∀ i x H, xs[i]? = some x → Pv i H → B x H (Pv (i + 1))) (hd : ∀ H, Pv xs.length H → Qd H) :
    ∃ W : Nat → Nat → Hp → Prop, (∃ m, W 0 m H0) ∧ ∀ i m H, W i m H → ((Itl K a).stop i H ∧ Qd H) ∨ ((Itl K a).go i H ∧ ∃ Nx : Hp → Prop, (∀ H', Nx H' → ∃ m', m' < m ∧ W (i + 1) m' H') ∧ ∀ x H', (Itl K a).yld i H x H' → B x H' Nx) := by
  refine ⟨fun i m H => m = xs.length - i ∧ i ≤ xs.length ∧ Pv i H, ⟨_, rfl, Nat.zero_le _, h0⟩, ?_⟩
  rintro i m H ⟨rfl, hi, p⟩
  have q := hl i H hi p
  by_cases hlt : i < xs.length
  · refine .inr ⟨⟨xs, xs[i], q, by simp [hlt]⟩, Pv (i + 1), fun H' p' => ⟨xs.length - (i + 1), by omega, rfl, hlt, p'⟩, fun x H' y => ?_⟩
    obtain ⟨e, y⟩ := y
    subst e
    exact hs i x _ (y xs q) p
  · have e : i = xs.length := by omega
    subst e
    exact .inl ⟨⟨xs, q, Nat.le_refl _⟩, hd H p⟩
theorem tup_loop {K : PySem.W.Frag} {a : Addr} {xs : List V} {Qd : Hp → Prop} {H0 : Hp} {B : V → Hp → (Hp → Prop) → Prop} (Pv : Nat → Hp → Prop) (h0 : Pv 0 H0) (hl : ∀ i H, i ≤ xs.length → Pv i H → SqT K H a xs) (hs : ∀ i x H, xs[i]? = some x → Pv i H → B x H (Pv (i + 1))) (hd : ∀ H, Pv xs.length H → Qd H) :
    ∃ W : Nat → Nat → Hp → Prop, (∃ m, W 0 m H0) ∧ ∀ i m H, W i m H → ((Itt K a).stop i H ∧ Qd H) ∨ ((Itt K a).go i H ∧ ∃ Nx : Hp → Prop, (∀ H', Nx H' → ∃ m', m' < m ∧ W (i + 1) m' H') ∧ ∀ x H', (Itt K a).yld i H x H' → B x H' Nx) := by
  refine ⟨fun i m H => m = xs.length - i ∧ i ≤ xs.length ∧ Pv i H, ⟨_, rfl, Nat.zero_le _, h0⟩, ?_⟩
  rintro i m H ⟨rfl, hi, p⟩
  have q := hl i H hi p
  by_cases hlt : i < xs.length
  · refine .inr ⟨⟨xs, xs[i], q, by simp [hlt]⟩, Pv (i + 1), fun H' p' => ⟨xs.length - (i + 1), by omega, rfl, hlt, p'⟩, fun x H' y => ?_⟩
    obtain ⟨e, y⟩ := y
    subst e
    exact hs i x _ (y xs q) p
  · have e : i = xs.length := by omega
    subst e
    exact .inl ⟨⟨xs, q, Nat.le_refl _⟩, hd H p⟩
/-- a dict made of pairs of whole numbers -/
def toldK (ps : List (Int × Int)) : List (Key × V) := ps.foldl (fun k p => putK k (.inl p.2) (.int p.1)) []
theorem putK_le (c : List (Key × V)) (k : Key) (x : V) : (putK c k x).length ≤ c.length + 1 := by
  unfold putK
  split
  · rw [List.length_map]; omega
  · rw [List.length_append]; exact Nat.le_refl _
theorem toldK_snoc (ps : List (Int × Int)) (p : Int × Int) : toldK (ps ++ [p]) = putK (toldK ps) (.inl p.2) (.int p.1) := by
  unfold toldK
  rw [List.foldl_append]
  rfl
theorem told_all (ps : List (Int × Int)) : ∀ qs : List (Int × Int), (∀ p ∈ qs, p ∈ ps) → ∀ s w, valV (toldK qs) (.inl s) = some w → ∃ v, w = .int v ∧ (v, s) ∈ ps := by
  suffices h : ∀ (qs : List (Int × Int)) (c : List (Key × V)), (∀ p ∈ qs, p ∈ ps) → (∀ s w, valV c (.inl s) = some w → ∃ v, w = .int v ∧ (v, s) ∈ ps) → ∀ s w, valV (qs.foldl (fun k p => putK k (.inl p.2) (.int p.1)) c) (.inl s) = some w → ∃ v, w = .int v ∧ (v, s) ∈ ps from fun qs hq => h qs [] hq (fun s w e => nomatch e)
  intro qs
  induction qs with
  | nil => intro c _ hc; exact hc
  | cons q r ih =>
    intro c hq hc
    refine ih _ (fun p hp => hq p (List.mem_cons_of_mem _ hp)) (fun s w e => ?_)
    rw [valV_put] at e
    split at e
    · rename_i e2
      cases e2
      cases e
      exact ⟨_, rfl, hq q List.mem_cons_self⟩
    · exact hc s w e
theorem told_mem : ∀ (qs : List (Int × Int)) (p : Int × Int), p ∈ qs → ∃ w, valV (toldK qs) (.inl p.2) = some w := by
  suffices h : ∀ (qs : List (Int × Int)) (c : List (Key × V)) (s : Int), ((∃ p ∈ qs, p.2 = s) ∨ ∃ w, valV c (.inl s) = some w) → ∃ w, valV (qs.foldl (fun k p => putK k (.inl p.2) (.int p.1)) c) (.inl s) = some w from fun qs p hp => h qs [] p.2 (.inl ⟨p, hp, rfl⟩)
  intro qs
  induction qs with
  | nil =>
    intro c s h
    rcases h with ⟨_, h, _⟩ | h
    · exact nomatch h
    · exact h
  | cons q r ih =>
    intro c s h
    refine ih _ s ?_
    rcases h with ⟨p, hp, e⟩ | ⟨w, e⟩
    · rcases List.mem_cons.mp hp with rfl | hp
      · exact .inr ⟨_, by rw [valV_put, if_pos (by rw [e])]⟩
      · exact .inl ⟨p, hp, e⟩
    · right
      rw [valV_put]
      split
      · exact ⟨_, rfl⟩
      · exact ⟨w, e⟩
/-- what such a dict tells of a pair -/
theorem told_get {ps : List (Int × Int)} {p : Int × Int} (h : p ∈ ps) : ∃ v, valV (toldK ps) (.inl p.2) = some (.int v) ∧ (v, p.2) ∈ ps := by
  obtain ⟨w, e⟩ := told_mem ps p h
  obtain ⟨v, rfl, hv⟩ := told_all ps ps (fun _ h => h) _ _ e
  exact ⟨v, e, hv⟩
end D

namespace D
open PySem PySem.Spec PyProof.Rows L2
/-! ### dict comprehensions whose keys are tuples (after the layer's own for ints and texts) -/
theorem d_dictSetT {X : Cx} {pins : List (Addr × Obj)} {σ : L2.St} {H : Hp} {s : Shared} {E : Value → Shared → Prop} {D : Addr} {kvs : List (List Key × V)} {k : List Key} {b : Addr} {v : V} {u r : Value} {Q : Unit → Shared → Prop} (hu : X.A.units + 1 < cLine) (I : Inv X pins σ H s) (hD : H D = some (.dT kvs)) (hz : kvs.length < sizeLine)
    (eb : H b = some (.tup (k.map kV))) (ry : RelV (.ref b) u) (rv : RelV v r) (h : ∀ s', Inv X pins σ (upd H D (.dT (putK kvs k v))) s' → Q () s') : wpAny (model X.prog X.w) X.A (dictSet D u r) Q E s := by
  cases (show u = Value.ref b from ry)
  obtain ⟨z, hd, xs, rel, dd⟩ := dt_of I.hok hD
  have hz' : xs.length ≤ sizeLine := by rw [← Paired.length rel]; exact z
  have hl : (putK kvs k v).length ≤ sizeLine := by have := length_putK kvs k v; omega
  refine wpAny_dictSet_heap (hsz := hz') (show (tupleKind (mixKind X.prog X.w)).room X.A from Nat.lt_of_succ_lt hu) (key_of I.hok eb) dd fun h' dd' hs => h _ ?_
  obtain ⟨q, es, ep, hq, h2, h3, h4, _, h5⟩ := dd'
  refine d_write I (by rw [hD]; exact True.intro) hs ⟨q, hq⟩ ⟨hl, hd, _, (rel.put k eb rv).keeps fun c ys ec => ?_, q, es, ep, hq, h2, h3, h4, h5⟩
  rw [upd_ne (ne_of ec hD (fun z => nomatch z))]
  exact ec
theorem key_rd {P : Program} {w : World} {H : Hp} {h : Heap} {a : Addr} {ks : List Key} (ok : HOk P w H h) (e : Rd H a (.tup (ks.map kV))) : (tupleKind (mixKind P w)).is h ks a := by
  obtain ⟨_, its, r, o, h1, h2, n, h3⟩ := (show ObjOk P w H h a (.tup (ks.map kV)) from rd_of ok e)
  exact ⟨o, its.toArray, n, h1, h2, h3, by simpa using items_are r⟩
section
variable {X : Cx}
/-- something holds of all contexts that a block may have -/
abbrev InBlk (X : Cx) (sc : Scope) (F : Cx → Prop) : Prop := ∀ (t : Shared) (G : Hp) (L : Addr) (cells : List (Str × Addr)) (feet : List Addr), F (X.blk t G sc (compEnvC sc cells L X.env) feet)
/-- what a comprehension does with a new dict at D: O what stands there, Put the storing of a pair -/
def tDcG (O : Addr → HO) (Put : Addr → (Hp → Prop) → V → V → Hp → Prop) (walk : TI) (g : TG) (tt : TT) (tk tv : TE) (own : List Nat) : TE := fun σ H Q => walk σ H fun J H1 => ∀ D, H1 D = none → ∃ W : Nat → Nat → Hp → Prop, (∃ m, W 0 m (upd H1 D (O D))) ∧ ∀ i m G, W i m G →
  (J.stop i G ∧ Q (.ref D) G) ∨ (J.go i G ∧ ∃ N : Hp → Prop, (∀ G', N G' → ∃ m', m' < m ∧ W (i + 1) m' G') ∧
    ∀ x G', J.yld i G x G' → g x (wipe σ own) G' fun σ2 G2 => wipe σ2 own = wipe σ own ∧ tt σ2 G2 fun b G3 => if b = true then tk σ2 G3 fun y G4 => tv σ2 G4 fun z G5 => Put D N y z G5 else N G3)
/-- the pair is put into the dict at D -/
def PutT (D : Addr) (N : Hp → Prop) (y z : V) (G : Hp) : Prop := ∃ kvs k b, y = .ref b ∧ G b = some (.tup (k.map kV)) ∧ G D = some (.dT kvs) ∧ kvs.length < sizeLine ∧ N (upd G D (.dT (putK kvs k z)))
/-- what a storing must be -/
def Stores (X : Cx) (Put : Addr → (Hp → Prop) → V → V → Hp → Prop) : Prop := ∀ (B : Cx) (pins : List (Addr × Obj)) (σ : L2.St) (G : Hp) (t : Shared) (D : Addr) (N : Hp → Prop) (y z : V) (u r : Value) (Q : Unit → Shared → Prop) (E : Value → Shared → Prop),
  B.prog = X.prog → B.w = X.w → B.A = X.A → B.K = X.K → Inv B pins σ G t → Put D N y z G → RelV y u → RelV z r → (∀ t' G', Inv B pins σ G' t' → N G' → Q () t') → wpAny (model B.prog B.w) B.A (dictSet D u r) Q E t
theorem pe_dcG {O : Addr → HO} {Put : Addr → (Hp → Prop) → V → V → Hp → Prop} {kx vx tgt it : Expr} {ifs : List Expr} {sc : Scope} {own : List (Str × Nat)} {pos : Pos} {walk : TI} {g : TG} {tt : TT} {tk tv : TE} (mk0 : ∀ (H : Hp) (h : Heap), sysModules < h.objs.size → ObjOk X.prog X.w H (h.push { cls := .type "dict", data := .dict #[] }) h.objs.size (O h.objs.size)) (store : Stores X Put) (calm : X.calm = true) (nod : X.N.Nodup)
    (pi : PI X tgt it walk) (bo : BlkOk X.N X.env.scope sc own) (pg : InBlk X sc fun B => PG B tgt g) (pt : InBlk X sc fun B => PTs B ifs tt) (pk : InBlk X sc fun B => PE B kx tk) (pv : InBlk X sc fun B => PE B vx tv)
    (plain : ∀ x, foldedSetIterable it X.env x = pure x := by intro _; rfl) : PE X (.DictComp kx vx [⟨tgt, it, ifs, 0⟩] sc pos) (tDcG O Put walk g tt tk tv (own.map (·.2))) := ⟨fun pins s σ H Q I h => by
  rw [arm_eval_DictComp]
  have free : ∀ y ∈ sc.names, y.2 = .free → ∃ c, X.env.cells.lookup y.1 = some c := fun y hy e => (bo.free y hy e).elim (fun k => I.ok.has _ (.inl k)) fun k => I.ok.has _ (.inr k)
  refine wpAny_comprehension_free (use := none) rfl plain (closure_ok free) bo.kind (fun y hy e => by rw [bo.uniq y hy, e]) ?_
  -- what is walked, then the empty dict
  refine thn (pi.run pins s σ H _ I h) fun xv s1 hx => thn hx ?_
  rintro itv s2 ⟨ad, feet, tn, J, H2, rfl, I2, T, at2, ft2, q⟩
  refine wpAny_newObj_type (newEnv_comp ?_)
  have fresh : H2 s2.heap.objs.size = none := I2.hok.fresh (Nat.le_refl _)
  obtain ⟨W, ⟨m0, w0⟩, turn⟩ := q _ fresh
  let s3 : Shared := { s2 with heap := s2.heap.push { cls := .type "dict", data := .dict #[] } }
  let D : Addr := s2.heap.objs.size
  let H3 : Hp := upd H2 D (O D)
  let L : Addr := s3.heap.objs.size
  let e3 : Env := compEnvC sc (cellsFrom (L + 1) sc.names (cloFrom X.env.cells sc.names [])) L X.env
  let s4 : Shared := { s3 with heap := pushCells (s3.heap.push { cls := .type "dict", data := .dict #[] }) sc.names }
  have I3 : Inv X pins σ H3 s3 := I2.laid (t' := s2.toks) (fun _ _ e => Heap.get?_push_of_some _ e) (Nat.le_refl _) (mk0 _ s2.heap I2.big)
  have grown : ∀ b o, s2.heap.get? b = some o → s3.heap.get? b = some o := fun _ _ e => Heap.get?_push_of_some _ e
  have low : ∀ b ∈ feet, b < s2.heap.objs.size := fun b hb => Heap.lt_size (T.obj _ _ at2 b hb).choose_spec.1
  have ft3 : ∀ b ∈ feet, FpOk X pins H3 b ∧ b < s3.heap.objs.size := fun b hb => ⟨⟨(upd_ne (Nat.ne_of_lt (low b hb))).trans (ft2 b hb).1, (ft2 b hb).2⟩, by show b < (s2.heap.push _).objs.size; rw [Heap.size_push]; exact Nat.lt_succ_of_lt (low b hb)⟩
  have at3 : tn 0 s3.heap := T.keep _ _ _ at2 fun b _ o e => grown b o e
  have I4 : Inv (X.blk s3 H3 sc e3 feet) [] (wipe σ (own.map (·.2))) H3 s4 := block_start I3 bo nod ft3
  have at4 : tn 0 s4.heap := T.keep _ _ _ at3 fun b _ o e => pushCells_keeps _ _ _ _ (Heap.get?_push_of_some _ e)
  -- the walker's own objects in the block's context
  have foot : ∀ {σ' : L2.St} {G : Hp} {t : Shared}, Inv (X.blk s3 H3 sc e3 feet) [] σ' G t → (∀ b ∈ feet, G b = none) → ∀ b ∈ feet, FpOk (X.blk s3 H3 sc e3 feet) [] G b := by
    intro σ' G t J' none b hb
    refine ⟨none b hb, (J'.ok.exf b hb).1, J'.ok.exfs b hb, .inl hb, fun x c e => (J'.ok.exf b hb).2 x c e, ?_⟩
    intro p hp
    exact nomatch (show p ∈ ([] : List (Addr × Obj)) from by simpa using hp)
  have loop : codeAny (model X.prog X.w) X.A (.compLoop (.DictComp kx vx [⟨tgt, it, ifs, 0⟩] sc pos) 0 (.ref ad) (.ref D) e3) (compPost (model X.prog X.w) X.A X.xe none (fun v t => ∃ x G, Inv X pins σ G t ∧ RelV x v ∧ Q x G) (.ref D) L) s4 := by
    refine compLoop_anyD (fun n t => ∃ i G, Inv (X.blk s3 H3 sc e3 feet) [] (wipe σ (own.map (·.2))) G t ∧ tn i t.heap ∧ (∀ b ∈ feet, G b = none) ∧ W i n G) ?_ m0 ⟨0, H3, I4, at4, fun b hb => (ft3 b hb).1.1, w0⟩
    rintro n t ⟨i, G, IG, atG, nG, wG⟩
    obtain ⟨stop, fin⟩ | ⟨go, N, less, step⟩ := turn i n G wG
    · refine thnF (T.done (X.blk s3 H3 sc e3 feet) rfl rfl rfl calm i [] t _ G (fun _ _ => False) IG (foot IG nG) atG stop) ?_
      rintro r t6 ⟨rfl, I6⟩
      have I7 : Inv X pins σ G t6 := I3.call' (ch := feet) I6.os I6.base I6.hok I6.bare fun b hb => let z := (ft3 b hb).1.2; ⟨z.2.2.1, z.1, z.2.2.2.1, z.2.2.2.2⟩
      obtain ⟨m, names, _⟩ := I6.loc
      obtain ⟨a0, a1, a2, a3, a4, a5⟩ := I3.fpOk (Nat.le_refl _) (show G L = none from I6.free)
      exact ⟨m, names, fun h'' kept => ⟨.ref D, G, I7.turned (t' := t6.toks) (fun b o hb e => (kept.2 b hb).trans e) a0 a1 a3 a4 a5, rfl, fin⟩⟩
    · refine thnF (T.item (X.blk s3 H3 sc e3 feet) rfl rfl rfl calm i [] t _ G (fun _ _ => False) IG (foot IG nG) atG go) ?_
      rintro r t6 ⟨u, rfl, h6⟩
      refine thnF h6 ?_
      rintro _ t7 ⟨x, G7, I7, r7, y7, at7, n7⟩
      refine thnF ((pg _ _ _ _ _).run _ t7 _ G7 x u _ (I7.pinned (foot I7 n7) (T.obj _ _ at7)) r7 (step x G7 y7)) ?_
      rintro _ t8 ⟨σ8, G8, I8, wp8, q8⟩
      refine thnF ((pt _ _ _ _ _).run _ t8 σ8 G8 _ I8 q8) ?_
      rintro b t9 ⟨G9, I9, q9⟩
      have back : ∀ {t' : Shared} {G' : Hp}, Inv (X.blk s3 H3 sc e3 feet) ([] ++ pinsAt feet t7.heap) σ8 G' t' → N G' → ∃ m, m < n ∧ ∃ i G, Inv (X.blk s3 H3 sc e3 feet) [] (wipe σ (own.map (·.2))) G t' ∧ tn i t'.heap ∧ (∀ b ∈ feet, G b = none) ∧ W i m G := by
        intro t' G' I' nx
        obtain ⟨m', lt, w'⟩ := less G' nx
        have held : ∀ b ∈ feet, ∀ o, t7.heap.get? b = some o → t'.heap.get? b = some o ∧ G' b = none := fun b hb o e => let z := I'.pin (b, o) (List.mem_append_right _ (List.mem_append_right _ (mem_pinsAt hb e))); ⟨z.1, z.2.1⟩
        refine ⟨m', lt, i + 1, G', I'.unpinned.weak (by rw [← wp8, wipe_length]) fun j v e => ?_, T.keep _ _ _ at7 fun b hb o e => (held b hb o e).1, fun b hb => ?_, w'⟩
        · exact (wipe_some (wp8 ▸ e)).1
        · obtain ⟨o, e, _⟩ := T.obj _ _ at7 b hb
          exact (held b hb o e).2
      by_cases yes : b = true
      · subst yes
        refine thnF ((pk _ _ _ _ _).run _ t9 σ8 G9 _ I9 q9) ?_
        rintro ku t10 ⟨ky, G10, I10, r10, q10⟩
        refine thnF ((pv _ _ _ _ _).run _ t10 σ8 G10 _ I10 q10) ?_
        rintro vu t11 ⟨vy, G11, I11, r11, putting⟩
        exact store (X.blk s3 H3 sc e3 feet) _ _ _ _ _ _ _ _ _ _ _ _ rfl rfl rfl rfl I11 putting r10 r11 fun t12 G12 I12 nx => back I12 nx
      · have no : b = false := by cases b with | true => exact absurd rfl yes | false => rfl
        subst no
        exact back I9 q9
  exact codeAny_compStart_dict loop (T.self X.A 0 _ _ _ at4 loop)⟩
/-- keys that are tuples of ints and texts -/
abbrev tDcT (walk : TI) (g : TG) (tt : TT) (tk tv : TE) (own : List Nat) : TE := tDcG (fun _ => .dT []) PutT walk g tt tk tv own
theorem stores_T (hu : X.A.units + 1 < cLine) : Stores X PutT := by
  rintro B pins σ G t D N y z u r Q E e1 e2 e3 e4 I ⟨kvs, k, kb, rfl, tup, dict, room, nx⟩ ry rz h
  exact d_dictSetT (by rw [e3]; exact hu) I dict room tup ry rz fun t' I' => h t' _ I' nx
theorem pe_dcT {kx vx tgt it : Expr} {ifs : List Expr} {sc : Scope} {own : List (Str × Nat)} {pos : Pos} {walk : TI} {g : TG} {tt : TT} {tk tv : TE} (hu : X.A.units + 1 < cLine) (calm : X.calm = true) (nod : X.N.Nodup)
    (pi : PI X tgt it walk) (bo : BlkOk X.N X.env.scope sc own) (pg : InBlk X sc fun B => PG B tgt g) (pt : InBlk X sc fun B => PTs B ifs tt) (pk : InBlk X sc fun B => PE B kx tk) (pv : InBlk X sc fun B => PE B vx tv)
    (plain : ∀ x, foldedSetIterable it X.env x = pure x := by intro _; rfl) : PE X (.DictComp kx vx [⟨tgt, it, ifs, 0⟩] sc pos) (tDcT walk g tt tk tv (own.map (·.2))) :=
  pe_dcG (fun _ h b => dt_empty h b) (stores_T hu) calm nod pi bo pg pt pk pv plain
/-! ### dicts whose keys are tuples that may be known to their objects -/
/-- the dict at a: kvs its pairs, ks its keys with the tuples that stand for them -/
def KX (kvs : List (List Key × V)) (ks : List (List Key × Addr)) (xs : List (List Key × Addr × Value)) : Prop := Paired (fun (p : List Key × V) (q : List Key × Addr × Value) => p.1 = q.1 ∧ RelV p.2 q.2.2) kvs xs ∧ xs.map (fun q => (q.1, q.2.1)) = ks
def dXo (P : Program) (w : World) (a : Addr) (kvs : List (List Key × V)) (ks : List (List Key × Addr)) : HO := .ext fun h => kvs.length ≤ sizeLine ∧ (a == sysModules) = false ∧ ∃ xs, KX kvs ks xs ∧ (∃ o es ep, h.get? a = some o ∧ o.ExactDict ∧ o.data = .dict es ep ∧ es.toList = xs.map (entryOfKey (tupleKind (mixKind P w)))) ∧ (xs.map (·.1)).Nodup
theorem dXo_ok {P : Program} {w : World} {H : Hp} {h : Heap} {a : Addr} {kvs : List (List Key × V)} {ks : List (List Key × Addr)} {xs : List (List Key × Addr × Value)} {o : Obj} {es : Array DictEntry} {ep : Nat} (l : kvs.length ≤ sizeLine) (n : (a == sysModules) = false) (r : KX kvs ks xs) (g : h.get? a = some o) (x : o.ExactDict) (d : o.data = .dict es ep)
    (e : es.toList = xs.map (entryOfKey (tupleKind (mixKind P w)))) (nd : (xs.map (·.1)).Nodup) : ObjOk P w H h a (dXo P w a kvs ks) := by
  refine ⟨⟨l, n, xs, r, ⟨o, es, ep, g, x, d, e⟩, nd⟩, ⟨o, g⟩, ?_⟩
  rintro h1 h2 ⟨l1, n1, xs1, r1, ⟨o1, es1, ep1, g1, x1, d1, e1⟩, nd1⟩ same
  exact ⟨l1, n1, xs1, r1, ⟨o1, es1, ep1, same o1 g1, x1, d1, e1⟩, nd1⟩
/-- the tuples stand -/
def KsAt (H : Hp) (ks : List (List Key × Addr)) : Prop := ∀ p ∈ ks, Rd H p.2 (.tup (p.1.map kV))
theorem dXo_at {P : Program} {w : World} {H : Hp} {h : Heap} {a : Addr} {kvs : List (List Key × V)} {ks : List (List Key × Addr)} (ok : HOk P w H h) (e : H a = some (dXo P w a kvs ks)) (t : KsAt H ks) :
    kvs.length ≤ sizeLine ∧ (a == sysModules) = false ∧ ∃ xs, KX kvs ks xs ∧ h.DictOfH (tupleKind (mixKind P w)) a xs := by
  obtain ⟨⟨l, n, xs, r, ⟨o, es, ep, g, x, d, e1⟩, nd⟩, _⟩ := ok a _ e
  refine ⟨l, n, xs, r, o, es, ep, g, x, d, e1, fun q hq => ?_, nd⟩
  have hk : (q.1, q.2.1) ∈ ks := by rw [← r.2]; exact List.mem_map.mpr ⟨q, hq, rfl⟩
  exact key_rd ok (t _ hk)
theorem paired_keys {F : (List Key × V) → (List Key × Addr × Value) → Prop} (hF : ∀ p q, F p q → p.1 = q.1) : ∀ {kvs : List (List Key × V)} {xs : List (List Key × Addr × Value)}, Paired F kvs xs → kvs.map (·.1) = xs.map (·.1) := by
  intro kvs xs r
  induction r with
  | nil => rfl
  | cons h t ih => rw [List.map_cons, List.map_cons, ih, hF _ _ h]
theorem kx_val {kvs : List (List Key × V)} {ks : List (List Key × Addr)} {xs : List (List Key × Addr × Value)} (r : KX kvs ks xs) (k : List Key) : RelO (valV kvs k) ((atKey xs k).map (·.2)) := by
  replace r := r.1
  induction r with
  | nil => exact True.intro
  | @cons p q ps qs h t ih =>
    by_cases c : p.1 = k
    · have c' : q.1 = k := h.1.symm.trans c
      rw [valV_pos c, show atKey (q :: qs) k = some q.2 by simp [atKey, List.find?_cons, c']]
      exact h.2
    · have c' : ¬ q.1 = k := fun z => c (h.1.trans z)
      rw [valV_neg c, show atKey (q :: qs) k = atKey qs k by simp [atKey, List.find?_cons, c']]
      exact ih
/-- the keys behind a storing -/
def ksPut (kvs : List (List Key × V)) (ks : List (List Key × Addr)) (k : List Key) (b : Addr) : List (List Key × Addr) := if (valV kvs k).isSome = true then ks else ks ++ [(k, b)]
theorem kx_put {kvs : List (List Key × V)} {ks : List (List Key × Addr)} {xs : List (List Key × Addr × Value)} (r : KX kvs ks xs) (k : List Key) (b : Addr) {y : V} {u : Value} (ry : RelV y u) : KX (putK kvs k y) (ksPut kvs ks k b) (storedH xs k b u) := by
  have e : (valV kvs k).isSome = (atKey xs k).isSome := by rw [(kx_val r k).isSome_eq, Option.isSome_map]
  obtain ⟨r, rk⟩ := r
  unfold putK storedH ksPut
  rw [valV_any, e]
  by_cases c : (atKey xs k).isSome = true
  · rw [if_pos c, if_pos c, if_pos c]
    refine ⟨?_, ?_⟩
    · clear rk e c
      induction r with
      | nil => exact .nil
      | @cons p q ps qs h t ih =>
        refine .cons ?_ ih
        show (if p.1 = k then (p.1, y) else p).1 = (putAt k u q).1 ∧ RelV (if p.1 = k then (p.1, y) else p).2 (putAt k u q).2.2
        unfold putAt
        by_cases d : p.1 = k
        · rw [if_pos d, if_pos (h.1.symm.trans d)]
          exact ⟨h.1, ry⟩
        · rw [if_neg d, if_neg (fun z => d (h.1.trans z))]
          exact h
    · rw [← rk, List.map_map]
      refine List.map_congr_left fun q _ => ?_
      show ((putAt k u q).1, (putAt k u q).2.1) = _
      unfold putAt
      split <;> rfl
  · rw [if_neg c, if_neg c, if_neg c]
    exact ⟨Paired.snoc r ⟨rfl, ry⟩, by rw [List.map_append, rk]; rfl⟩
def PutX (P : Program) (w : World) (D : Addr) (N : Hp → Prop) (y z : V) (G : Hp) : Prop := ∃ kvs ks k b, y = .ref b ∧ Rd G b (.tup (k.map kV)) ∧ G D = some (dXo P w D kvs ks) ∧ KsAt G ks ∧ kvs.length < sizeLine ∧ N (upd G D (dXo P w D (putK kvs k z) (ksPut kvs ks k b)))
theorem stores_X (hu : X.A.units + 1 < cLine) : Stores X (PutX X.prog X.w) := by
  rintro B pins σ G t D N y z u r Q E e1 e2 e3 e4 I ⟨kvs, ks, k, kb, rfl, tup, dict, kat, room, nx⟩ ry rz h
  cases (show u = Value.ref kb from ry)
  rw [← e1, ← e2] at dict nx
  obtain ⟨l, n, xs, rel, dd⟩ := dXo_at I.hok dict kat
  have lx : xs.length = kvs.length := (Paired.length rel.1).symm
  refine wpAny_dictSet_heap (hsz := by omega) (show (tupleKind (mixKind B.prog B.w)).room B.A from by rw [e3]; exact Nat.lt_of_succ_lt hu) (key_rd I.hok tup) dd fun h' dd' same => h _ _ ?_ nx
  obtain ⟨o, es, ep, g, x, d, e5, _, nd⟩ := dd'
  exact d_write I (by rw [dict]; exact True.intro) same ⟨o, g⟩ (dXo_ok (Nat.le_trans (length_putK kvs k z) room) n (kx_put rel k kb rz) g x d e5 nd)
theorem dXo_empty {P : Program} {w : World} (H : Hp) (h : Heap) (b : sysModules < h.objs.size) : ObjOk P w H (h.push { cls := .type "dict", data := .dict #[] }) h.objs.size (dXo P w h.objs.size [] []) :=
  dXo_ok (xs := []) (Nat.zero_le _) (beq_eq_false_iff_ne.mpr (Ne.symm (Nat.ne_of_lt b))) ⟨.nil, rfl⟩ (Heap.get?_push_size _ rfl) ⟨rfl, rfl, rfl⟩ rfl rfl List.nodup_nil
abbrev tDcX (P : Program) (w : World) (walk : TI) (g : TG) (tt : TT) (tk tv : TE) (own : List Nat) : TE := tDcG (fun D => dXo P w D [] []) (PutX P w) walk g tt tk tv own
theorem pe_dcX {P : Program} {w : World} (hP : X.prog = P) (hw : X.w = w) {kx vx tgt it : Expr} {ifs : List Expr} {sc : Scope} {own : List (Str × Nat)} {pos : Pos} {walk : TI} {g : TG} {tt : TT} {tk tv : TE} (hu : X.A.units + 1 < cLine) (calm : X.calm = true) (nod : X.N.Nodup)
    (pi : PI X tgt it walk) (bo : BlkOk X.N X.env.scope sc own) (pg : InBlk X sc fun B => PG B tgt g) (pt : InBlk X sc fun B => PTs B ifs tt) (pk : InBlk X sc fun B => PE B kx tk) (pv : InBlk X sc fun B => PE B vx tv)
    (plain : ∀ x, foldedSetIterable it X.env x = pure x := by intro _; rfl) : PE X (.DictComp kx vx [⟨tgt, it, ifs, 0⟩] sc pos) (tDcX P w walk g tt tk tv (own.map (·.2))) := by
  subst hP hw
  exact pe_dcG (fun H h b => dXo_empty H h b) (stores_X hu) calm nod pi bo pg pt pk pv plain
/-- d[k] of such a dict -/
def tXGet (P : Program) (w : World) (td ty : TE) : TE := fun σ H Q => td σ H fun x H1 => ty σ H1 fun y H2 => ∃ a kvs ks k b v, x = .ref a ∧ y = .ref b ∧ H2 a = some (dXo P w a kvs ks) ∧ KsAt H2 ks ∧ Rd H2 b (.tup (k.map kV)) ∧ valV kvs k = some v ∧ Q v H2
theorem pe_xget {P : Program} {w : World} (hP : X.prog = P) (hw : X.w = w) (hu : X.A.units + 1 < cLine) {o i : Expr} {td ty : TE} {pos : Pos} (ho : PE X o td) (hi : PE X i ty) (hs : NoSl i) : PE X (.Subscript o i pos) (tXGet P w td ty) := by
  subst hP hw
  refine ⟨fun pins s σ H Q I h => ?_⟩
  refine subD_of PySem.F.slot_dict_getitem.lookup hs (thn (ho.run pins s σ H _ I h) fun ov s1 ⟨x, H1, I1, rx, q1⟩ => thn (hi.run pins s1 σ H1 _ I1 q1) ?_)
  rintro iv s2 ⟨y, H2, I2, ry, a, kvs, ks, k, b, v, rfl, rfl, dict, kat, tup, has, q2⟩
  obtain rfl : ov = Value.ref a := rx
  cases (show iv = Value.ref b from ry)
  obtain ⟨l, n, xs, rel, dd⟩ := dXo_at I2.hok dict kat
  have rv := kx_val rel k
  rw [has] at rv
  obtain ⟨u, hp, ru⟩ := RelO.some_of rv
  obtain ⟨p, hp', rfl⟩ := Option.map_eq_some_iff.mp hp
  refine ⟨?_, wpAny_getItem_heap (tupleKind_room_in1 hu) (key_rd I2.hok tup) dd hp' ?_⟩
  · obtain ⟨o', es, ep, g, x, _⟩ := dd
    exact ⟨o', g, x.1⟩
  · exact ⟨v, H2, I2.tok _, ru, q2⟩
/-- deep membership, in lists and in tuples -/
def rInDT (K : PySem.W.Frag) : R2 := fun x y H Q => ∃ d ds, Dp K H x d ∧ Dp K H y (.tuple ds) ∧ SeqAt.shaped d = true ∧ SeqAt.shaped (.tuple ds) = true ∧ Q (.bl (ds.any fun z => PyData.eqv z d)) H
def rNotInDT (K : PySem.W.Frag) : R2 := fun x y H Q => ∃ d ds, Dp K H x d ∧ Dp K H y (.tuple ds) ∧ SeqAt.shaped d = true ∧ SeqAt.shaped (.tuple ds) = true ∧ Q (.bl (!ds.any fun z => PyData.eqv z d)) H
theorem op_inDT {K : PySem.W.Frag} (hK : X.K = K) (hu : X.A.units + 65 < cLine) : OpR X (compareOp .In) (rInDT K) := by
  subst hK
  intro pins s σ H x y v u Q I rx ry h
  obtain ⟨d, ds, hd, he, sd, se, q⟩ := h
  obtain ⟨as, r1⟩ := Dp.reads I d x v hd rx
  obtain ⟨bs, r2⟩ := Dp.reads I (.tuple ds) y u he ry
  exact SeqAt.in_tuple_reads r2 r1 (SeqAt.canLay_of_shaped se) (SeqAt.canLay_of_shaped sd) (room_in_shaped sd hu) ⟨.bl _, H, I, rfl, q⟩
theorem op_notInDT {K : PySem.W.Frag} (hK : X.K = K) (hu : X.A.units + 65 < cLine) : OpR X (compareOp .NotIn) (rNotInDT K) := by
  subst hK
  intro pins s σ H x y v u Q I rx ry h
  obtain ⟨d, ds, hd, he, sd, se, q⟩ := h
  obtain ⟨as, r1⟩ := Dp.reads I d x v hd rx
  obtain ⟨bs, r2⟩ := Dp.reads I (.tuple ds) y u he ry
  exact SeqAt.notIn_tuple_reads r2 r1 (SeqAt.canLay_of_shaped se) (SeqAt.canLay_of_shaped sd) (room_in_shaped sd hu) ⟨.bl _, H, I, rfl, q⟩
theorem op_inDK {K : PySem.W.Frag} (hK : X.K = K) (hu : X.A.units + 65 < cLine) : OpR X (compareOp .In) (rInD K) := by subst hK; exact op_inD hu
theorem op_notInDK {K : PySem.W.Frag} (hK : X.K = K) (hu : X.A.units + 65 < cLine) : OpR X (compareOp .NotIn) (rNotInD K) := by subst hK; exact op_notInD hu
/-- t.index(n), the first place, of a tuple of ints -/
def rTIdx (K : PySem.W.Frag) : V → List V → Hp → VK → Prop := fun x xs H Q => ∃ p, ∃ ys : List Int, ∃ z j, x = .ref p ∧ xs = [.int z] ∧ SqT K H p (ys.map V.int) ∧ ys[j]? = some z ∧ (∀ m, m < j → ys[m]? ≠ some z) ∧ Q (.int (j : Nat)) H
theorem flat_ints (ys : List Int) : (ys.map V.int).all flatV = true := by induction ys <;> simp_all [flatV]
theorem mt_tup_indexI {K : PySem.W.Frag} (hK : X.K = K) : MtR X "tuple.index" (rTIdx K) := by
  subst hK
  rintro pins s σ H _ _ v us Q I rx rs ⟨p, ys, z, j, rfl, rfl, reads, found, first, q⟩
  cases rx
  obtain ⟨_, rfl, tk, rfl⟩ := vals1 rs
  obtain ⟨its, vals, ⟨⟨_, dd, _, sl⟩, stands, rfl, n, rfl⟩, _⟩ := I.tuple reads
  have size : its.length = ys.length := by simpa using vals.length.symm
  have item : ∀ m : Nat, m < ys.length → ∃ t', its[m]? = some (Value.int (ys.getD m 0) t') := by
    intro m hm
    obtain ⟨w, hw, t', rfl⟩ := vals.get (i := m) (x := V.int (ys.getD m 0)) (by simp [hm])
    exact ⟨t', hw⟩
  have eqs : ∀ (m : Nat) (hm : m < its.toArray.size), eqU (V.int z) its.toArray[m] = decide (ys.getD m 0 = z) := by
    intro m hm
    obtain ⟨t', e⟩ := item m (by simpa [size] using hm)
    have e' : its.toArray[m] = Value.int (ys.getD m 0) t' := by
      have := (List.getElem?_eq_some_iff.mp e).2
      simpa using this
    rw [e']
    rfl
  have inside := (List.getElem?_eq_some_iff.mp found).1
  have jz : ys.getD j 0 = z := by rw [List.getD_eq_getElem?_getD, found]; rfl
  have answer := TI.tuple_indexAt p its.toArray n dd sl (.int z tk) (eqU (.int z)) j (by simpa [size] using inside) (by rw [eqs, jz]; exact decide_eq_true rfl) (fun m hm lt => by
    rw [eqs]
    refine decide_eq_false fun e => first m lt ?_
    have inm : m < ys.length := by simpa [size] using hm
    rw [List.getElem?_eq_getElem inm, ← e, List.getD_eq_getElem?_getD, List.getElem?_eq_getElem inm]
    rfl)
  exact call_meets PySem.F.slot_tuple_index ⟨_, stands, rfl⟩ PySem.F.entry_tuple_index (PySem.F.args_tuple_index_2 _ _) answer
    ⟨stands, fun w hw => mem_eqAt (x := .int z) ⟨tk, rfl⟩ rfl vals (flat_ints ys) w (by simpa using hw), ⟨.int (j : Nat), H, I.tok _, ⟨_, rfl⟩, q⟩⟩
end
/-! ### loops over enumerate and zip, whatever their bodies -/
theorem enumL_loop {K : PySem.W.Frag} {a : Addr} {xs : List V} {Qd : Hp → Prop} {H0 : Hp} {B : V → Hp → (Hp → Prop) → Prop} (Pv : Nat → Hp → Prop) (h0 : Pv 0 H0) (hl : ∀ i H, i ≤ xs.length → Pv i H → SqL K H a xs) (hs : ∀ i x T H, xs[i]? = some x → H T = none → Pv i H → B (.ref T) (upd H T (.tup [.int (i : Nat), x])) (Pv (i + 1))) (hd : ∀ H, Pv xs.length H → Qd H) :
    ∃ W : Nat → Nat → Hp → Prop, (∃ m, W 0 m H0) ∧ ∀ i m H, W i m H → ((Ite K a).stop i H ∧ Qd H) ∨ ((Ite K a).go i H ∧ ∃ Nx : Hp → Prop, (∀ H', Nx H' → ∃ m', m' < m ∧ W (i + 1) m' H') ∧ ∀ x H', (Ite K a).yld i H x H' → B x H' Nx) := by
  refine ⟨fun i m H => m = xs.length - i ∧ i ≤ xs.length ∧ Pv i H, ⟨_, rfl, Nat.zero_le _, h0⟩, ?_⟩
  rintro i m H ⟨rfl, hi, p⟩
  have q := hl i H hi p
  by_cases hlt : i < xs.length
  · refine .inr ⟨⟨xs, xs[i], q, by simp [hlt]⟩, Pv (i + 1), fun H' p' => ⟨xs.length - (i + 1), by omega, rfl, hlt, p'⟩, fun x H' y => ?_⟩
    obtain ⟨T, z, rfl, hT, rfl, hz⟩ := y
    exact hs i z T _ (hz xs q) hT p
  · have e : i = xs.length := by omega
    subst e
    exact .inl ⟨⟨xs, q, Nat.le_refl _⟩, hd H p⟩
theorem enumT_loop {K : PySem.W.Frag} {a : Addr} {xs : List V} {Qd : Hp → Prop} {H0 : Hp} {B : V → Hp → (Hp → Prop) → Prop} (Pv : Nat → Hp → Prop) (h0 : Pv 0 H0) (hl : ∀ i H, i ≤ xs.length → Pv i H → SqT K H a xs) (hs : ∀ i x T H, xs[i]? = some x → H T = none → Pv i H → B (.ref T) (upd H T (.tup [.int (i : Nat), x])) (Pv (i + 1))) (hd : ∀ H, Pv xs.length H → Qd H) :
    ∃ W : Nat → Nat → Hp → Prop, (∃ m, W 0 m H0) ∧ ∀ i m H, W i m H → ((Itet K a).stop i H ∧ Qd H) ∨ ((Itet K a).go i H ∧ ∃ Nx : Hp → Prop, (∀ H', Nx H' → ∃ m', m' < m ∧ W (i + 1) m' H') ∧ ∀ x H', (Itet K a).yld i H x H' → B x H' Nx) := by
  refine ⟨fun i m H => m = xs.length - i ∧ i ≤ xs.length ∧ Pv i H, ⟨_, rfl, Nat.zero_le _, h0⟩, ?_⟩
  rintro i m H ⟨rfl, hi, p⟩
  have q := hl i H hi p
  by_cases hlt : i < xs.length
  · refine .inr ⟨⟨xs, xs[i], q, by simp [hlt]⟩, Pv (i + 1), fun H' p' => ⟨xs.length - (i + 1), by omega, rfl, hlt, p'⟩, fun x H' y => ?_⟩
    obtain ⟨T, z, rfl, hT, rfl, hz⟩ := y
    exact hs i z T _ (hz xs q) hT p
  · have e : i = xs.length := by omega
    subst e
    exact .inl ⟨⟨xs, q, rfl⟩, hd H p⟩
end D
namespace D
open PySem PySem.Spec PyProof.Rows L2
section
variable {X : Cx}
/-- tuple(list): the new object is known to have no dict -/
def rTupF (K : PySem.W.Frag) : List V → Hp → VK → Prop := fun xs H Q => ∃ p ys, xs = [.ref p] ∧ SqL K H p ys ∧ ∀ l o, H l = none → o.cls = .type "tuple" → o.dict = none → Q (.ref l) (upd H l (.frz o (.tup ys)))
theorem call_tupleF {K : PySem.W.Frag} (hK : X.K = K) : CallR X (.type "tuple") (rTupF K) := by
  subst hK
  intro pins s σ H xs us Q I r h
  obtain ⟨p, ys, rfl, hq, q⟩ := h
  obtain ⟨u, rfl, rx⟩ := vals1 r
  cases rx
  obtain ⟨its, r', pl, hz⟩ := I.list hq
  have hlen := r'.length
  refine call_tuple_list pl.isList (fun h' kp => ?_) (by simp only [List.size_toArray] <;> omega)
  have I1 : Inv X pins σ H { s with heap := h' } := I.kept (t' := s.toks) kp
  have I2 : Inv X pins σ (upd H h'.objs.size (.frz { cls := .type "tuple", data := .seq its.toArray } (.tup ys))) { s with heap := h'.push { cls := .type "tuple", data := .seq its.toArray } } :=
    I1.laid (t' := s.toks) (fun b o e => Heap.get?_push_of_some _ e) (Nat.le_refl _) (show ObjOk X.prog X.w _ _ _ (.frz _ (.tup ys)) from ⟨Heap.get?_push_size _ rfl, hz, its, r', IsTup.new _ _⟩)
  exact ⟨.ref h'.objs.size, _, I2, rfl, q _ _ (I1.hok.fresh (Nat.le_refl _)) rfl rfl⟩
/-- t[lo:hi], the cut known to its object -/
def rSlF (K : PySem.W.Frag) : V → Option Int → Option Int → Hp → VK → Prop := fun x lo hi H Q => ∃ a xs, x = .ref a ∧ SqT K H a xs ∧
  (HT.sIx xs.length 0 lo = 0 ∧ HT.sIx xs.length xs.length hi = xs.length → Q (.ref a) H) ∧ (¬ (HT.sIx xs.length 0 lo = 0 ∧ HT.sIx xs.length xs.length hi = xs.length) → ∀ p o, H p = none → o.cls = .type "tuple" → o.dict = none → Q (.ref p) (upd H p (.frz o (.tup (cutV xs lo hi)))))
theorem sl_tupF {K : PySem.W.Frag} (hK : X.K = K) : SlR X (rSlF K) := by
  subst hK
  rintro pins s σ H _ v vl vu lo hi sl Q I rx hs pl pu ⟨a, xs, rfl, reads, all, part⟩
  by_cases whole : HT.sIx xs.length 0 lo = 0 ∧ HT.sIx xs.length xs.length hi = xs.length
  · exact sl_tupA pins s σ H _ v vl vu lo hi sl Q I rx hs pl pu ⟨a, xs, rfl, reads, all, fun z => absurd whole z⟩
  · cases rx
    obtain ⟨its, vals, stands, small⟩ := I.tuple reads
    have size : its.toArray.size = xs.length := by rw [List.size_toArray]; exact vals.length.symm
    refine ⟨"tuple", _, PyProof.Rows.slot_tuple_getitem.lookup, stands.typeIs, HT.getItem_tuple_cut stands hs pl pu (by rw [size]; exact whole) ?_ (by rw [size]; exact small)⟩
    rw [size]
    have cut := (vals.drop (HT.sIx xs.length 0 lo)).take (HT.sIx xs.length xs.length hi - HT.sIx xs.length 0 lo)
    let ob : Obj := { cls := .type "tuple", data := .seq ((its.drop (HT.sIx xs.length 0 lo)).take (HT.sIx xs.length xs.length hi - HT.sIx xs.length 0 lo)).toArray }
    have good : ObjOk X.prog X.w (upd H s.heap.objs.size (.frz ob (.tup (cutV xs lo hi)))) (s.heap.push ob) s.heap.objs.size (.frz ob (.tup (cutV xs lo hi))) := ⟨Heap.get?_push_size _ rfl, Nat.le_trans (cutV_length xs lo hi) small, _, cut, IsTup.new _ _⟩
    exact ⟨.ref s.heap.objs.size, _, I.laid (t' := s.toks) (fun b ob e => Heap.get?_push_of_some _ e) (Nat.le_refl _) good, rfl, part whole _ ob (I.hok.fresh (Nat.le_refl _)) rfl rfl⟩
def tyTup (x : V) (H : Hp) : Prop := ∃ a o u, x = .ref a ∧ H a = some (.frz o u) ∧ o.cls = .type "tuple" ∧ o.dict = none
theorem ty_tup : TyOk X "tuple" tyTup := by
  intro pins σ H s x v I r h
  obtain ⟨a, o, u, rfl, e, hc, hd⟩ := h
  cases r
  obtain ⟨e2, _⟩ := I.hok a _ e
  refine ⟨⟨o, e2, hc⟩, fun b eb => ?_⟩
  cases eb
  exact ⟨o, e2, hd⟩
end
/-- rows -/
def RowAt (M : Ms) (H : Hp) (v : V) (ns : List Int) : Prop := ∃ a, v = .ref a ∧ ¬ M a ∧ Rd H a (.tup (ns.map V.int))
def RowF (M : Ms) (H : Hp) (v : V) (ns : List Int) : Prop := ∃ a o, v = .ref a ∧ ¬ M a ∧ H a = some (.frz o (.tup (ns.map V.int))) ∧ o.cls = .type "tuple" ∧ o.dict = none
theorem RowF.row {M : Ms} {H : Hp} {v : V} {ns : List Int} (h : RowF M H v ns) : RowAt M H v ns := by
  obtain ⟨a, o, e, n, ha, _⟩ := h
  exact ⟨a, e, n, .inr ⟨o, ha⟩⟩
theorem RowAt.sx {M : Ms} {H H' : Hp} {v : V} {ns : List Int} (h : RowAt M H v ns) (s : Sx M H H') : RowAt M H' v ns := by
  obtain ⟨a, e, n, ha⟩ := h
  exact ⟨a, e, n, sx_rd s n ha⟩
theorem RowF.sx {M : Ms} {H H' : Hp} {v : V} {ns : List Int} (h : RowF M H v ns) (s : Sx M H H') : RowF M H' v ns := by
  obtain ⟨a, o, e, n, ha, r⟩ := h
  exact ⟨a, o, e, n, s _ _ n ha, r⟩
theorem RowAt.less {M N : Ms} {H : Hp} {v : V} {ns : List Int} (h : RowAt M H v ns) (f : ∀ a, N a → M a) : RowAt N H v ns := by
  obtain ⟨a, e, n, ha⟩ := h
  exact ⟨a, e, fun z => n (f a z), ha⟩
theorem RowF.less {M N : Ms} {H : Hp} {v : V} {ns : List Int} (h : RowF M H v ns) (f : ∀ a, N a → M a) : RowF N H v ns := by
  obtain ⟨a, o, e, n, ha⟩ := h
  exact ⟨a, o, e, fun z => n (f a z), ha⟩
theorem RowF.fresh {M : Ms} {H : Hp} {v : V} {ns : List Int} {p : Addr} (hp : H p = none) (h : RowF M H v ns) : RowF (also M p) H v ns := by
  obtain ⟨a, o, e, n, ha, r⟩ := h
  refine ⟨a, o, e, fun z => ?_, ha, r⟩
  rcases z with z | z
  · exact n z
  · rw [show a = p from z, hp] at ha
    cases ha
end D

namespace D
open PySem PySem.Spec PyProof.Rows L2
theorem hu65 {A : Around} {k : Nat} (hr : Room k A) : A.units + 65 < cLine := by have := hr.un; omega
/-! ### idents and matches -/
abbrev IP := Int × Int
def idp (ws : List Int) : List IP := ws.mapIdx fun i w => (w, (((ws.take i).count w : Nat) : Int))
theorem idp_len (ws : List Int) : (idp ws).length = ws.length := List.length_mapIdx
theorem idp_at {ws : List Int} {i : Nat} {w : Int} (h : ws[i]? = some w) : (idp ws)[i]? = some (w, (((ws.take i).count w : Nat) : Int)) := by
  unfold idp
  rw [List.getElem?_mapIdx, h]
  rfl
theorem nodup_get {α : Type} {l : List α} : l.Nodup ↔ ∀ i j : Nat, i < j → j < l.length → l[i]? ≠ l[j]? := by
  unfold List.Nodup
  rw [List.pairwise_iff_getElem]
  constructor
  · intro h i j hij hj e
    rw [List.getElem?_eq_getElem (Nat.lt_trans hij hj), List.getElem?_eq_getElem hj] at e
    exact h i j (Nat.lt_trans hij hj) hj hij (Option.some.inj e)
  · intro h i j hi hj hij e
    exact h i j hij hj (by rw [List.getElem?_eq_getElem hi, List.getElem?_eq_getElem hj, e])
theorem idp_nodup (ws : List Int) : (idp ws).Nodup := by
  rw [nodup_get]
  intro i j hij hj
  have hj' : j < ws.length := by rw [idp_len] at hj; exact hj
  have hi' : i < ws.length := Nat.lt_trans hij hj'
  have ei : ws[i]? = some ws[i] := List.getElem?_eq_getElem hi'
  have ej : ws[j]? = some ws[j] := List.getElem?_eq_getElem hj'
  rw [idp_at ei, idp_at ej]
  intro e
  have e' := Option.some.inj e
  have e1 : ws[i] = ws[j] := congrArg Prod.fst e'
  have e2 : (((ws.take i).count ws[i] : Nat) : Int) = ((ws.take j).count ws[j] : Nat) := congrArg Prod.snd e'
  have e3 : (ws.take i).count ws[i] = (ws.take j).count ws[j] := Int.ofNat.inj e2
  rw [← e1] at e3
  have s1 : List.Sublist ((ws.take (i + 1))) (ws.take j) := by
    have : ws.take (i + 1) = (ws.take j).take (i + 1) := by rw [List.take_take]; congr 1; omega
    rw [this]
    exact List.take_sublist _ _
  have c1 := s1.count_le ws[i]
  rw [List.take_add_one, ei, List.count_append] at c1
  have : List.count ws[i] (some ws[i]).toList = 1 := by simp
  omega
def pos (B : List IP) (x : IP) : Option Nat := if x ∈ B then some (B.idxOf x) else none
theorem pos_snoc {B : List IP} {b : IP} (hb : b ∉ B) (x : IP) : pos (B ++ [b]) x = if x = b then some B.length else pos B x := by
  unfold pos
  by_cases e : x = b
  · subst e
    rw [if_pos rfl, if_pos (by simp), List.idxOf_append, if_neg hb]
    simp
  · rw [if_neg e]
    by_cases m : x ∈ B
    · rw [if_pos m, if_pos (by simp [m]), List.idxOf_append, if_pos m]
    · rw [if_neg m, if_neg (by simp [m, e])]
theorem pos_take {B : List IP} (hB : B.Nodup) {i : Nat} {b : IP} (h : B[i]? = some b) (x : IP) : pos (B.take (i + 1)) x = if x = b then some i else pos (B.take i) x := by
  have hi : i < B.length := (List.getElem?_eq_some_iff.mp h).1
  have hb : b ∉ B.take i := by
    intro hm
    obtain ⟨j, hj⟩ := List.mem_iff_getElem?.mp hm
    have hji : j < i := by
      have := (List.getElem?_eq_some_iff.mp hj).1
      rw [List.length_take] at this
      omega
    rw [List.getElem?_take_of_lt hji] at hj
    exact (nodup_get.mp hB) j i hji hi (hj.trans h.symm)
  have e : B.take (i + 1) = B.take i ++ [b] := by rw [List.take_add_one, h]; rfl
  have := pos_snoc hb x
  rw [← e, List.length_take, Nat.min_eq_left (Nat.le_of_lt hi)] at this
  exact this
theorem pos_lt {B : List IP} {x : IP} {i : Nat} (h : pos B x = some i) : i < B.length ∧ B[i]? = some x := by
  unfold pos at h
  split at h
  · rename_i m
    cases h
    have hl := List.idxOf_lt_length_of_mem m
    exact ⟨hl, by rw [List.getElem?_eq_getElem hl, List.getElem_idxOf hl]⟩
  · cases h
/-- the key of an ident in a dict -/
def kk (x : IP) : List Key := [.inl x.1, .inl x.2]
theorem kk_inj {x y : IP} (h : kk x = kk y) : x = y := by
  have h' : [(Sum.inl x.1 : Key), .inl x.2] = [.inl y.1, .inl y.2] := h
  injection h' with h1 h2
  injection h2 with h2 _
  exact Prod.ext (Sum.inl.inj h1) (Sum.inl.inj h2)
/-- what a dict tells of idents -/
def Tells (kvs : List (List Key × V)) (B : List IP) : Prop := ∀ x, valV kvs (kk x) = (pos B x).map fun (i : Nat) => V.int (i : Int)
theorem tells_nil : Tells [] [] := fun x => by
  unfold pos
  rw [if_neg (by simp)]
  rfl
theorem tells_put {kvs : List (List Key × V)} {B : List IP} (hB : B.Nodup) {i : Nat} {b : IP} (h : B[i]? = some b) (t : Tells kvs (B.take i)) : Tells (putK kvs (kk b) (.int (i : Nat))) (B.take (i + 1)) := fun x => by
  rw [valV_put, pos_take hB h]
  by_cases e : x = b
  · subst e
    rw [if_pos rfl, if_pos rfl]
    rfl
  · rw [if_neg (fun z => e (kk_inj z)), if_neg e]
    exact t x
def mst (B : List IP) (x : IP) (j : Nat) : List IP := match pos B x with
  | some i => [((i : Int), (j : Int))]
  | none => []
def mt (B N : List IP) : List IP := (N.mapIdx fun j x => mst B x j).flatten
theorem mt_step (B : List IP) {N : List IP} {j : Nat} {x : IP} (h : N[j]? = some x) : mt B (N.take (j + 1)) = mt B (N.take j) ++ mst B x j := by
  have hj : j < N.length := (List.getElem?_eq_some_iff.mp h).1
  unfold mt
  rw [List.take_add_one, h]
  show (List.mapIdx _ (List.take j N ++ [x])).flatten = _
  rw [List.mapIdx_append, List.flatten_append]
  congr 1
  rw [List.length_take, Nat.min_eq_left (Nat.le_of_lt hj)]
  show [mst B x (0 + j)].flatten = _
  rw [Nat.zero_add]
  simp
theorem mst_take {B : List IP} (hB : B.Nodup) {i : Nat} {b : IP} (h : B[i]? = some b) (x : IP) (j : Nat) : mst (B.take (i + 1)) x j = mst (B.take i) x j ++ if b = x then [((i : Int), (j : Int))] else [] := by
  have hn : b = x → pos (B.take i) x = none := fun e => by
    subst e
    unfold pos
    rw [if_neg]
    intro hm
    obtain ⟨k, hk⟩ := List.mem_iff_getElem?.mp hm
    have hji : k < i := by
      have := (List.getElem?_eq_some_iff.mp hk).1
      rw [List.length_take] at this
      omega
    rw [List.getElem?_take_of_lt hji] at hk
    exact (nodup_get.mp hB) k i hji (List.getElem?_eq_some_iff.mp h).1 (hk.trans h.symm)
  unfold mst
  rw [pos_take hB h]
  by_cases e : x = b
  · rw [if_pos e, hn e.symm, if_pos e.symm]
    rfl
  · rw [if_neg e, if_neg (fun z => e z.symm), List.append_nil]
theorem mst_nil (x : IP) (j : Nat) : mst [] x j = [] := by
  unfold mst pos
  rw [if_neg (by simp)]
theorem mst_mem {B : List IP} {x : IP} {j : Nat} {p : IP} (h : p ∈ mst B x j) : ∃ i, i < B.length ∧ p = ((i : Int), (j : Int)) := by
  unfold mst at h
  split at h
  · rename_i i e
    exact ⟨i, (pos_lt e).1, List.mem_singleton.mp h⟩
  · exact nomatch h
theorem mt_mem {B N : List IP} {p : IP} (h : p ∈ mt B N) : ∃ i j : Nat, i < B.length ∧ j < N.length ∧ p = ((i : Int), (j : Int)) := by
  unfold mt at h
  obtain ⟨l, hl, hp⟩ := List.mem_flatten.mp h
  obtain ⟨j, hj, rfl⟩ := List.mem_mapIdx.mp hl
  obtain ⟨i, hi, e⟩ := mst_mem hp
  exact ⟨i, j, hi, hj, e⟩
theorem mst_len (B : List IP) (x : IP) (j : Nat) : (mst B x j).length ≤ 1 := by
  unfold mst
  split <;> simp
theorem mt_len (B N : List IP) : (mt B N).length ≤ N.length := by
  suffices h : ∀ n, n ≤ N.length → (mt B (N.take n)).length ≤ n by
    have := h N.length (Nat.le_refl _)
    rw [List.take_length] at this
    exact this
  intro n
  induction n with
  | zero => intro _; simp [mt]
  | succ n ih =>
    intro h
    rw [mt_step B (List.getElem?_eq_getElem (by omega : n < N.length)), List.length_append]
    have := ih (by omega)
    have := mst_len B N[n] n
    omega
/-- slips -/
def atI0 (l : List Int) (i : Int) : Int := l.getD i.toNat 0
theorem atI0_nat {l : List Int} {i : Nat} {x : Int} (h : l[i]? = some x) : atI0 l (i : Int) = x := by
  unfold atI0
  rw [Int.toNat_natCast, List.getD_eq_getElem?_getD, h]
  rfl
def sst (o n : List Int) (p : IP) : List IP := if atI0 o p.1 = atI0 n p.2 then [] else [(atI0 o p.1, atI0 n p.2)]
def slp (o n : List Int) (ms : List IP) : List IP := (ms.map (sst o n)).flatten
theorem slp_step (o n : List Int) {ms : List IP} {j : Nat} {p : IP} (h : ms[j]? = some p) : slp o n (ms.take (j + 1)) = slp o n (ms.take j) ++ sst o n p := by
  unfold slp
  rw [List.take_add_one, h, List.map_append, List.flatten_append]
  simp
theorem slp_len (o n : List Int) : ∀ ms : List IP, (slp o n ms).length ≤ ms.length
  | [] => Nat.le_refl _
  | p :: r => by
    have h1 := slp_len o n r
    have h2 : (sst o n p).length ≤ 1 := by unfold sst; split <;> simp
    show ((sst o n p) ++ slp o n r).length ≤ r.length + 1
    rw [List.length_append]
    omega
/-- lost items -/
def lst1 (o : List Int) (ms : List IP) (x : Int) (j : Nat) : List Int := if x ∈ o ∧ (((o.idxOf x : Nat) : Int), (j : Int)) ∉ ms then [x] else []
def lsts (o n : List Int) (ms : List IP) : List Int := (n.mapIdx fun j x => lst1 o ms x j).flatten
theorem lsts_step (o : List Int) (ms : List IP) {n : List Int} {j : Nat} {x : Int} (h : n[j]? = some x) : lsts o (n.take (j + 1)) ms = lsts o (n.take j) ms ++ lst1 o ms x j := by
  have hj : j < n.length := (List.getElem?_eq_some_iff.mp h).1
  unfold lsts
  rw [List.take_add_one, h]
  show (List.mapIdx _ (List.take j n ++ [x])).flatten = _
  rw [List.mapIdx_append, List.flatten_append]
  congr 1
  rw [List.length_take, Nat.min_eq_left (Nat.le_of_lt hj)]
  show [lst1 o ms x (0 + j)].flatten = _
  rw [Nat.zero_add]
  simp
theorem lsts_len (o n : List Int) (ms : List IP) : (lsts o n ms).length ≤ n.length := by
  suffices h : ∀ k, k ≤ n.length → (lsts o (n.take k) ms).length ≤ k by
    have := h n.length (Nat.le_refl _)
    rw [List.take_length] at this
    exact this
  intro k
  induction k with
  | zero => intro _; simp [lsts]
  | succ k ih =>
    intro h
    rw [lsts_step o ms (List.getElem?_eq_getElem (by omega : k < n.length)), List.length_append]
    have := ih (by omega)
    have : (lst1 o ms n[k] k).length ≤ 1 := by unfold lst1; split <;> simp
    omega
/-- deep facts of pairs -/
theorem pD_lay (p : IP) : (pD p).canLay0 = true := by simp [pD, PyData.canLay0, PyData.canLayAll0]
theorem pD_depth (p : IP) : (pD p).depth = 1 := by simp [pD, PyData.depth, PyData.depthAll]
theorem pDs_lay : ∀ ps : List IP, PyData.canLayAll0 (ps.map pD) = true
  | [] => rfl
  | p :: r => by simp [PyData.canLayAll0, pD_lay p, pDs_lay r]
theorem pDs_depth : ∀ ps : List IP, PyData.depthAll (ps.map pD) ≤ 1
  | [] => Nat.zero_le _
  | p :: r => by
    have := pDs_depth r
    simp only [List.map_cons, PyData.depthAll, pD_depth p]
    omega
theorem pD_shaped (p : IP) : SeqAt.shaped (pD p) = true := by
  refine Bool.and_eq_true_iff.mpr ⟨pD_lay p, decide_eq_true ?_⟩
  rw [pD_depth]
  decide
theorem pDs_shapedL (ps : List IP) : SeqAt.shaped (.list (ps.map pD)) = true := by
  refine Bool.and_eq_true_iff.mpr ⟨by simp [PyData.canLay0, pDs_lay ps], decide_eq_true ?_⟩
  have := pDs_depth ps
  simp only [PyData.depth]
  omega
theorem pDs_shapedT (ps : List IP) : SeqAt.shaped (.tuple (ps.map pD)) = true := by
  refine Bool.and_eq_true_iff.mpr ⟨by simp [PyData.canLay0, pDs_lay ps], decide_eq_true ?_⟩
  have := pDs_depth ps
  simp only [PyData.depth]
  omega
theorem pD_eqv (p q : IP) : PyData.eqv (pD p) (pD q) = decide (p = q) := by
  simp only [pD, PyData.eqv, PyData.eqvAll, Bool.and_true]
  rw [Bool.eq_iff_iff]
  simp only [Bool.and_eq_true, decide_eq_true_iff, beq_iff_eq, Prod.ext_iff]
theorem pD_any (ps : List IP) (p : IP) : ((ps.map pD).any fun z => PyData.eqv z (pD p)) = decide (p ∈ ps) := by
  rw [List.any_map, Bool.eq_iff_iff, List.any_eq_true, decide_eq_true_iff]
  constructor
  · rintro ⟨x, hx, e⟩
    have e' : PyData.eqv (pD x) (pD p) = true := e
    rw [pD_eqv, decide_eq_true_iff] at e'
    rw [← e']
    exact hx
  · intro h
    exact ⟨p, h, by show PyData.eqv (pD p) (pD p) = true; rw [pD_eqv]; exact decide_eq_true rfl⟩
end D
namespace D
open PySem PySem.Spec PyProof.Rows L2
/-! ### a list of data that grows beside -/
def Acc (M : Ms) (H : Hp) (D : Addr) (H' : Hp) (ys : List PyData) : Prop := H D = none ∧ Same H H' ∧ ∃ acc, H' D = some (.lst acc) ∧ RpAll (also M D) H' acc ys
theorem Acc.new {M : Ms} {H : Hp} {D : Addr} (hD : H D = none) : Acc M H D (upd H D (.lst [])) [] := ⟨hD, same_new hD, [], upd_same, .nil⟩
theorem Acc.keep {M : Ms} {H H1 H2 : Hp} {D : Addr} {ys : List PyData} (h : Acc M H D H1 ys) (s : Same H1 H2) : Acc M H D H2 ys := by
  obtain ⟨hD, s0, acc, e, r⟩ := h
  exact ⟨hD, s0.trans s, acc, s _ _ e, r.sx (Sx.same s)⟩
theorem Acc.same {M : Ms} {H H1 : Hp} {D : Addr} {ys : List PyData} (h : Acc M H D H1 ys) : Same H H1 := h.2.1
theorem Acc.at {M : Ms} {H H1 : Hp} {D : Addr} {ys : List PyData} (h : Acc M H D H1 ys) : ∃ acc, H1 D = some (.lst acc) ∧ acc.length = ys.length := by
  obtain ⟨hD, s0, acc, e, r⟩ := h
  exact ⟨acc, e, r.length⟩
theorem Acc.put {M : Ms} {H H1 : Hp} {D : Addr} {ys : List PyData} {v : V} {y : PyData} (h : Acc M H D H1 ys) (r : Rp (also M D) H1 v y) (hl : ys.length ≤ 1000000) : ∃ acc, H1 D = some (.lst acc) ∧ acc.length < sizeLine ∧ Acc M H D (upd H1 D (.lst (acc ++ [v]))) (ys ++ [y]) := by
  obtain ⟨hD, s0, acc, e, ra⟩ := h
  refine ⟨acc, e, small1000000 (by rw [ra.length]; exact hl), hD, same_put s0 hD, acc ++ [v], upd_same, ?_⟩
  exact (ra.append (.one r)).sx (Sx.put (.inr rfl))
theorem Acc.mk {M : Ms} {H H1 : Hp} {D : Addr} {ys : List PyData} (h : Acc M H D H1 ys) (hM : Mk M H) : Mk (also M D) H1 := by
  obtain ⟨hD, s0, acc, e, r⟩ := h
  exact (hM.gr (Gr.same s0)).also (ne_none e)
theorem Acc.fin {M : Ms} {H H1 : Hp} {D : Addr} {ys : List PyData} (h : Acc M H D H1 ys) (hM : Mk M H) : Ld M H1 D ys := by
  obtain ⟨hD, s0, acc, e, r⟩ := h
  exact ⟨hM.out hD, acc, e, r.less also_le⟩
theorem Acc.rp {M : Ms} {H H1 : Hp} {D : Addr} {ys : List PyData} (h : Acc M H D H1 ys) (hM : Mk M H) : Rp M H1 (.ref D) (.list ys) := (h.fin hM).rp
/-- what stood ahead is read in the same way beside the list -/
theorem Acc.old {M : Ms} {H H1 : Hp} {D : Addr} {ys : List PyData} {v : V} {d : PyData} (h : Acc M H D H1 ys) (r : Rp M H v d) : Rp (also M D) H1 v d := (r.fresh h.1).sx (Sx.same h.2.1)
theorem Acc.oldM {M : Ms} {H H1 : Hp} {D : Addr} {ys : List PyData} {v : V} {d : PyData} (h : Acc M H D H1 ys) (r : Rp M H v d) : Rp M H1 v d := r.sx (Sx.same h.2.1)
end D
namespace D
open PySem PySem.Spec PyProof.Rows L2
theorem Rp.newT {M : Ms} {H : Hp} {p : Addr} {us : List V} {ds : List PyData} (hM : Mk M H) (hp : H p = none) (r : RpAll M H us ds) : Rp M (upd H p (.tup us)) (.ref p) (.tuple ds) := .tup (hM.out hp) (.inl upd_same) (r.sx (Sx.new hp))
theorem Rp.newL {M : Ms} {H : Hp} {p : Addr} {us : List V} {ds : List PyData} (hM : Mk M H) (hp : H p = none) (r : RpAll M H us ds) : Rp M (upd H p (.lst us)) (.ref p) (.list ds) := .lst (hM.out hp) (.inl upd_same) (r.sx (Sx.new hp))
theorem Mk.new {M : Ms} {H : Hp} {p : Addr} {o : HO} (hM : Mk M H) : Mk M (upd H p o) := hM.gr Gr.upd
def unI : PyData → Int
  | .int i => i
  | _ => 0
theorem perm_ints {es : List PyData} {l : List Int} (h : es.Perm (l.map PyData.int)) : ∃ ns : List Int, ns.Perm l ∧ es = ns.map PyData.int := by
  refine ⟨es.map unI, ?_, ?_⟩
  · have h1 := h.map unI
    rw [List.map_map] at h1
    have e : l.map (unI ∘ PyData.int) = l := by
      have : (unI ∘ PyData.int) = id := rfl
      rw [this, List.map_id]
    rw [e] at h1
    exact h1
  · rw [List.map_map]
    have e : ∀ x ∈ es, (PyData.int ∘ unI) x = x := fun x hx => by
      obtain ⟨i, _, rfl⟩ := List.mem_map.mp (h.mem_iff.mp hx)
      rfl
    exact (List.map_id es).symm.trans (List.map_congr_left fun x hx => (e x hx).symm)
def ten : List Int := [0, 1, 2, 3, 4, 5, 6, 7, 8, 9]
theorem ten_take (n : Nat) : (ten.take n).Nodup ∧ ∀ x ∈ ten.take n, 0 ≤ x ∧ x ≤ 9 :=
  ⟨(show ten.Nodup by decide).sublist (List.take_sublist n ten), fun x hx => (show ∀ x ∈ ten, 0 ≤ x ∧ x ≤ 9 by decide) x (List.mem_of_mem_take hx)⟩
def mxd (m : Nat) (s : Fm) : Nat := max m s.dep
theorem FmAt.two {M : Ms} {H : Hp} {f : Fm} {xs : List V} (h : FmAt M H f xs) : (∃ y z, xs = [.str y, z] ∧ (y = sIs ∨ y = sGet) ∧ f.dep = 1) ∨ ∃ y r, xs = .str y :: r ∧ r ≠ [] ∧ y ≠ sIs ∧ y ≠ sGet ∧ RpAll M H r (f.subs.map Fm.enc) ∧ f.dep = f.subs.foldl mxd 0 + 1 := by
  cases h with
  | is n => exact .inl ⟨_, _, rfl, .inl rfl, rfl⟩
  | get x => exact .inl ⟨_, _, rfl, .inr rfl, rfl⟩
  | @sum f g u w a b =>
    refine .inr ⟨_, _, rfl, by simp, by decide +kernel, by decide +kernel, .cons a (.one b), ?_⟩
    show max f.dep g.dep + 1 = max (max 0 f.dep) g.dep + 1
    omega
  | @same f g u w a b =>
    refine .inr ⟨_, _, rfl, by simp, by decide +kernel, by decide +kernel, .cons a (.one b), ?_⟩
    show max f.dep g.dep + 1 = max (max 0 f.dep) g.dep + 1
    omega
  | @pick f g k u w z a b c =>
    refine .inr ⟨_, _, rfl, by simp, by decide +kernel, by decide +kernel, .cons a (.cons b (.one c)), ?_⟩
    show max f.dep (max g.dep k.dep) + 1 = max (max (max 0 f.dep) g.dep) k.dep + 1
    omega
theorem ints_mem {l : List Int} (h : ∀ n ∈ l, 0 ≤ n ∧ n ≤ 9) {v : V} (hv : v ∈ l.map V.int) : ∃ n, v = .int n ∧ 0 ≤ n ∧ n ≤ 9 := by
  obtain ⟨n, hn, rfl⟩ := List.mem_map.mp hv
  exact ⟨n, rfl, h n hn⟩
/-- a draw of a row -/
def DrR (K : PySem.W.Frag) (M : Ms) (b : Addr) (H : Hp) (R : List Int → Prop) (Q : VK) : Prop := ∀ v H' ns, Sx (one b) H H' → Gr H H' → Bag K M H' b → RowF M H' v ns → R ns → Q v H'
end D

namespace D
open PySem PySem.Spec PyProof.Rows L2
/-! ### rows that a key mixes up -/
theorem flat_ne {α β : Type} (f : α → List β) (l : List α) : (l.map f).flatten ≠ [] ↔ ∃ x ∈ l, f x ≠ [] := by
  induction l with
  | nil => simp
  | cons a r ih =>
    rw [List.map_cons, List.flatten_cons]
    constructor
    · intro h
      by_cases c : f a = []
      · rw [c, List.nil_append] at h
        obtain ⟨x, hx, e⟩ := ih.mp h
        exact ⟨x, List.mem_cons_of_mem _ hx, e⟩
      · exact ⟨a, List.mem_cons_self, c⟩
    · rintro ⟨x, hx, e⟩ z
      obtain ⟨z1, z2⟩ := List.append_eq_nil_iff.mp z
      rcases List.mem_cons.mp hx with rfl | hx
      · exact e z1
      · exact ih.mpr ⟨x, hx, e⟩ z2
theorem flat_ne_idx {α β : Type} (f : Nat → α → List β) (l : List α) : (l.mapIdx f).flatten ≠ [] ↔ ∃ (j : Nat) (x : α), l[j]? = some x ∧ f j x ≠ [] := by
  have h := flat_ne (fun y => y) (l.mapIdx f)
  rw [List.map_id'] at h
  rw [h]
  constructor
  · rintro ⟨y, hy, e⟩
    obtain ⟨j, hj⟩ := List.mem_iff_getElem?.mp hy
    rw [List.getElem?_mapIdx] at hj
    obtain ⟨x, hx, rfl⟩ := Option.map_eq_some_iff.mp hj
    exact ⟨j, x, hx, e⟩
  · rintro ⟨j, x, hx, e⟩
    exact ⟨f j x, List.mem_iff_getElem?.mpr ⟨j, by rw [List.getElem?_mapIdx, hx]; rfl⟩, e⟩
theorem pos_of {B : List IP} (hB : B.Nodup) {i : Nat} {x : IP} (h : B[i]? = some x) : pos B x = some i := by
  have hm : x ∈ B := List.mem_of_getElem? h
  have hi := (List.getElem?_eq_some_iff.mp h).1
  have h2 := List.idxOf_lt_length_of_mem hm
  have e2 : B[B.idxOf x]? = some x := by rw [List.getElem?_eq_getElem h2, List.getElem_idxOf h2]
  unfold pos
  rw [if_pos hm]
  rcases Nat.lt_trichotomy (B.idxOf x) i with c | c | c
  · exact absurd (e2.trans h.symm) (nodup_get.mp hB _ _ c hi)
  · rw [c]
  · exact absurd (h.trans e2.symm) (nodup_get.mp hB _ _ c h2)
theorem mem_mt {B N : List IP} (hB : B.Nodup) (i j : Nat) : ((i : Int), (j : Int)) ∈ mt B N ↔ ∃ x, B[i]? = some x ∧ N[j]? = some x := by
  constructor
  · intro h
    unfold mt at h
    obtain ⟨l, hl, hp⟩ := List.mem_flatten.mp h
    obtain ⟨k, hk, rfl⟩ := List.mem_mapIdx.mp hl
    unfold mst at hp
    cases e : pos B N[k] with
    | none => rw [e] at hp; exact nomatch hp
    | some m =>
      rw [e] at hp
      have hp' := List.mem_singleton.mp hp
      injection hp' with h1 h2
      have h1' : i = m := Int.ofNat.inj h1
      have h2' : j = k := Int.ofNat.inj h2
      subst h1' h2'
      exact ⟨_, (pos_lt e).2, List.getElem?_eq_getElem hk⟩
  · rintro ⟨x, h1, h2⟩
    unfold mt
    refine List.mem_flatten.mpr ⟨mst B x j, List.mem_iff_getElem?.mpr ⟨j, by rw [List.getElem?_mapIdx, h2]; rfl⟩, ?_⟩
    unfold mst
    rw [pos_of hB h1]
    exact List.mem_singleton.mpr rfl
def badB (o n : List Int) (B N : List IP) : Bool := !(slp o n (mt B N)).isEmpty || !(lsts o n (mt B N)).isEmpty
theorem idx_of {n : List Int} (h : n.Nodup) {i : Nat} {x : Int} (e : n[i]? = some x) : n.idxOf x = i := by
  have hi := (List.getElem?_eq_some_iff.mp e).1
  have hx : x ∈ n := List.mem_of_getElem? e
  have h2 := List.idxOf_lt_length_of_mem hx
  have e2 : n[n.idxOf x]? = some x := by rw [List.getElem?_eq_getElem h2, List.getElem_idxOf h2]
  rcases Nat.lt_trichotomy (n.idxOf x) i with c | c | c
  · exact absurd (e2.trans e.symm) (nodup_get.mp h _ _ c hi)
  · exact c
  · exact absurd (e.trans e2.symm) (nodup_get.mp h _ _ c h2)
theorem bad_iff {o n : List Int} {B N : List IP} (ho : o.Nodup) (hB : B.Nodup) (lB : B.length = o.length) (lN : N.length = n.length) :
    badB o n B N = true ↔ ∃ (i j : Nat) (x y : Int) (u v : IP), o[i]? = some x ∧ n[j]? = some y ∧ B[i]? = some u ∧ N[j]? = some v ∧ decide (u = v) ≠ decide (x = y) := by
  have e1 : badB o n B N = true ↔ (slp o n (mt B N) ≠ [] ∨ lsts o n (mt B N) ≠ []) := by
    unfold badB
    rw [Bool.or_eq_true]
    constructor
    · rintro (h | h)
      · left; intro z; rw [z] at h; exact nomatch h
      · right; intro z; rw [z] at h; exact nomatch h
    · rintro (h | h)
      · left; cases e : slp o n (mt B N) with
        | nil => exact absurd e h
        | cons a r => rfl
      · right; cases e : lsts o n (mt B N) with
        | nil => exact absurd e h
        | cons a r => rfl
  rw [e1]
  have at_ : ∀ {i : Nat}, i < o.length → ∃ u, B[i]? = some u := fun {i} h => ⟨B[i]'(by omega), List.getElem?_eq_getElem _⟩
  constructor
  · rintro (h | h)
    · obtain ⟨p, hp, e⟩ := (flat_ne (sst o n) (mt B N)).mp h
      obtain ⟨i, j, hi, hj, rfl⟩ := mt_mem hp
      obtain ⟨w, h1, h2⟩ := (mem_mt hB i j).mp hp
      have x1 : o[i]? = some (o[i]'(by omega)) := List.getElem?_eq_getElem _
      have x2 : n[j]? = some (n[j]'(by omega)) := List.getElem?_eq_getElem _
      refine ⟨i, j, _, _, w, w, x1, x2, h1, h2, ?_⟩
      rw [decide_eq_true rfl]
      intro z
      have z' := of_decide_eq_true z.symm
      apply e
      unfold sst
      rw [atI0_nat x1, atI0_nat x2, if_pos z']
    · obtain ⟨j, x, hx, e⟩ := (flat_ne_idx (fun j x => lst1 o (mt B N) x j) n).mp h
      have hc : x ∈ o ∧ (((o.idxOf x : Nat) : Int), (j : Int)) ∉ mt B N := by
        by_cases c : x ∈ o ∧ (((o.idxOf x : Nat) : Int), (j : Int)) ∉ mt B N
        · exact c
        · exact absurd (if_neg c) e
      have hix := List.idxOf_lt_length_of_mem hc.1
      have hj := (List.getElem?_eq_some_iff.mp hx).1
      obtain ⟨u, hu⟩ := at_ hix
      have hv : N[j]? = some (N[j]'(by omega)) := List.getElem?_eq_getElem _
      refine ⟨o.idxOf x, j, x, x, u, _, by rw [List.getElem?_eq_getElem hix, List.getElem_idxOf hix], hx, hu, hv, ?_⟩
      rw [decide_eq_true (show x = x from rfl)]
      intro z
      have z' := of_decide_eq_true z
      exact hc.2 ((mem_mt hB _ j).mpr ⟨u, hu, by rw [hv, z']⟩)
  · rintro ⟨i, j, x, y, u, v, hx, hy, hu, hv, hne⟩
    by_cases c : u = v
    · left
      subst c
      have hp : ((i : Int), (j : Int)) ∈ mt B N := (mem_mt hB i j).mpr ⟨u, hu, hv⟩
      refine (flat_ne (sst o n) (mt B N)).mpr ⟨_, hp, ?_⟩
      unfold sst
      rw [atI0_nat hx, atI0_nat hy, if_neg]
      · simp
      · intro z
        apply hne
        rw [decide_eq_true rfl, decide_eq_true z]
    · have xy : x = y := by
        by_cases z : x = y
        · exact z
        · exact absurd (by rw [decide_eq_false c, decide_eq_false z]) hne
      subst xy
      right
      refine (flat_ne_idx (fun j x => lst1 o (mt B N) x j) n).mpr ⟨j, x, hy, ?_⟩
      have hm : x ∈ o := List.mem_of_getElem? hx
      show lst1 o (mt B N) x j ≠ []
      unfold lst1
      rw [if_pos]
      · simp
      · refine ⟨hm, fun z => ?_⟩
        rw [idx_of ho hx] at z
        obtain ⟨w, h1, h2⟩ := (mem_mt hB i j).mp z
        exact c ((Option.some.inj (hu.symm.trans h1)).trans (Option.some.inj (h2.symm.trans hv)))
end D

namespace D
open PySem PySem.Spec PyProof.Rows L2
section
variable {X : Cx} {C g : Addr} {n : Nat} {CX : CXT} {sp : Sp} {E : XK} {fd : FuncData} {ps : List Str}
theorem room_in1 {A : Around} (r : Room (n + 1) A) : Room n A.in1 := ⟨r.hd, by have := r.dp; show A.depth + 3 * n + 5 < _; omega, by have := r.un; show A.units + 1 + 16 * n + 200 < _; omega⟩
/-- a def is run one step in -/
theorem run_in1 {pins : List (Addr × Obj)} {σ : L2.St} {H : Hp} {s : Shared} {Q : VK} {us : List Value} {vs : List V} (F : FnOk X.prog X.w X.K X.mg X.base CX n g fd ps sp) (hr : Room (n + 1) X.A) (hb : Binds X.K fd ps []) (hx : Passes CX X E)
    (I : Inv X pins σ H s) (r : Vals vs us) (h : sp vs H Q E) : wpAny (model X.prog X.w) X.A.in1 (call (.ref g) us) (EP X pins σ Q) X.xe s := by
  have hl : (us ++ []).length = ps.length := by rw [List.append_nil, ← r.length]; exact F.len _ _ _ _ h
  have bd := hb s us I.kIn hl
  rw [List.append_nil] at bd
  refine wpAny_call (codeAny_mono (F.run X.A.in1 X.stack s H ⟨us, []⟩ us vs Q E (room_in1 hr) I.env0.in1 bd r h) fun r s' hq => ?_)
  match r, hq with
  | .error e, hq => exact hx pins σ H s e s' I hq
  | .ok (.ret u), hq => exact I.after hq
  | .ok .next, hq => exact False.elim hq
  | .ok .brk, hq => exact False.elim hq
  | .ok .cont, hq => exact False.elim hq
/-- what an instance's own subscript reads: the def at g answers for the instance and the index -/
def tOwnIx (C : Addr) (sp : Sp) (E : XK) (to ti : TE) : TE := fun σ H Q => to σ H fun x H1 => ti σ H1 fun y H2 => ∃ a dx fs, x = .ref a ∧ H2 a = some (.ins C dx fs) ∧ sp [x, y] H2 Q E
theorem pe_ownIx {o i : Expr} {to ti : TE} {pos : Pos} (ho : PE X o to) (hi : PE X i ti) (hs : PySem.W.findIn X.K (.ref C) "__getitem__" = some (some (.ref g))) (hf : PySem.W.fnIn X.K g = true) (hg : PySem.W.isFn X.K (.ref g) = true)
    (F : FnOk X.prog X.w X.K X.mg X.base CX n g fd ps sp) (hb : Binds X.K fd ps []) (hr : Room (n + 1) X.A) (hx : Passes CX X E)
    (hsl : ∀ ov iv, subscripted i true ov iv = runValue (.builtin "lifetime.subscript" ⟨[ov, iv], []⟩)) : PE X (.Subscript o i pos) (tOwnIx C sp E to ti) := by
  refine ⟨fun pins s σ H Q I h => ?_⟩
  refine Subscript_ (thn (ho.run pins s σ H _ I h) fun ov s1 ⟨x, H1, I1, rx, q1⟩ => thn (hi.run pins s1 σ H1 _ I1 q1) fun iv s2 ⟨y, H2, I2, ry, a, dx, fs, ex, ha, q⟩ => ?_)
  subst ex
  obtain rfl : ov = Value.ref a := rx
  obtain ⟨mA, O, _⟩ := ins_get I2.hok ha
  obtain ⟨od, J, _⟩ := O.look
  obtain ⟨m, hF⟩ := I2.fr
  exact PySem.W.sub_K hF I2.ok.mod.kin J hs hf hg (run_in1 (us := [.ref a, iv]) (vs := [.ref a, y]) F hr hb hx I2 (.cons rfl (.cons ry .nil)) q) (hsl _ _)
/-- the store into an instance by its own def -/
theorem wp_ownPut {prog : Program} {w : World} {A : Around} {Ex : Value → Shared → Prop} {s : Shared} {K : PySem.W.Frag} {x C f : Addr} {ox : Obj} {od : Option Obj} {i v : Value} {Q : Unit → Shared → Prop} (hK : K.In s.heap) (J : PySem.W.InstAt s.heap x ox C od)
    (hq : PySem.W.noSeq K C = true) (hs : PySem.W.findIn K (.ref C) "__setitem__" = some (some (.ref f))) (hf : PySem.W.isFn K (.ref f) = true)
    (h : wpAny (model prog w) A (call (.ref f) [.ref x, i, v]) (fun _ => Q ()) Ex s) : wpAny (model prog w) A (setItem (.ref x) i v) Q Ex s := by
  unfold setItem sequenceKey
  have called : wpAny (model prog w) A (callSpecial? (.ref x) "__setitem__" [i, v]) (fun r => match r with | some _ => Q () | none => fun _ => False) Ex s :=
    PySem.W.special_fn hK J hs (beq_iff_eq.mp hf) h
  refine wpAny_holding (wpAny_bind (wpAny_bind (J.type.here (wpAny_bind ((PySem.W.anyM_none hK hq).here ?_)))))
  rw [if_pos (by rfl : (!false) = true)]
  refine wpAny_pure (wpAny_bind (wpAny_mono called (fun r s' z => ?_) fun _ _ z => z))
  match r, z with
  | some _, z => exact wpAny_pure z
/-- x[i] = v, an own def's store -/
def sOwnPut (C : Addr) (sp : Sp) (E : XK) (to ti tv : TE) : TS := fun D σ H => tv σ H fun v H1 => to σ H1 fun x H2 => ti σ H2 fun y H3 => ∃ a dx fs, x = .ref a ∧ H3 a = some (.ins C dx fs) ∧ sp [x, y, v] H3 (fun _ H4 => D.nx σ H4) E
theorem ps_ownPut {o i value : Expr} {pos pos' : Pos} {to ti tv : TE} (ho : PE X o to) (hi : PE X i ti) (hv : PE X value tv) (hq : PySem.W.noSeq X.K C = true) (hs : PySem.W.findIn X.K (.ref C) "__setitem__" = some (some (.ref g))) (hf : PySem.W.isFn X.K (.ref g) = true)
    (F : FnOk X.prog X.w X.K X.mg X.base CX n g fd ps sp) (hb : Binds X.K fd ps []) (hr : Room (n + 1) X.A) (hx : Passes CX X E) (sw : swapsWith value (some (.Subscript o i pos')) pos.line X.env = pure false) :
    PS X (.Assign [.Subscript o i pos'] value pos) (sOwnPut C sp E to ti tv) := by
  refine ⟨fun pins s σ H D I h => ?_⟩
  refine wpAny_Assign_Subscript (thn (hv.run pins s σ H _ I h) fun r s1 ⟨v, H1, I1, rv, q1⟩ => thn (ho.run pins s1 σ H1 _ I1 q1) fun u s2 ⟨x, H2, I2, rx, q2⟩ => thn (hi.run pins s2 σ H2 _ I2 q2) fun iv s3 ⟨y, H3, I3, ry, a, dx, fs, ex, ha, q⟩ => ?_) sw
  subst ex
  obtain rfl : u = Value.ref a := rx
  obtain ⟨mA, O, _⟩ := ins_get I3.hok ha
  obtain ⟨od, J, _⟩ := O.look
  refine wp_ownPut I3.kIn J hq hs hf (wpAny_mono (run_fn (us := [.ref a, iv, r]) (vs := [.ref a, y, v]) F (hr.mono (Nat.le_succ n)) hb .nil hx I3 (.cons rfl (.cons ry (.cons rv .nil))) q) (fun w s' z => ?_) fun _ _ z => z)
  obtain ⟨z', H', I', _, qz⟩ := z
  exact ⟨σ, H', I', qz⟩
theorem pi_zipAK {K : PySem.W.Frag} {e e2 : Expr} {ta : TA} {p pos tpos : Pos} {elts : List Expr} {kk : Nat} (hK : X.K = K) (hg : Gl X "zip") (hm : X.mg "zip" = none) (ha : PA X [e, e2] ta)
    (hs : starEach [e, e2] X.env = (false, eval e X.env) :: starEach [e2] X.env := by rfl) (hpl : (backTo pos (starEach [e2] X.env)).any (·.1) = false := by rfl) :
    PI X (.Tuple elts kk tpos) (.Call (.Name "zip" p) [e, e2] [] pos) (RZ.iZipA K ta) := by subst hK; exact RZ.pi_zipA hg hm ha hs hpl
end
/-- the loop over two tuples side by side, whatever its body -/
theorem zipT_loop {K : PySem.W.Frag} {a b : Addr} {xs ys : List V} {Qd : Hp → Prop} {H0 : Hp} {B : V → Hp → (Hp → Prop) → Prop} (he : xs.length = ys.length) (Pv : Nat → Hp → Prop) (h0 : Pv 0 H0) (hl : ∀ i H, i ≤ xs.length → Pv i H → SqT K H a xs ∧ SqT K H b ys)
    (hs : ∀ i x y T H, xs[i]? = some x → ys[i]? = some y → H T = none → Pv i H → B (.ref T) (upd H T (.tup [x, y])) (Pv (i + 1))) (hd : ∀ H, Pv xs.length H → Qd H) :
    ∃ W : Nat → Nat → Hp → Prop, (∃ m, W 0 m H0) ∧ ∀ i m H, W i m H → ((RZ.ItzT K a b).stop i H ∧ Qd H) ∨ ((RZ.ItzT K a b).go i H ∧ ∃ Nx : Hp → Prop, (∀ H', Nx H' → ∃ m', m' < m ∧ W (i + 1) m' H') ∧ ∀ x H', (RZ.ItzT K a b).yld i H x H' → B x H' Nx) := by
  refine ⟨fun i m H => m = xs.length - i ∧ i ≤ xs.length ∧ Pv i H, ⟨_, rfl, Nat.zero_le _, h0⟩, ?_⟩
  rintro i m H ⟨rfl, hi, p⟩
  obtain ⟨q1, q2⟩ := hl i H hi p
  by_cases hlt : i < xs.length
  · refine .inr ⟨⟨xs, ys, xs[i], ys[i]'(by omega), q1, q2, by simp [hlt], List.getElem?_eq_getElem _⟩, Pv (i + 1), fun H' p' => ⟨xs.length - (i + 1), by omega, rfl, hlt, p'⟩, fun x H' y => ?_⟩
    obtain ⟨T, u, v, rfl, hT, rfl, z1, z2⟩ := y
    exact hs i u v T _ (z1 xs q1) (z2 ys q2) hT p
  · have e : i = xs.length := by omega
    subst e
    exact .inl ⟨⟨xs, ys, q1, q2, .inl (Nat.le_refl _)⟩, hd H p⟩
/-- keys of pairs -/
def idk (p : IP) : List Key := [.inl p.1, .inl p.2]
theorem idk_inj {p q : IP} (h : idk p = idk q) : p = q := by
  unfold idk at h
  injection h with h1 h2
  injection h2 with h2 _
  exact Prod.ext (Sum.inl.inj h1) (Sum.inl.inj h2)
theorem idk_kV (p : IP) : (idk p).map kV = [.int p.1, .int p.2] := rfl
/-- a dict of whole numbers by pairs -/
def DN (kvs : List (List Key × V)) (N : IP → Option Int) : Prop := ∀ p : IP, valV kvs (idk p) = (N p).map V.int
def shownN (l : List IP) (N : IP → Option Int) : IP → Option Int := fun x => if x ∈ l then some ((N x).getD 0) else none
theorem DN.put {kvs : List (List Key × V)} {N : IP → Option Int} (h : DN kvs N) (p : IP) (w : Int) : DN (putK kvs (idk p) (.int w)) (fun x => if x = p then some w else N x) := fun x => by
  rw [valV_put]
  dsimp only
  by_cases c : x = p
  · rw [if_pos (by rw [c]), if_pos c]
    rfl
  · rw [if_neg (fun z => c (idk_inj z)), if_neg c]
    exact h x
theorem DN.show {kvs : List (List Key × V)} {N : IP → Option Int} {l : List IP} {n : IP} (h : DN kvs (shownN l N)) : DN (putK kvs (idk n) (.int ((N n).getD 0))) (shownN (l ++ [n]) N) := fun x => by
  rw [h.put n _ x]
  unfold shownN
  dsimp only
  by_cases c : x = n
  · subst c
    rw [if_pos rfl, if_pos (List.mem_append_right _ (List.mem_singleton.mpr rfl))]
  · rw [if_neg c]
    by_cases d : x ∈ l
    · rw [if_pos d, if_pos (List.mem_append_left _ d)]
    · rw [if_neg d, if_neg (fun z => (List.mem_append.mp z).elim d fun e => c (List.mem_singleton.mp e))]
theorem putK_len {κ : Type} [DecidableEq κ] {c : List (κ × V)} {k : κ} {x y : V} (h : valV c k = some y) : (putK c k x).length = c.length := by
  unfold putK
  rw [if_pos]
  · exact List.length_map _
  · unfold valV at h
    obtain ⟨q, hq, _⟩ := Option.map_eq_some_iff.mp h
    have hq2 := List.find?_some (p := fun kv : κ × V => decide (kv.1 = k)) hq
    exact List.any_eq_true.mpr ⟨q, List.mem_of_find?_eq_some hq, hq2⟩
theorem putK_more {κ : Type} [DecidableEq κ] (c : List (κ × V)) (k : κ) (x : V) : (putK c k x).length ≤ c.length + 1 := by
  unfold putK
  split
  · rw [List.length_map]; omega
  · rw [List.length_append]; exact Nat.le_refl _
end D

namespace D
open PySem PySem.Spec PyProof.Rows L2
section
variable {X : Cx} {es : List Expr} {t : TA} {pos : Pos}
theorem pe_notTK {K : PySem.W.Frag} {a : Expr} {ta : TE} (hK : X.K = K) (ha : PE X a ta) : PE X (.UnaryOp .Not a pos) (tNotT K ta) := by subst hK; exact pe_notT ha
/-- a written tuple, known to its object -/
def tTupF (t : TA) : TE := fun σ H Q => t σ H fun xs H1 => xs.length ≤ sizeLine ∧ ∀ p o, H1 p = none → o.cls = .type "tuple" → o.dict = none → Q (.ref p) (upd H1 p (.frz o (.tup xs)))
theorem pe_tupF {x1} (h : PA X es t) : PE X (.Tuple es x1 pos) (tTupF t) := by
  refine ⟨fun held st sl G C J want => ?_⟩
  refine wpAny_Tuple_spliced (thn (h.run pos held st sl G _ J want) fun vals st2 ⟨items, G2, J2, rel, fits, fin⟩ => ⟨by rw [← rel.length]; exact fits, ?_⟩)
  have unused : G2 st2.heap.objs.size = none := J2.hok.fresh (Nat.le_refl _)
  let made : Obj := { cls := .type "tuple", data := .seq vals.toArray }
  refine ⟨.ref st2.heap.objs.size, upd G2 st2.heap.objs.size (.frz made (.tup items)), J2.laid (t' := st2.toks) (fun _ _ old => Heap.get?_push_of_some _ old) (Nat.le_refl _) ?_, rfl, fin _ made unused rfl rfl⟩
  exact (show ObjOk X.prog X.w _ _ _ (.frz made (.tup items)) from ⟨Heap.get?_push_size _ rfl, fits, vals, rel, ⟨_, Heap.get?_push_size _ rfl, rfl, _, rfl⟩⟩)
/-- t + u, known to its object -/
def rCatF (K : PySem.W.Frag) : R2 := fun x y H Q => ∃ a b xs ys, x = .ref a ∧ y = .ref b ∧ SqT K H a xs ∧ SqT K H b ys ∧ xs.length + ys.length ≤ sizeLine ∧
  (xs = [] → Q (.ref b) H) ∧ (xs ≠ [] → ys = [] → Q (.ref a) H) ∧ (xs ≠ [] → ys ≠ [] → ∀ p o, H p = none → o.cls = .type "tuple" → o.dict = none → Q (.ref p) (upd H p (.frz o (.tup (xs ++ ys)))))
theorem op_catF {K : PySem.W.Frag} (hK : X.K = K) : OpR X (binaryOp .Add) (rCatF K) := by
  subst hK
  intro held st sl G x y v u C J relx rely want
  obtain ⟨one', two, left, right, rfl, rfl, readL, readR, fits, none1, none2, both⟩ := want
  by_cases emp : left = []
  · exact op_catA held st sl G _ _ v u C J relx rely ⟨one', two, left, right, rfl, rfl, readL, readR, fits, none1, fun no => absurd emp no, fun no => absurd emp no⟩
  cases relx
  cases rely
  obtain ⟨itemsL, relL, tupL, _⟩ := J.tuple readL
  obtain ⟨itemsR, relR, tupR, _⟩ := J.tuple readR
  refine HT.cat_tup tupL tupR (fun no => emp (relL.nil_iff.mp no)) (fun no => ⟨.ref one', G, J, rfl, none2 emp (relR.nil_iff.mp no)⟩) (fun full => ?_) (by rw [← relL.length, ← relR.length]; exact fits)
  let made : Obj := { cls := .type "tuple", data := .seq (itemsL ++ itemsR).toArray }
  refine ⟨.ref st.heap.objs.size, _, J.laid (t' := st.toks) (o := .frz made (.tup (left ++ right))) (fun _ _ old => Heap.get?_push_of_some _ old) (Nat.le_refl _) ?_, rfl, both emp (fun no => full (relR.nil_iff.mpr no)) _ made (J.hok.fresh (Nat.le_refl _)) rfl rfl⟩
  exact ⟨Heap.get?_push_size _ rfl, by rw [List.length_append]; exact fits, _, relL.append relR, IsTup.new _ _⟩
theorem dcG_core {pins : List (Addr × Obj)} {s : Shared} {σ : L2.St} {H : Hp} {Q : VK} {O : Addr → HO} {Put : Addr → (Hp → Prop) → V → V → Hp → Prop} {kx vx tgt it : Expr} {ifs : List Expr} {sc : Scope} {own : List (Str × Nat)} {pos pos' : Pos} {walk : TI} {g : TG} {tt : TT} {tk tv : TE} {use : Option (Value → Sem Unit)} {Qf : Value → Shared → Prop}
    (mk0 : ∀ (H : Hp) (h : Heap), sysModules < h.objs.size → ObjOk X.prog X.w H (h.push { cls := .type "dict", data := .dict #[] }) h.objs.size (O h.objs.size)) (store : Stores X Put) (calm : X.calm = true) (nod : X.N.Nodup) (I : Inv X pins σ H s)
    (pi : PI X tgt it walk) (bo : BlkOk X.N X.env.scope sc own) (pg : InBlk X sc fun B => PG B tgt g) (pt : InBlk X sc fun B => PTs B ifs tt) (pk : InBlk X sc fun B => PE B kx tk) (pv : InBlk X sc fun B => PE B vx tv)
    (plain : ∀ x, foldedSetIterable it X.env x = pure x) (h : tDcG O Put walk g tt tk tv (own.map (·.2)) σ H Q)
    (behind : ∀ made frame st names G, Inv X pins σ G st → Q (.ref made) G → st.heap.Ns frame names → FpOk X pins G frame → compPost (model X.prog X.w) X.A X.xe use Qf (.ref made) frame (.ok .next) st) :
    wpAny (model X.prog X.w) X.A (comprehension (.DictComp kx vx [⟨tgt, it, ifs, 0⟩] sc pos) sc X.env pos' newDict false (eval it X.env) use) Qf X.xe s := by
  have free : ∀ y ∈ sc.names, y.2 = .free → ∃ c, X.env.cells.lookup y.1 = some c := fun y hy e => (bo.free y hy e).elim (fun k => I.ok.has _ (.inl k)) fun k => I.ok.has _ (.inr k)
  refine wpAny_comprehension_free (use := use) rfl plain (closure_ok free) bo.kind (fun y hy e => by rw [bo.uniq y hy, e]) ?_
  -- what is walked, then the empty dict
  refine thn (pi.run pins s σ H _ I h) fun xv s1 hx => thn hx ?_
  rintro itv s2 ⟨ad, feet, tn, J, H2, rfl, I2, T, at2, ft2, q⟩
  refine wpAny_newObj_type (newEnv_comp ?_)
  have fresh : H2 s2.heap.objs.size = none := I2.hok.fresh (Nat.le_refl _)
  obtain ⟨W, ⟨m0, w0⟩, turn⟩ := q _ fresh
  let s3 : Shared := { s2 with heap := s2.heap.push { cls := .type "dict", data := .dict #[] } }
  let D : Addr := s2.heap.objs.size
  let H3 : Hp := upd H2 D (O D)
  let L : Addr := s3.heap.objs.size
  let e3 : Env := compEnvC sc (cellsFrom (L + 1) sc.names (cloFrom X.env.cells sc.names [])) L X.env
  let s4 : Shared := { s3 with heap := pushCells (s3.heap.push { cls := .type "dict", data := .dict #[] }) sc.names }
  have I3 : Inv X pins σ H3 s3 := I2.laid (t' := s2.toks) (fun _ _ e => Heap.get?_push_of_some _ e) (Nat.le_refl _) (mk0 _ s2.heap I2.big)
  have grown : ∀ b o, s2.heap.get? b = some o → s3.heap.get? b = some o := fun _ _ e => Heap.get?_push_of_some _ e
  have low : ∀ b ∈ feet, b < s2.heap.objs.size := fun b hb => Heap.lt_size (T.obj _ _ at2 b hb).choose_spec.1
  have ft3 : ∀ b ∈ feet, FpOk X pins H3 b ∧ b < s3.heap.objs.size := fun b hb => ⟨⟨(upd_ne (Nat.ne_of_lt (low b hb))).trans (ft2 b hb).1, (ft2 b hb).2⟩, by show b < (s2.heap.push _).objs.size; rw [Heap.size_push]; exact Nat.lt_succ_of_lt (low b hb)⟩
  have at3 : tn 0 s3.heap := T.keep _ _ _ at2 fun b _ o e => grown b o e
  have I4 : Inv (X.blk s3 H3 sc e3 feet) [] (wipe σ (own.map (·.2))) H3 s4 := block_start I3 bo nod ft3
  have at4 : tn 0 s4.heap := T.keep _ _ _ at3 fun b _ o e => pushCells_keeps _ _ _ _ (Heap.get?_push_of_some _ e)
  -- the walker's own objects in the block's context
  have foot : ∀ {σ' : L2.St} {G : Hp} {t : Shared}, Inv (X.blk s3 H3 sc e3 feet) [] σ' G t → (∀ b ∈ feet, G b = none) → ∀ b ∈ feet, FpOk (X.blk s3 H3 sc e3 feet) [] G b := by
    intro σ' G t J' none b hb
    refine ⟨none b hb, (J'.ok.exf b hb).1, J'.ok.exfs b hb, .inl hb, fun x c e => (J'.ok.exf b hb).2 x c e, ?_⟩
    intro p hp
    exact nomatch (show p ∈ ([] : List (Addr × Obj)) from by simpa using hp)
  have loop : codeAny (model X.prog X.w) X.A (.compLoop (.DictComp kx vx [⟨tgt, it, ifs, 0⟩] sc pos) 0 (.ref ad) (.ref D) e3) (compPost (model X.prog X.w) X.A X.xe use Qf (.ref D) L) s4 := by
    refine compLoop_anyD (fun n t => ∃ i G, Inv (X.blk s3 H3 sc e3 feet) [] (wipe σ (own.map (·.2))) G t ∧ tn i t.heap ∧ (∀ b ∈ feet, G b = none) ∧ W i n G) ?_ m0 ⟨0, H3, I4, at4, fun b hb => (ft3 b hb).1.1, w0⟩
    rintro n t ⟨i, G, IG, atG, nG, wG⟩
    obtain ⟨stop, fin⟩ | ⟨go, N, less, step⟩ := turn i n G wG
    · refine thnF (T.done (X.blk s3 H3 sc e3 feet) rfl rfl rfl calm i [] t _ G (fun _ _ => False) IG (foot IG nG) atG stop) ?_
      rintro r t6 ⟨rfl, I6⟩
      have I7 : Inv X pins σ G t6 := I3.call' (ch := feet) I6.os I6.base I6.hok I6.bare fun b hb => let z := (ft3 b hb).1.2; ⟨z.2.2.1, z.1, z.2.2.2.1, z.2.2.2.2⟩
      obtain ⟨m, names, _⟩ := I6.loc
      exact behind D L t6 m G I7 fin names (I3.fpOk (Nat.le_refl _) (show G L = none from I6.free))
    · refine thnF (T.item (X.blk s3 H3 sc e3 feet) rfl rfl rfl calm i [] t _ G (fun _ _ => False) IG (foot IG nG) atG go) ?_
      rintro r t6 ⟨u, rfl, h6⟩
      refine thnF h6 ?_
      rintro _ t7 ⟨x, G7, I7, r7, y7, at7, n7⟩
      refine thnF ((pg _ _ _ _ _).run _ t7 _ G7 x u _ (I7.pinned (foot I7 n7) (T.obj _ _ at7)) r7 (step x G7 y7)) ?_
      rintro _ t8 ⟨σ8, G8, I8, wp8, q8⟩
      refine thnF ((pt _ _ _ _ _).run _ t8 σ8 G8 _ I8 q8) ?_
      rintro b t9 ⟨G9, I9, q9⟩
      have back : ∀ {t' : Shared} {G' : Hp}, Inv (X.blk s3 H3 sc e3 feet) ([] ++ pinsAt feet t7.heap) σ8 G' t' → N G' → ∃ m, m < n ∧ ∃ i G, Inv (X.blk s3 H3 sc e3 feet) [] (wipe σ (own.map (·.2))) G t' ∧ tn i t'.heap ∧ (∀ b ∈ feet, G b = none) ∧ W i m G := by
        intro t' G' I' nx
        obtain ⟨m', lt, w'⟩ := less G' nx
        have held : ∀ b ∈ feet, ∀ o, t7.heap.get? b = some o → t'.heap.get? b = some o ∧ G' b = none := fun b hb o e => let z := I'.pin (b, o) (List.mem_append_right _ (List.mem_append_right _ (mem_pinsAt hb e))); ⟨z.1, z.2.1⟩
        refine ⟨m', lt, i + 1, G', I'.unpinned.weak (by rw [← wp8, wipe_length]) fun j v e => ?_, T.keep _ _ _ at7 fun b hb o e => (held b hb o e).1, fun b hb => ?_, w'⟩
        · exact (wipe_some (wp8 ▸ e)).1
        · obtain ⟨o, e, _⟩ := T.obj _ _ at7 b hb
          exact (held b hb o e).2
      by_cases yes : b = true
      · subst yes
        refine thnF ((pk _ _ _ _ _).run _ t9 σ8 G9 _ I9 q9) ?_
        rintro ku t10 ⟨ky, G10, I10, r10, q10⟩
        refine thnF ((pv _ _ _ _ _).run _ t10 σ8 G10 _ I10 q10) ?_
        rintro vu t11 ⟨vy, G11, I11, r11, putting⟩
        exact store (X.blk s3 H3 sc e3 feet) _ _ _ _ _ _ _ _ _ _ _ _ rfl rfl rfl rfl I11 putting r10 r11 fun t12 G12 I12 nx => back I12 nx
      · have no : b = false := by cases b with | true => exact absurd rfl yes | false => rfl
        subst no
        exact back I9 q9
  exact codeAny_compStart_dict loop (T.self X.A 0 _ _ _ at4 loop)
theorem ps_setDcG {i : Nat} {y : Str} {py : Pos} {O : Addr → HO} {Put : Addr → (Hp → Prop) → V → V → Hp → Prop} {kx vx tgt it : Expr} {ifs : List Expr} {sc : Scope} {own : List (Str × Nat)} {pos spos : Pos} {walk : TI} {g : TG} {tt : TT} {tk tv : TE}
    (mk0 : ∀ (H : Hp) (h : Heap), sysModules < h.objs.size → ObjOk X.prog X.w H (h.push { cls := .type "dict", data := .dict #[] }) h.objs.size (O h.objs.size)) (store : Stores X Put) (calm : X.calm = true) (nod : X.N.Nodup) (hy : X.N[i]? = some y) (hyl : X.env.scope.names.lookup y = some .local)
    (hsw : swapsWith (.DictComp kx vx [⟨tgt, it, ifs, 0⟩] sc pos) (some (.Name y py)) spos.line X.env = pure true)
    (pi : PI X tgt it walk) (bo : BlkOk X.N X.env.scope sc own) (pg : InBlk X sc fun B => PG B tgt g) (pt : InBlk X sc fun B => PTs B ifs tt) (pk : InBlk X sc fun B => PE B kx tk) (pv : InBlk X sc fun B => PE B vx tv)
    (plain : ∀ x, foldedSetIterable it X.env x = pure x := by intro _; rfl) :
    PS X (.Assign [.Name y py] (.DictComp kx vx [⟨tgt, it, ifs, 0⟩] sc pos) spos) (tAsg (tDcG O Put walk g tt tk tv (own.map (·.2))) (gName i)) := by
  refine ⟨fun held st sl G ends J want => ?_⟩
  rw [exec_Assign_Name_used _ _ _ _ hsw]
  refine wpAny_bind (wpAny_standAt ?_)
  refine wpAny_bind ?_
  show wpAny _ X.A (do let _ ← comprehension (.DictComp kx vx [⟨tgt, it, ifs, 0⟩] sc pos) sc X.env (firstIterPos [⟨tgt, it, ifs, 0⟩] pos) newDict false (eval it X.env) (some (assign (.Name y py) X.env))) _ _ st
  have want : tDcG O Put walk g tt tk tv (own.map (·.2)) sl G (fun x G1 => gName i x sl G1 ends.nx) := want
  refine wpAny_bind (thn (dcG_core (Qf := fun _ st' => SP X held ends .next st') mk0 store calm nod J pi bo pg pt pk pv plain want fun made frame st2 names G2 J2 fin ns foot => ?_) fun _ _ last => wpAny_pure (wpAny_pure last))
  show wpAny _ _ (assign (.Name y py) X.env (.ref made)) _ _ _
  refine wpAny_assign_Name (store_ok2 (v := V.ref made) J2 nod hy (.inl hyl) rfl (fun st3 J3 ⟨place, same, way⟩ => ?_) (.inr hyl))
  obtain ⟨c0, c1, c2, c3, c4, c5⟩ := foot
  have apart : frame ≠ place := by
    rcases way with way | way
    · rw [way]; exact c1
    · exact fun e => c4 y place way e.symm
  refine ⟨names, ns.sameBut same apart, fun st4 same4 => ?_⟩
  exact ⟨_, G2, J3.turned (t' := st3.toks) (fun b _ out e => (same4.2 b out).trans e) c0 c1 c3 c4 c5, fin⟩
theorem sw_trueD {kx vx : Expr} {gs : List Comprehension} {scope : Scope} {pos py : Pos} {y : Str} {l : Nat} {env : Env} (hk : env.scope.kind = .function) (hy : env.scope.names.lookup y = some .local) (hl : (py.line == pos.line) = true)
    (ha : (scope.names.any fun (n, k) => n == y && (k == .local || k == .cell)) = false) : swapsWith (.DictComp kx vx gs scope pos) (some (.Name y py)) l env = pure true := by
  have kind : env.kindOf y = some .local := hy
  have block : env.blockKind = .function := by
    unfold Env.blockKind
    rw [hk]
    rfl
  unfold swapsWith
  simp only [block, kind, ha, Expr.pos, hl]
  rfl
theorem ps_setDcX {P : Program} {w : World} (hP : X.prog = P) (hw : X.w = w) {i : Nat} {y : Str} {py : Pos} {kx vx tgt it : Expr} {ifs : List Expr} {sc : Scope} {own : List (Str × Nat)} {pos spos : Pos} {walk : TI} {g : TG} {tt : TT} {tk tv : TE} (hu : X.A.units + 1 < cLine) (calm : X.calm = true) (nod : X.N.Nodup) (hy : X.N[i]? = some y) (hyl : X.env.scope.names.lookup y = some .local)
    (hsw : swapsWith (.DictComp kx vx [⟨tgt, it, ifs, 0⟩] sc pos) (some (.Name y py)) spos.line X.env = pure true)
    (pi : PI X tgt it walk) (bo : BlkOk X.N X.env.scope sc own) (pg : InBlk X sc fun B => PG B tgt g) (pt : InBlk X sc fun B => PTs B ifs tt) (pk : InBlk X sc fun B => PE B kx tk) (pv : InBlk X sc fun B => PE B vx tv)
    (plain : ∀ x, foldedSetIterable it X.env x = pure x := by intro _; rfl) :
    PS X (.Assign [.Name y py] (.DictComp kx vx [⟨tgt, it, ifs, 0⟩] sc pos) spos) (tAsg (tDcX P w walk g tt tk tv (own.map (·.2))) (gName i)) := by
  subst hP hw
  exact ps_setDcG (fun H h b => dXo_empty H h b) (stores_X hu) calm nod hy hyl hsw pi bo pg pt pk pv plain
theorem ps_setDcT {i : Nat} {y : Str} {py : Pos} {kx vx tgt it : Expr} {ifs : List Expr} {sc : Scope} {own : List (Str × Nat)} {pos spos : Pos} {walk : TI} {g : TG} {tt : TT} {tk tv : TE} (hu : X.A.units + 1 < cLine) (calm : X.calm = true) (nod : X.N.Nodup) (hy : X.N[i]? = some y) (hyl : X.env.scope.names.lookup y = some .local)
    (hsw : swapsWith (.DictComp kx vx [⟨tgt, it, ifs, 0⟩] sc pos) (some (.Name y py)) spos.line X.env = pure true)
    (pi : PI X tgt it walk) (bo : BlkOk X.N X.env.scope sc own) (pg : InBlk X sc fun B => PG B tgt g) (pt : InBlk X sc fun B => PTs B ifs tt) (pk : InBlk X sc fun B => PE B kx tk) (pv : InBlk X sc fun B => PE B vx tv)
    (plain : ∀ x, foldedSetIterable it X.env x = pure x := by intro _; rfl) :
    PS X (.Assign [.Name y py] (.DictComp kx vx [⟨tgt, it, ifs, 0⟩] sc pos) spos) (tAsg (tDcT walk g tt tk tv (own.map (·.2))) (gName i)) :=
  ps_setDcG (fun _ h b => dt_empty h b) (stores_T hu) calm nod hy hyl hsw pi bo pg pt pk pv plain
end
/-- a row with one item more -/
theorem cat_row {K : PySem.W.Frag} {M : Ms} {H : Hp} {v u : V} {r : List Int} {x : Int} {Q : VK} (h : RowF M H v r) (hu : RowF M H u [x]) (lr : r.length ≤ 1000) (hM : Mk M H) (q : ∀ z H', Same H H' → RowF M H' z (r ++ [x]) → Q z H') : rCatF K v u H Q := by
  obtain ⟨a, o, rfl, na, ha, h1, h2⟩ := id h
  obtain ⟨b, o2, rfl, nb, hb, h3, h4⟩ := id hu
  refine ⟨a, b, _, _, rfl, rfl, .inl (.inr ⟨o, ha⟩), .inl (.inr ⟨o2, hb⟩), ?_, fun z => ?_, fun _ z => absurd z (by simp), fun z _ p o3 hp h5 h6 => ?_⟩
  · rw [List.length_map]
    exact Nat.le_of_lt (small1000000 (by show _ + 1 ≤ _; omega))
  · have e : r = [] := by simpa using z
    subst e
    exact q _ _ (Same.refl _) hu
  · refine q _ _ (same_new hp) ⟨p, o3, rfl, hM.out hp, ?_, h5, h6⟩
    rw [upd_same, List.map_append]
theorem row_new {M : Ms} {H : Hp} {p : Addr} {o : Obj} {ns : List Int} (hM : Mk M H) (hp : H p = none) (h1 : o.cls = .type "tuple") (h2 : o.dict = none) : RowF M (upd H p (.frz o (.tup (ns.map V.int)))) (.ref p) ns := ⟨p, o, rfl, hM.out hp, upd_same, h1, h2⟩
/-- rows in a list -/
def RowsAt (good : List Int → Prop) (M : Ms) (H : Hp) (xs : List V) (nss : List (List Int)) : Prop := xs.length = nss.length ∧ ∀ (i : Nat) (ns : List Int), nss[i]? = some ns → ∃ w, xs[i]? = some w ∧ RowF M H w ns ∧ good ns
section
variable {good : List Int → Prop} {M : Ms} {H H' : Hp} {xs : List V} {nss : List (List Int)}
theorem RowsAt.get (h : RowsAt good M H xs nss) {i : Nat} {x : V} (hx : xs[i]? = some x) : ∃ ns, nss[i]? = some ns ∧ RowF M H x ns ∧ good ns := by
  have hi : i < nss.length := by rw [← h.1]; exact (List.getElem?_eq_some_iff.mp hx).1
  obtain ⟨w, hw, q, g⟩ := h.2 i _ (List.getElem?_eq_getElem hi)
  rw [hx] at hw
  cases hw
  exact ⟨_, List.getElem?_eq_getElem hi, q, g⟩
theorem RowsAt.mem (h : RowsAt good M H xs nss) {x : V} (hx : x ∈ xs) : ∃ ns, ns ∈ nss ∧ RowF M H x ns ∧ good ns := by
  obtain ⟨i, hi⟩ := List.mem_iff_getElem?.mp hx
  obtain ⟨ns, h1, h2, h3⟩ := h.get hi
  exact ⟨ns, List.mem_of_getElem? h1, h2, h3⟩
theorem RowsAt.sx (h : RowsAt good M H xs nss) (s : Sx M H H') : RowsAt good M H' xs nss := ⟨h.1, fun i ns e => by
  obtain ⟨w, h1, h2, h3⟩ := h.2 i ns e
  exact ⟨w, h1, h2.sx s, h3⟩⟩
theorem RowsAt.nil : RowsAt good M H [] [] := ⟨rfl, fun i ns e => by simp at e⟩
theorem RowsAt.append {ys : List V} {mss : List (List Int)} (h : RowsAt good M H xs nss) (g : RowsAt good M H ys mss) : RowsAt good M H (xs ++ ys) (nss ++ mss) := by
  refine ⟨by rw [List.length_append, List.length_append, h.1, g.1], fun i ns e => ?_⟩
  by_cases c : i < nss.length
  · rw [List.getElem?_append_left c] at e
    rw [List.getElem?_append_left (by rw [h.1]; exact c)]
    exact h.2 i ns e
  · rw [List.getElem?_append_right (by omega)] at e
    rw [List.getElem?_append_right (by rw [h.1]; omega), h.1]
    exact g.2 _ ns e
theorem RowsAt.one {w : V} {ns : List Int} (q : RowF M H w ns) (g : good ns) : RowsAt good M H [w] [ns] := ⟨rfl, fun i ms e => by
  cases i with
  | zero => cases e; exact ⟨w, rfl, q, g⟩
  | succ i => simp at e⟩
theorem RowsAt.less {N : Ms} (h : RowsAt good M H xs nss) (f : ∀ a, N a → M a) : RowsAt good N H xs nss := ⟨h.1, fun i ns e => by
  obtain ⟨w, h1, h2, h3⟩ := h.2 i ns e
  exact ⟨w, h1, h2.less f, h3⟩⟩
theorem RowsAt.fresh {p : Addr} (h : RowsAt good M H xs nss) (hp : H p = none) : RowsAt good (also M p) H xs nss := ⟨h.1, fun i ns e => by
  obtain ⟨w, h1, h2, h3⟩ := h.2 i ns e
  exact ⟨w, h1, h2.fresh hp, h3⟩⟩
end
end D

namespace D
open PySem PySem.Spec PyProof.Rows L2
/-! ### own errors with one field or more -/
section
variable {K : PySem.W.Frag}
/-- __init__ of an error with one field -/
def sp_err1 (K : PySem.W.Frag) (C : Addr) (f : Str) : Sp := fun vs H Q _ => ∃ (a : Addr) (y : V), vs = [.ref a, y] ∧ OexC K C ∧ PySem.W.findIn K (.ref C) f = some none ∧ H a = some (exo a C none) ∧
  ∀ dx, H dx = none → dx ≠ a → Q .non (upd (upd H dx (exd dx [(f, y)])) a (exo a C (some dx)))
theorem made_heap {H : Hp} {a dx : Addr} {o1 o2 o3 o4 : HO} (ha : H a = none) (ne : dx ≠ a) : upd (del (upd (upd (upd H a o1) dx o2) a o3) a) dx o4 = upd H dx o4 := by
  funext b
  by_cases h1 : b = dx
  · rw [h1, upd_same, upd_same]
  · rw [upd_ne h1, upd_ne h1]
    by_cases h2 : b = a
    · rw [h2, del_same, ha]
    · rw [del_ne h2, upd_ne h2, upd_ne h1, upd_ne h2]
/-- the making of an error with one field: what is asked behind its argument -/
theorem mk_err1 {C : Addr} {f : Str} {H : Hp} {v : V} {E : XK} (ox : OexC K C) (no : PySem.W.findIn K (.ref C) f = some none) (h : ∀ d, H d = none → E (.ref C) (some d) (upd H d (.xd [(f, v)]))) :
    [v].length ≤ 1000 ∧ ∀ a, H a = none → sp_err1 K C f (.ref a :: ([v] ++ [])) (upd H a (exo a C none))
      (fun u H2 => u = .non ∧ ∃ (d : Addr) (fs : List (Str × V)), H2 a = some (exo a C (some d)) ∧ H2 d = some (exd d fs) ∧ H d = none ∧ E (.ref C) (some d) (upd (del H2 a) d (.xd fs))) (fun _ _ _ => False) := by
  refine ⟨by show 1 ≤ 1000; decide, fun a ha => ⟨a, v, rfl, ox, no, upd_same, fun dx hdx hne => ⟨rfl, dx, [(f, v)], upd_same, ?_, ?_, ?_⟩⟩⟩
  · rw [upd_ne hne, upd_same]
  · rw [upd_ne hne] at hdx
    exact hdx
  · rw [made_heap ha hne]
    rw [upd_ne hne] at hdx
    exact h dx hdx
/-- __init__ of an error with two fields -/
def sp_err2 (K : PySem.W.Frag) (C : Addr) (f g : Str) : Sp := fun vs H Q _ => ∃ (a : Addr) (y z : V), vs = [.ref a, y, z] ∧ OexC K C ∧ PySem.W.findIn K (.ref C) f = some none ∧ PySem.W.findIn K (.ref C) g = some none ∧ H a = some (exo a C none) ∧
  ∀ dx, H dx = none → dx ≠ a → Q .non (upd (upd (upd H dx (exd dx [(f, y)])) a (exo a C (some dx))) dx (exd dx [(g, z), (f, y)]))
/-- isinstance facts of an error class -/
theorem kit_err {D C : Addr} {b : Bool} (hd : PySem.W.hasDictIn K C = true) (ty : PySem.W.typeIn K (.ref C) = some (.type "type")) (ne : D ≠ C) (h : PySem.W.subIn K (.ref D) (.ref C) = some b) : PySem.W.kitOne K (.ref D) (.ref C) = some b := by
  obtain ⟨cd, hc, _⟩ := PySem.W.any_some hd
  unfold PySem.W.kitOne
  rw [if_neg (by simpa using ne)]
  show (if ((PySem.W.clsIn K C).isSome && PySem.W.typeIn K (.ref C) == some (.type "type")) = true then PySem.W.subIn K (.ref D) (.ref C) else none) = some b
  rw [if_pos (by rw [hc, ty]; rfl), h]
theorem kit_self {D : Addr} : PySem.W.kitOne K (.ref D) (.ref D) = some true := by
  unfold PySem.W.kitOne
  rw [if_pos (beq_self_eq_true _)]
theorem kit_ty2 {D : Addr} {t : String} {b : Bool} (m : PySem.W.kitMeta t = true) (h : PySem.W.subIn K (.ref D) (.type t) = some b) : PySem.W.kitOne K (.ref D) (.type t) = some b := by
  unfold PySem.W.kitOne
  rw [if_neg (fun z => nomatch (beq_iff_eq.mp z : Value.ref D = Value.type t))]
  show (if PySem.W.kitMeta t = true then PySem.W.subIn K (.ref D) (.type t) else none) = some b
  rw [if_pos m, h]
end
section
variable {X : Cx} {C g : Addr} {n : Nat} {CX : CXT} {sp : Sp} {E : L2.St → XK} {fd : FuncData} {ps : List Str}
/-- isinstance(e, c), e the error that the suite holds -/
def rIsX (K : PySem.W.Frag) (cls : Value) (d : Option Addr) (a : Addr) : List V → Hp → VK → Prop := fun xs H Q => ∃ (D dd : Addr) (fs : List (Str × V)) (c : V) (cv : Value) (b : Bool), cls = .ref D ∧ d = some dd ∧ ExcC K D ∧ H dd = some (.xd fs) ∧
  xs = [.ref a, c] ∧ (∀ u, RelV c u → u = cv) ∧ PySem.W.kitOne K (.ref D) cv = some b ∧ Q (.bl b) H
theorem inst_exc {X : Cx} {pins : List (Addr × Obj)} {σ : L2.St} {H : Hp} {s : Shared} {a D dd : Addr} {oe : Obj} {fs : List (Str × V)} (I : Inv X pins σ H s) (get : s.heap.get? a = some oe) (hz : Zc (.ref D) (some dd) oe) (hf : ∃ vs, oe.data = .fields vs) (ed : H dd = some (.xd fs)) :
    ∃ od, PySem.W.InstAt s.heap a oe D (some od) := by
  have there : ObjOk X.prog X.w H s.heap dd (.xd fs) := I.hok dd _ ed
  obtain ⟨mA, hns, _⟩ := there
  obtain ⟨od, ho, _⟩ := lookIn_ns hns
  obtain ⟨vs, hd⟩ := hf
  exact ⟨od, get, hz.1, by unfold PySem.W.notCls; rw [hd] <;> rfl, by rw [hz.2]; exact ho⟩
theorem call_isX {a : Addr} {oe : Obj} {cls : Value} {d : Option Addr} {pn : List (Addr × Obj)} (hz : Zc cls d oe) (hf : ∃ vs, oe.data = .fields vs) : CallR (X.suite a ((a, oe) :: pn)) (.builtin "isinstance") (rIsX X.K cls d a) := by
  intro held s sl G args vals want J rel h
  obtain ⟨D, dd, fs, c, cv, b, rfl, rfl, EC, ed, rfl, known, kit, q⟩ := h
  match vals, rel with
  | [_, _], .cons rx (.cons rt .nil) =>
    cases rx
    have ec := known _ rt
    subst ec
    obtain ⟨get, _⟩ := J.pin (a, oe) (List.mem_append.mpr (.inl List.mem_cons_self))
    obtain ⟨od, inst⟩ := inst_exc J get hz hf ed
    obtain ⟨cdD, hcD, _⟩ := PySem.W.any_some EC.hd
    exact PySem.W.kia_one (PySem.W.kitx_exc (by rw [hcD]; rfl) EC.hg EC.hk EC.hs EC.ha EC.hn EC.ht EC.hm) J.kIn inst kit (fun z => nomatch z) fun tk => ⟨.bl b, G, J.kept (t' := tk) fun _ _ z => z, rfl, q⟩
/-- isinstance(e, (c, ..)) -/
def rIsXT (K : PySem.W.Frag) (cls : Value) (d : Option Addr) (a : Addr) : List V → Hp → VK → Prop := fun xs H Q => ∃ (D dd p : Addr) (fs : List (Str × V)) (cs : List Addr) (b : Bool), cls = .ref D ∧ d = some dd ∧ ExcC K D ∧ H dd = some (.xd fs) ∧
  xs = [.ref a, .ref p] ∧ H p = some (.tup (cs.map V.ref)) ∧ PySem.W.kitAny K (.ref D) (cs.map Value.ref) = some b ∧ Q (.bl b) H
theorem vals_refs : ∀ {cs : List Addr} {vals : List Value}, Vals (cs.map V.ref) vals → vals = cs.map Value.ref
  | [], _, .nil => rfl
  | c :: r, _, .cons h t => by
    cases h
    rw [vals_refs t]
    rfl
theorem call_isXT {a : Addr} {oe : Obj} {cls : Value} {d : Option Addr} {pn : List (Addr × Obj)} (hz : Zc cls d oe) (hf : ∃ vs, oe.data = .fields vs) : CallR (X.suite a ((a, oe) :: pn)) (.builtin "isinstance") (rIsXT X.K cls d a) := by
  intro held s sl G args vals want J rel h
  obtain ⟨D, dd, p, fs, cs, b, rfl, rfl, EC, ed, rfl, tup, kit, q⟩ := h
  match vals, rel with
  | [_, _], .cons rx (.cons rt .nil) =>
    cases rx
    cases rt
    obtain ⟨get, _⟩ := J.pin (a, oe) (List.mem_append.mpr (.inl List.mem_cons_self))
    obtain ⟨od, inst⟩ := inst_exc J get hz hf ed
    obtain ⟨cdD, hcD, _⟩ := PySem.W.any_some EC.hd
    obtain ⟨_, its, rv, ⟨⟨tc, tdict, tdata, tslots⟩, ho, hc, m, hd⟩⟩ := (show ObjOk X.prog X.w G s.heap p (.tup (cs.map V.ref)) from J.hok p _ tup)
    dsimp only at hc hd
    subst hc hd
    have ei := vals_refs rv
    subst ei
    exact PySem.W.kia_tup (PySem.W.kitx_exc (by rw [hcD]; rfl) EC.hg EC.hk EC.hs EC.ha EC.hn EC.ht EC.hm) J.kIn inst ho kit (fun z => nomatch z) fun tk => ⟨.bl b, G, J.kept (t' := tk) fun _ _ z => z, rfl, q⟩
/-! ### what may raise within a try -/
/-- a def is run one step in, what it raises goes on -/
theorem run_in1S {pins : List (Addr × Obj)} {σ : L2.St} {H : Hp} {s : Shared} {Q : VK} {us : List Value} {vs : List V} (F : FnOk X.prog X.w X.K X.mg X.base CX n g fd ps sp) (hr : Room (n + 1) X.A) (hb : Binds X.K fd ps []) (hx : PassesAt CX X σ (E σ))
    (I : Inv X pins σ H s) (r : Vals vs us) (h : sp vs H Q (E σ)) : wpAny (model X.prog X.w) X.A.in1 (call (.ref g) us) (EP X pins σ Q) X.xe s := by
  have size : (us ++ []).length = ps.length := by rw [List.append_nil, ← r.length]; exact F.len _ _ _ _ h
  have bd := hb s us I.kIn size
  rw [List.append_nil] at bd
  refine wpAny_call (codeAny_mono (F.run X.A.in1 X.stack s H ⟨us, []⟩ us vs Q (E σ) (room_in1 hr) I.env0.in1 bd r h) fun out s' told => ?_)
  match out, told with
  | .error e, told => exact hx pins H s e s' I told
  | .ok (.ret u), told => exact I.after told
  | .ok .next, told => exact False.elim told
  | .ok .brk, told => exact False.elim told
  | .ok .cont, told => exact False.elim told
def tOwnIxS (C : Addr) (sp : Sp) (E : L2.St → XK) (to ti : TE) : TE := fun σ H Q => to σ H fun x H1 => ti σ H1 fun y H2 => ∃ a dx fs, x = .ref a ∧ H2 a = some (.ins C dx fs) ∧ sp [x, y] H2 Q (E σ)
theorem pe_ownIxS {o i : Expr} {to ti : TE} {pos : Pos} (ho : PE X o to) (hi : PE X i ti) (hs : PySem.W.findIn X.K (.ref C) "__getitem__" = some (some (.ref g))) (hf : PySem.W.fnIn X.K g = true) (hg : PySem.W.isFn X.K (.ref g) = true)
    (F : FnOk X.prog X.w X.K X.mg X.base CX n g fd ps sp) (hb : Binds X.K fd ps []) (hr : Room (n + 1) X.A) (hx : ∀ σ, PassesAt CX X σ (E σ))
    (hsl : ∀ ov iv, subscripted i true ov iv = runValue (.builtin "lifetime.subscript" ⟨[ov, iv], []⟩)) : PE X (.Subscript o i pos) (tOwnIxS C sp E to ti) := by
  refine ⟨fun pins s σ H Q I h => ?_⟩
  refine Subscript_ (thn (ho.run pins s σ H _ I h) fun ov s1 ⟨x, H1, I1, rx, q1⟩ => thn (hi.run pins s1 σ H1 _ I1 q1) fun iv s2 ⟨y, H2, I2, ry, a, dx, fs, ex, ha, q⟩ => ?_)
  subst ex
  obtain rfl : ov = Value.ref a := rx
  obtain ⟨mA, O, _⟩ := ins_get I2.hok ha
  obtain ⟨od, J, _⟩ := O.look
  obtain ⟨m, hF⟩ := I2.fr
  exact PySem.W.sub_K hF I2.ok.mod.kin J hs hf hg (run_in1S (us := [.ref a, iv]) (vs := [.ref a, y]) F hr hb (hx σ) I2 (.cons rfl (.cons ry .nil)) q) (hsl _ _)
/-- a method that may raise -/
def tMethS (C : Addr) (m : Str) (sp : Sp) (E : L2.St → XK) (ta : TE) (t : TA) : TE := fun σ H Q => ta σ H fun x H1 => ∃ a dx fs, x = .ref a ∧ H1 a = some (.ins C dx fs) ∧ fs.lookup m = none ∧ t σ H1 fun vs H2 => sp (x :: vs) H2 Q (E σ)
theorem pe_methS {o e : Expr} {es : List Expr} {m : Str} {f : Addr} {pos apos : Pos} {ta : TE} {t : TA} {pl : Sem Bool} (he : PE X o ta) (c : Cls X.K C) (hm : Meth X.K C m f) (F : FnOk X.prog X.w X.K X.mg X.base CX n f fd ps sp) (hr : Room n X.A) (hb : Binds X.K fd ps []) (hx : ∀ σ, PassesAt CX X σ (E σ)) (ha : PA X (e :: es) t)
    (hst : starEach (e :: es) X.env = (false, eval e X.env) :: starEach es X.env := by rfl) (hpl : (backTo pos (starEach es X.env)).any (·.1) = false := by rfl)
    (ht : eval (.Call (.Attribute o m apos) (e :: es) [] pos) X.env = (do
      let ov ← eval o X.env
      standAt apos.atName
      let (f, first) ← holding [ov] (getMethod ov m pl)
      callWith pos f first (backTo pos (starEach (e :: es) X.env)) (backToKw pos (keywordEach [] X.env))) := by rfl) :
    PE X (.Call (.Attribute o m apos) (e :: es) [] pos) (tMethS C m sp E ta t) := by
  refine ⟨fun held st sl G want J told => ?_⟩
  refine PySem.W.methodCall_KW (pl := pl) (thn (he.run held st sl G _ J told) fun u st1 ⟨x, G1, J1, rx, a, dx, fs, ex, ea, l, q⟩ => ?_) ht
  subst ex
  obtain rfl : u = Value.ref a := rx
  refine getmeth_ok J1 ea c hm l (PySem.W.callWith_K (first := [.ref a]) (h₀ := X.base) J1.ok.mod.kin hm.kp (thn (ha.run pos held st1 sl G1 _ J1 q) fun vals st2 ⟨vs, G2, J2, rel, q2⟩ => ⟨J2.kIn, ?_⟩) hst hpl)
  exact run_fnS (us := .ref a :: vals) (vs := .ref a :: vs) F hr hb (hx sl) J2 (.cons rfl rel) q2
/-- x[i] = v, an own def's store that may raise -/
def sOwnPutS (C : Addr) (sp : Sp) (E : L2.St → XK) (to ti tv : TE) : TS := fun D σ H => tv σ H fun v H1 => to σ H1 fun x H2 => ti σ H2 fun y H3 => ∃ a dx fs, x = .ref a ∧ H3 a = some (.ins C dx fs) ∧ sp [x, y, v] H3 (fun _ H4 => D.nx σ H4) (E σ)
theorem ps_ownPutS {o i value : Expr} {pos pos' : Pos} {to ti tv : TE} (ho : PE X o to) (hi : PE X i ti) (hv : PE X value tv) (hq : PySem.W.noSeq X.K C = true) (hs : PySem.W.findIn X.K (.ref C) "__setitem__" = some (some (.ref g))) (hf : PySem.W.isFn X.K (.ref g) = true)
    (F : FnOk X.prog X.w X.K X.mg X.base CX n g fd ps sp) (hb : Binds X.K fd ps []) (hr : Room (n + 1) X.A) (hx : ∀ σ, PassesAt CX X σ (E σ)) (sw : swapsWith value (some (.Subscript o i pos')) pos.line X.env = pure false) :
    PS X (.Assign [.Subscript o i pos'] value pos) (sOwnPutS C sp E to ti tv) := by
  refine ⟨fun pins s σ H D I h => ?_⟩
  refine wpAny_Assign_Subscript (thn (hv.run pins s σ H _ I h) fun r s1 ⟨v, H1, I1, rv, q1⟩ => thn (ho.run pins s1 σ H1 _ I1 q1) fun u s2 ⟨x, H2, I2, rx, q2⟩ => thn (hi.run pins s2 σ H2 _ I2 q2) fun iv s3 ⟨y, H3, I3, ry, a, dx, fs, ex, ha, q⟩ => ?_) sw
  subst ex
  obtain rfl : u = Value.ref a := rx
  obtain ⟨mA, O, _⟩ := ins_get I3.hok ha
  obtain ⟨od, J, _⟩ := O.look
  refine wp_ownPut I3.kIn J hq hs hf (wpAny_mono (run_fnS (us := [.ref a, iv, r]) (vs := [.ref a, y, v]) F (hr.mono (Nat.le_succ n)) hb (hx σ) I3 (.cons rfl (.cons ry (.cons rv .nil))) q) (fun w s' z => ?_) fun _ _ z => z)
  obtain ⟨z', H', I', _, qz⟩ := z
  exact ⟨σ, H', I', qz⟩
end
end D

namespace D
open PySem PySem.Spec PyProof.Rows L2
/-! ### list(o), o of an own class whose __iter__ hands an iterator over a tuple out -/
/-- at it an iterator over the tuple at t, the next place is i -/
def ItT (t it : Addr) (i : Nat) : HO := .ext fun h => h.IsTupleIter it t i
/-- something stands at it -/
def AnyO (it : Addr) : HO := .ext fun h => ∃ o, h.get? it = some o
section
variable {P : Program} {w : World} {H : Hp} {h : Heap} {t it : Addr} {i : Nat}
theorem itT_ok (e : h.IsTupleIter it t i) : ObjOk P w H h it (ItT t it i) := ⟨e, ⟨_, e.choose_spec.1⟩, fun h1 h2 q k => by
  obtain ⟨o, ho, r⟩ := q
  exact ⟨o, k _ ho, r⟩⟩
theorem any_ok {o : Obj} (e : h.get? it = some o) : ObjOk P w H h it (AnyO it) := ⟨⟨_, e⟩, ⟨_, e⟩, fun h1 h2 q k => by
  obtain ⟨o, ho⟩ := q
  exact ⟨o, k _ ho⟩⟩
end
section
variable {X : Cx} {pins : List (Addr × Obj)} {σ : L2.St} {H : Hp} {s : Shared} {t it : Addr} {i : Nat}
theorem itT_get (I : Inv X pins σ H s) (e : H it = some (ItT t it i)) : s.heap.IsTupleIter it t i := (I.hok it _ e).1
/-- iter(t), t a tuple -/
def rIterT (K : PySem.W.Frag) : List V → Hp → VK → Prop := fun xs H Q => ∃ (t : Addr) (zs : List V), xs = [.ref t] ∧ SqT K H t zs ∧ ∀ it, H it = none → Q (.ref it) (upd H it (ItT t it 0))
theorem call_iterT : CallR X (.builtin "iter") (rIterT X.K) := by
  intro pins s σ H xs us Q I r h
  obtain ⟨t, zs, rfl, hq, q⟩ := h
  obtain rfl := Vals.ref1 r
  obtain ⟨its, rv, ⟨o, ho, hc, n, hd⟩, hz⟩ := I.tuple hq
  refine Calls.call_function_entry (by decide +kernel) (by decide +kernel) PySem.W.kdk_entry_iter (PySem.W.kdk_args_iter _) ?_
  unfold Builtin.«iter»
  refine wpAny_bind (m := someArgs "iter" 1 2 _) (wpAny_of_eq (a := [Value.ref t]) (by first | rfl | kernel_rfl!) ?_)
  show wpAny _ _ (pyIter (.ref t) >>= _) _ _ _
  refine wpAny_bind (wpAny_pyIter_tuple (items := its.toArray) ⟨o, ho, hc, n, hd⟩ ?_)
  refine wpAny_pure ⟨_, rfl, ?_⟩
  exact ⟨.ref s.heap.objs.size, _, I.laid (t' := s.toks) (fun b u e => Heap.get?_push_of_some _ e) (Nat.le_refl _) (itT_ok ⟨_, Heap.get?_push_size _ rfl, rfl, rfl⟩), rfl, q _ (I.hok.fresh (Nat.le_refl _))⟩
end
section
variable {prog : Program} {w : World} {A : Around} {E : Value → Shared → Prop} {s : Shared}
theorem tuple_end2 {it t : Addr} {i : Nat} {items : Array Value} {Q : Option Value → Shared → Prop} (hh : A.handled = none)
    (hit : s.heap.IsTupleIter it t i) (ht : s.heap.IsTuple t items) (hx : items[i]? = none)
    (hQ : ∀ h', (∃ o, h'.get? it = some o) → Heap.ExtBut it s.heap h' → Q none { s with heap := h' }) : wpAny (model prog w) A (pyNext (.ref it)) Q E s := by
  obtain ⟨o, ho, hc, hd⟩ := id hit
  obtain ⟨ol, hol, _, nl, hdl⟩ := ht
  unfold pyNext
  refine wpAny_bind (wpAny_attempt (wpAny_callSpecial?_slot (name := Str.ofString "__next__") hit.typeIs F.slot_tuple_iterator_next
    (wpAny_call_entry F.slot_tuple_iterator_next hit.typeIs F.entry_tuple_iterator_next ?_ (F.args_tuple_iterator_next_1 _))))
  show wpAny _ _ (field (.ref it) 0 >>= _) _ _ s
  refine wpAny_bind (wpAny_field ho hd (x := .ref t) rfl ?_)
  show wpAny _ _ (if (Value.ref t == Value.none) = true then _ else _) _ _ s
  rw [if_neg (show ¬ ((Value.ref t == Value.none) = true) from Bool.false_ne_true)]
  show wpAny _ _ (field (.ref it) 1 >>= _) _ _ s
  refine wpAny_bind (wpAny_field ho hd (x := .int i 0) rfl ?_)
  show wpAny _ _ (seqItems? (.ref t) >>= _) _ _ s
  refine wpAny_bind (wpAny_seqItems hol hdl ?_)
  simp only [Int.toNat_natCast, hx]
  refine wpAny_bind (wpAny_rule (wpAny_bind (wpAny_setField ho hd (by simp) ?_)))
  show wpAny _ _ (newExc (.type "StopIteration") [] >>= _) _ _ _
  refine wpAny_bind ?_
  simp only [newExc, newTuple]
  refine wpAny_bind (wpAny_newObj_type ?_ (by size_fits))
  refine wpAny_bind (m := firstArgMember _ _) (wpAny_of_eq (a := Value.none) (by first | rfl | (simp only [firstArgMember]; rfl)) ?_)
  refine wpAny_newObj_type ?_ (by size_fits)
  simp only [raiseNew]
  refine wpAny_bind (wpAny_handled ?_)
  first | rw [show A.in1.handled = none from hh] | rw [hh]
  refine wpAny_bind (wpAny_pure (wpAny_throw ?_))
  refine wpAny_bind (wpAny_isInstance (T := "StopIteration") (b := true) ⟨_, Heap.get?_push_size _ rfl, rfl⟩ PySem.isSubtype_stop ?_)
  refine wpAny_pure (hQ _ ⟨_, Heap.get?_push_of_some _ (Heap.get?_push_of_some _ (Heap.get?_update_self _ ho (Obj.isFreed_of_fields (Obj.data_mapFields hd _))))⟩ (((Heap.SameBut.update ..).extBut.push _).push _))
end
/-- a class whose instances have an own __iter__, without __len__ and __length_hint__ -/
structure ItK (K : PySem.W.Frag) (C fi : Addr) : Prop where
  it : PySem.W.findIn K (.ref C) "__iter__" = some (some (.ref fi))
  itF : PySem.W.isFn K (.ref fi) = true
  nolen : PySem.W.findIn K (.ref C) "__len__" = some none
  nohint : PySem.W.findIn K (.ref C) "__length_hint__" = some none
section
variable {X : Cx} {pins : List (Addr × Obj)} {σ : L2.St} {H : Hp} {s : Shared}
theorem hintK {M : Model} {A : Around} {E : Value → Shared → Prop} {Q : Bool → Shared → Prop} {K : PySem.W.Frag} {a C fi : Addr} {ox : Obj} {od : Option Obj} (hc : ItK K C fi) (hK : K.In s.heap) (J : PySem.W.InstAt s.heap a ox C od) (h : Q true s) :
    wpAny M A (Builtin.List.listLengthHint (.ref a)) Q E s := by
  unfold Builtin.List.listLengthHint
  refine wpAny_bind (wpAny_bind (J.type.here ((PySem.W.looks_findIn hK hc.nolen).here ?_)))
  refine PySem.W.KFB.if_not rfl ?_
  refine PySem.W.KFB.if_not rfl ?_
  refine wpAny_bind (wpAny_bind (J.type.here ((PySem.W.looks_findIn hK hc.nohint).here ?_)))
  exact wpAny_pure h
theorem it_loop {A1 : Around} {it t q : Addr} {xs : List V} {H0 : Hp} {Rs : Result → Shared → Prop} (hh : A1.handled = none) (nqi : q ≠ it) (nti : t ≠ it) (hT : SqT X.K H0 t xs) (htq : t ≠ q) (hl : xs.length ≤ 1000)
    (hdone : ∀ H s, Inv X pins σ H s → (∀ b, b ≠ it → b ≠ q → H b = H0 b) → H q = some (.lst xs) → H it ≠ none → Rs (.ok (.ret .none)) s) :
    ∀ (k i : Nat) (H : Hp) (s : Shared), xs.length - i = k → i ≤ xs.length → Inv X pins σ H s → (∀ b, b ≠ it → b ≠ q → H b = H0 b) → H q = some (.lst (xs.take i)) → H it = some (ItT t it i) →
      codeAny (model X.prog X.w) A1 (.builtin "list.extend.loop" ⟨[.ref q, .ref it, .none], []⟩) Rs s := by
  intro k
  induction k with
  | zero =>
    intro i H s hk hi I hH hq hit
    have ei : i = xs.length := by omega
    subst ei
    have hT' : SqT X.K H t xs := by
      unfold SqT Rd at hT ⊢
      rw [hH t nti htq]
      exact hT
    obtain ⟨its, rv, pl, hz⟩ := I.tuple hT'
    refine codeAny_builtin PySem.F.entry_extend_loop ?_
    rw [Around.under_plainId PySem.F.plain_extend_loop _]
    show wpAny _ A1.in1 (pyNext (.ref it) >>= _) _ _ s
    refine wpAny_bind (tuple_end2 (items := its.toArray) hh (itT_get I hit) (by obtain ⟨o, ho, hc, n, hd⟩ := pl; exact ⟨o, ho, hc, n, hd⟩) (by have := rv.length; simp [← this]) fun h' he hb => ?_)
    have mu : Mut (H it) := by rw [hit]; exact True.intro
    obtain ⟨o', ho'⟩ := he
    have I' := I.write (x := it) (e := it) (t' := s.toks) (o := AnyO it) (h' := h') mu (.inl rfl) (fun b o nb z => hb b o nb z) ⟨_, ho'⟩ (any_ok ho')
    refine wpAny_pure (hdone _ _ I' (fun b h1 h2 => by rw [upd_ne h1]; exact hH b h1 h2) ?_ ?_)
    · rw [upd_ne nqi, hq, List.take_length]
    · rw [upd_same]
      exact fun z => nomatch z
  | succ k ih =>
    intro i H s hk hi I hH hq hit
    have hlt : i < xs.length := by omega
    have hT' : SqT X.K H t xs := by
      unfold SqT Rd at hT ⊢
      rw [hH t nti htq]
      exact hT
    obtain ⟨its, rv, pl, hz⟩ := I.tuple hT'
    obtain ⟨u, hu, ru⟩ := rv.get (i := i) (List.getElem?_eq_getElem hlt)
    refine codeAny_builtin PySem.F.entry_extend_loop ?_
    rw [Around.under_plainId PySem.F.plain_extend_loop _]
    show wpAny _ A1.in1 (pyNext (.ref it) >>= _) _ _ s
    refine wpAny_bind (wpAny_pyNext_tuple_item (items := its.toArray) (x := u) (itT_get I hit) (by obtain ⟨o, ho, hc, n, hd⟩ := pl; exact ⟨o, ho, hc, n, hd⟩) (by rw [List.getElem?_toArray]; exact hu) fun h' e' sb => ?_)
    have mu : Mut (H it) := by rw [hit]; exact True.intro
    have I' := I.write (x := it) (e := it) (t' := s.toks) (o := ItT t it (i + 1)) (h' := h') mu (.inl rfl) (fun b o nb z => (sb.2 b nb).trans z) ⟨_, e'.choose_spec.1⟩ (itT_ok e')
    have hq' : upd H it (ItT t it (i + 1)) q = some (.lst (xs.take i)) := by rw [upd_ne nqi]; exact hq
    show wpAny _ A1.in1 (updateSeq q (·.push u) >>= _) _ _ _
    obtain ⟨z, its2, c, r2, e⟩ := I'.lstM hq'
    have hlen : (xs.take i).length = i := by rw [List.length_take]; omega
    obtain ⟨r2, hl2, e⟩ := (⟨r2, e⟩ : _ ∧ _ ∧ _)
    have l2 : its2.length = i := by rw [← r2.length, hlen]
    refine wpAny_bind (wpAny_updateSeq e rfl (wpAny_pure ⟨plainId_quiet PySem.F.plain_extend_loop _, ?_⟩) (by rw [List.size_toArray, l2, sizeLine_eq]; omega) (by show (its2.toArray.push u).size ≤ sizeLine + 1; rw [Array.size_push, List.size_toArray, l2, sizeLine_eq]; omega))
    refine ih (i + 1) _ _ (by omega) hlt (I'.lset (its' := its2 ++ [u]) (ys := xs.take (i + 1)) (t' := s.toks) hq' e (by simp) ?_ (by rw [List.length_take, sizeLine_eq]; omega)) (fun b h1 h2 => ?_) upd_same ?_
    · rw [List.take_add_one, List.getElem?_eq_getElem hlt]
      exact r2.append (.cons ru .nil)
    · rw [upd_ne h2, upd_ne h1]
      exact hH b h1 h2
    · rw [upd_ne (Ne.symm nqi), upd_same]

/-- list(o): __iter__ hands an iterator over a tuple out -/
def rListIt (K : PySem.W.Frag) (C : Addr) (sp : Sp) (E : XK) : List V → Hp → VK → Prop := fun xs H Q => ∃ a dx fs, xs = [.ref a] ∧ H a = some (.ins C dx fs) ∧
  ∀ q, H q = none → sp [.ref a] (upd H q (.lst [])) (fun v H' => ∃ it t zs, v = .ref it ∧ H' it = some (ItT t it 0) ∧ SqT K H' t zs ∧ t ≠ it ∧ t ≠ q ∧ q ≠ it ∧ H' q = some (.lst []) ∧ H' a = some (.ins C dx fs) ∧ zs.length ≤ 1000 ∧
    ∀ H'', (∀ b, b ≠ it → b ≠ q → H'' b = H' b) → H'' q = some (.lst zs) → H'' it ≠ none → Q (.ref q) H'') E
variable {CI : CXT} {C fi : Addr} {fdI : FuncData} {psI : List Str} {spI : Sp} {EI : XK} {n : Nat}
theorem extend_it {a dx q : Addr} {fs : List (Str × V)} {Hq : Hp} {Q : VK} (sb : Sub X n X.A.in1.in1) (hA : X.A.in1.handled = none) (hc : ItK X.K C fi) (FI : FnOk X.prog X.w X.K X.mg X.base CI n fi fdI psI spI) (bI : Binds X.K fdI psI []) (xI : Passes CI X EI) (I2 : Inv X pins σ Hq s) (hqq : Hq q = some (.lst [])) (ha2 : Hq a = some (.ins C dx fs))
    (hsp : spI [.ref a] Hq (fun v H' => ∃ it t zs, v = .ref it ∧ H' it = some (ItT t it 0) ∧ SqT X.K H' t zs ∧ t ≠ it ∧ t ≠ q ∧ q ≠ it ∧ H' q = some (.lst []) ∧ H' a = some (.ins C dx fs) ∧ zs.length ≤ 1000 ∧
      ∀ H'', (∀ b, b ≠ it → b ≠ q → H'' b = H' b) → H'' q = some (.lst zs) → H'' it ≠ none → Q (.ref q) H'') EI) :
    wpAny (model X.prog X.w) X.A.in1.in1 (Builtin.List.listExtendWith (.ref q) (.ref a) .none)
      (fun fin s' => match fin with | .done f => wants (fun r s₂ => r = .none ∧ EP X pins σ Q (.ref q) s₂) X.xe (.ok f) s' | .again c' => c'.quiet = true ∧ codeAny (model X.prog X.w) X.A.in1 c' (wants (fun r s₂ => r = .none ∧ EP X pins σ Q (.ref q) s₂) X.xe) s') (fun e s' => wants (fun r s₂ => r = .none ∧ EP X pins σ Q (.ref q) s₂) X.xe (.error e) s') s := by
  have hne : q ≠ a := ne_of hqq ha2 (fun z => nomatch z)
  obtain ⟨mA, J, _⟩ := ins_get I2.hok ha2
  obtain ⟨od, J, _⟩ := J.look
  obtain ⟨m0, hF⟩ := I2.fr
  unfold Builtin.List.listExtendWith
  refine wpAny_bind (J.type.here ?_)
  have h1 : Builtin.List.listSameRef (.ref q) (.ref a) = false := by simp [Builtin.List.listSameRef, hne]
  have h2 : (Value.ref C == Value.type "list") = false := rfl
  have h3 : (Value.ref C == Value.type "tuple") = false := rfl
  simp only [h1, h2, h3, Bool.or_false, Bool.false_eq_true, if_false]
  refine wpAny_bind (PySem.W.owit_iter hF I2.ok.mod.kin J hc.it hc.itF ?_)
  have e0 : Env0 X.prog X.w X.K X.mg X.base X.A.in1.in1 X.stack s Hq := by
    have e := I2.env0
    exact ⟨by rw [sb.fr]; exact e.frames, e.mod, e.bs, e.bsz, e.funs, e.frf, e.hok, e.bare⟩
  have hl := FI.len _ _ _ _ hsp
  have r2 : Vals [V.ref a] [Value.ref a] := .cons rfl .nil
  refine wpAny_call (codeAny_mono (FI.run X.A.in1.in1 X.stack s Hq ⟨[.ref a], []⟩ [.ref a] [.ref a] _ EI sb.room e0 (by
    have := bI s [.ref a] I2.kIn (by simpa using hl)
    simpa using this) r2 hsp) fun r s' hq' => ?_)
  cases r with
  | error e => exact xI pins σ Hq s e s' I2 hq'
  | ok fl =>
    cases fl with
    | next => exact False.elim hq'
    | brk => exact False.elim hq'
    | cont => exact False.elim hq'
    | ret u =>
      obtain ⟨v, H', I', rv, it, t, zs, ev, hit, hT, nti, ntq, nqi, hq2, ha', hz, q2⟩ := I2.after hq'
      subst ev
      cases rv
      unfold PySem.W.OwitIt
      have hty := (itT_get I' hit).typeIs (s := s')
      refine wpAny_specialOf hty F.slot_tuple_iterator_next.lookup ?_
      obtain ⟨mA', J', _⟩ := ins_get I'.hok ha'
      obtain ⟨od', J', _⟩ := J'.look
      refine wpAny_bind (wpAny_holding (hintK hc I'.kIn J' ?_))
      obtain ⟨z, its, k, r3, hl3, e3⟩ := I'.lstM hq2
      cases r3
      have hloop : ∀ s2, Inv X pins σ H' s2 → codeAny (model X.prog X.w) X.A.in1 (.builtin "list.extend.loop" ⟨[.ref q, .ref it, .none], []⟩) (wants (fun r s₂ => r = .none ∧ EP X pins σ Q (.ref q) s₂) X.xe) s2 := fun s2 I4 =>
        it_loop (A1 := X.A.in1) hA nqi nti hT ntq hz (fun H5 s5 I5 a1 a2 a3 => ⟨rfl, .ref q, H5, I5, rfl, q2 H5 a1 a2 a3⟩) _ 0 H' s2 rfl (Nat.zero_le _) I4 (fun _ _ _ => rfl) hq2 hit
      refine wpAny_ite_split (fun _ => ?_) (fun _ => wpAny_pure ⟨plainId_quiet PySem.F.plain_extend_loop _, hloop s' I'⟩)
      refine wpAny_bind (wpAny_rule ?_)
      refine wpAny_bind ?_
      show wpAny _ _ (updateSeq q (·.push .none) >>= fun _ => updateSeq q (·.pop)) _ _ _
      refine wpAny_bind (wpAny_updateSeq e3 rfl ?_)
      have I3 := I'.lset (f := (·.push Value.none)) (its' := [Value.none]) (ys := [.non]) (t' := s'.toks) hq2 e3 (by simp) (.cons rfl .nil) (by rw [List.length_singleton, sizeLine_eq]; decide)
      obtain ⟨z4, its4, k4, r4, hl4, e4⟩ := I3.lstM upd_same
      obtain ⟨u4, rfl, ru4⟩ := r4.one
      refine wpAny_updateSeq e4 rfl ?_ (by show 1 ≤ sizeLine; rw [sizeLine_eq]; decide) (by show 0 ≤ sizeLine + 1; exact Nat.zero_le _)
      refine wpAny_pure ⟨plainId_quiet PySem.F.plain_extend_loop _, hloop _ ?_⟩
      have I5 := I3.lset (f := (·.pop)) (its := [u4]) (its' := []) (ys := []) (t' := s'.toks) upd_same e4 (by rfl) .nil (Nat.zero_le _)
      rw [upd_upd] at I5
      have hH : upd H' q (.lst []) = H' := by
        funext b
        by_cases hb : b = q
        · rw [hb, upd_same, hq2]
        · rw [upd_ne hb]
      rw [hH] at I5
      exact I5
theorem call_listIt (hc : ItK X.K C fi) (FI : FnOk X.prog X.w X.K X.mg X.base CI n fi fdI psI spI) (bI : Binds X.K fdI psI []) (xI : Passes CI X EI) (hr : Room (n + 2) X.A) : CallR X (.type "list") (rListIt X.K C spI EI) := by
  intro pins s σ H xs us Q I rv h
  obtain ⟨a, dx, fs, rfl, ha, hq⟩ := h
  obtain ⟨u, rfl, ru⟩ := rv.one
  cases ru
  have sb : Sub X n X.A.in1.in1 := (Sub.in1 (Sub.in1 (⟨hr, rfl⟩ : Sub X (n + 2) X.A)))
  refine callType_codes (Q₁ := fun obj s₁ => obj = .ref s.heap.objs.size ∧ s₁ = { s with heap := s.heap.push { cls := .type "list", data := .seq #[] } }) PySem.F.called_list (PySem.F.typeCall_list_1 _) PySem.F.entry_list_init
    (code_list_new _ ⟨rfl, rfl⟩) fun obj s₁ h₁ => ?_
  obtain ⟨rfl, rfl⟩ := h₁
  have hS : (s.heap.push { cls := .type "list", data := .seq #[] }).get? s.heap.objs.size = some { cls := .type "list", data := .seq #[] } := Heap.get?_push_size _ rfl
  refine ⟨⟨_, hS, rfl⟩, PySem.F.args_list_init_2 _ _, ?_⟩
  have fr : H s.heap.objs.size = none := I.hok.fresh (Nat.le_refl _)
  have hsp := hq _ fr
  have I1 : Inv X pins σ (upd H s.heap.objs.size (.lst [])) { s with heap := s.heap.push { cls := .type "list", data := .seq #[] } } := I.lnew (its := []) (t' := s.toks) .nil (Nat.zero_le _)
  show wpAny _ _ (do let old ← Builtin.List.listItems (.ref s.heap.objs.size); Builtin.List.listUpdate (.ref s.heap.objs.size) (fun _ => #[]); letGo old.toList.reverse; Builtin.List.listExtendWith (.ref s.heap.objs.size) (.ref a) .none) _ _ _
  refine wpAny_bind ?_
  unfold Builtin.List.listItems
  refine wpAny_bind (wpAny_seqItems hS rfl (wpAny_pure ?_))
  show wpAny _ _ (updateSeq s.heap.objs.size (fun _ => #[]) >>= fun _ => letGo (#[] : Array Value).toList.reverse >>= fun _ => Builtin.List.listExtendWith (.ref s.heap.objs.size) (.ref a) .none) _ _ _
  refine wpAny_bind (wpAny_updateSeq hS rfl ?_)
  have I2 := I1.lset (f := fun _ => #[]) (its := []) (its' := []) (ys := []) (t' := s.toks) upd_same hS rfl .nil (Nat.zero_le _)
  rw [upd_upd] at I2
  refine wpAny_bind (wpAny_letGo ?_)
  have ha2 : upd H s.heap.objs.size (.lst []) a = some (.ins C dx fs) := by rw [upd_ne (ne_of_none ha fr)]; exact ha
  exact extend_it sb hr.hd hc FI bI xI I2 upd_same ha2 hsp
end
end D

namespace D
open PySem PySem.Spec PyProof.Rows L2
/-! ### texts as rows of signs -/
abbrev sg (z : Str) : List Nat := z.cps.toList
theorem sg_len (z : Str) : (sg z).length = z.length := Array.length_toList
theorem sg_ext {a b : Str} (h : sg a = sg b) : a = b := by
  cases a
  cases b
  congr 1
  exact Array.toList_inj.mp h
theorem sg_app (a b : Str) : sg (a ++ b) = sg a ++ sg b := Array.toList_append
theorem sg_one (c : Nat) : sg ⟨#[c]⟩ = [c] := rfl
theorem sg_cut (z : Str) (k : Nat) : sg (cutS z none (some (k : Int))) = (sg z).take k := by
  unfold cutS
  show ((z.cps.toList.drop 0).take (HT.sIx z.length z.length (some (k : Int)) - 0)) = _
  rw [HT.sIx_nat, List.drop_zero, Nat.sub_zero, ← sg_len]
  by_cases c : k ≤ (sg z).length
  · rw [Nat.min_eq_left c]
  · rw [Nat.min_eq_right (by omega), List.take_of_length_le (Nat.le_refl _), List.take_of_length_le (by omega)]
theorem sg_from (z : Str) (k : Nat) : sg (cutS z (some (k : Int)) none) = (sg z).drop k := by
  unfold cutS
  show ((z.cps.toList.drop (HT.sIx z.length 0 (some (k : Int)))).take (HT.sIx z.length z.length none - HT.sIx z.length 0 (some (k : Int)))) = _
  rw [HT.sIx_nat, HT.sIx_none, ← sg_len]
  by_cases c : k ≤ (sg z).length
  · rw [Nat.min_eq_left c, List.take_of_length_le (by rw [List.length_drop]; exact Nat.le_refl _)]
  · rw [Nat.min_eq_right (by omega), List.drop_of_length_le (Nat.le_refl _), List.drop_of_length_le (by omega)]
    simp
theorem sg_join0 : ∀ ys : List Str, sg (Str.join (Str.ofString "") ys) = (ys.map sg).flatten
  | [] => rfl
  | [y] => by
    show sg y = _
    simp
  | x :: y :: r => by
    show sg (x ++ (Str.ofString "") ++ Str.join (Str.ofString "") (y :: r)) = _
    rw [sg_app, sg_app, sg_join0 (y :: r), show sg (Str.ofString "") = [] from by decide +kernel]
    simp
end D

namespace D
open PySem PySem.Spec PyProof.Rows L2
/-! ### errors whose suites call defs -/
section
variable {X : Cx} {e : Expr} {es : List Expr} {ta : TA} {p pos : Pos}
/-- the making of an own error, outside of a suite, for the ways out that tell its context -/
theorem pmk_oexN {CX : CXT} {x : Str} {C fI : Addr} {k : Nat} {fd : FuncData} {ps : List Str} {sp : Sp} {ds : List Value} {dvs : List V} (T : OexC X.K C) (iC : PySem.W.findIn X.K (.ref C) "__init__" = some (some (.ref fI))) (tI : PySem.W.typeIn X.K (.ref fI) = some (.type "function"))
    (F1 : FnOk X.prog X.w X.K X.mg X.base CX k fI fd ps sp) (hr : Room (k + 1) X.A) (hb : Binds X.K fd ps ds) (hd : Vals dvs ds) (hx : Passes CX X (fun _ _ _ => False)) (hg : Gl X x) (hm : X.mg x = some (.ref C)) (ha : PA X (e :: es) ta)
    (hdb : (x == ("__debug__" : Str)) = false := by decide) (he : starEach (e :: es) X.env = (false, eval e X.env) :: starEach es X.env := by rfl) (hpl : (backTo pos (starEach es X.env)).any (·.1) = false := by rfl) :
    L2N.PMk X (.Call (.Name x p) (e :: es) [] pos) (tMkO C sp dvs ta) := by
  intro pins s σ H Q I h
  obtain ⟨nm, q, N, bs, bm, sn, sub, ab, col, dd, k0, k1, k2, k3, k5, hC, hbm⟩ := T.cls
  refine wpAny_Call_Name_kw (ld_glob I hg hm ?_ hdb)
  refine PySem.W.callWith_K (h₀ := X.base) I.ok.mod.kin T.kC (thn (ha.run pos pins s σ H _ I h) fun us s1 ⟨vs, H1, I1, r1, hz, q1⟩ => ⟨I1.kIn, ?_⟩) he hpl
  show wpAny _ _ (call (.ref C) us) _ _ _
  obtain ⟨hp, g, dr, tk, os⟩ := s1
  have hsz : hp.objs.size ≤ hp.objs.size + 1 := Nat.le_succ _
  have hn : H1 (hp.objs.size + 1) = none := I1.hok.fresh hsz
  have hq := q1 (hp.objs.size + 1) hn
  have kk : ∀ b o, hp.get? b = some o → ((hp.push (PySem.W.kdv_tup us)).push (PySem.HandSPX.excO C hp.objs.size)).get? b = some o := fun b o e => Heap.get?_push_of_some _ (Heap.get?_push_of_some _ e)
  have hget : ((hp.push (PySem.W.kdv_tup us)).push (PySem.HandSPX.excO C hp.objs.size)).get? (hp.objs.size + 1) = some (PySem.HandSPX.excO C hp.objs.size) := by heap_get
  have I2 : Inv X pins σ (upd H1 (hp.objs.size + 1) (exo (hp.objs.size + 1) C none)) ⟨(hp.push (PySem.W.kdv_tup us)).push (PySem.HandSPX.excO C hp.objs.size), g, dr, tk, os⟩ :=
    I1.laid (t' := tk) (a := hp.objs.size + 1) (o := exo (hp.objs.size + 1) C none) (h' := (hp.push (PySem.W.kdv_tup us)).push (PySem.HandSPX.excO C hp.objs.size)) kk hsz (exo_ok hget)
  have r2 : Vals (V.ref (hp.objs.size + 1) :: (vs ++ dvs)) (Value.ref (hp.objs.size + 1) :: (us ++ ds)) := .cons rfl (r1.append hd)
  have hl : (Value.ref (hp.objs.size + 1) :: us ++ ds).length = ps.length := by
    have e := r2.length
    rw [F1.len _ _ _ _ hq] at e
    exact e.symm
  have hus : us.length ≤ sizeLine := by
    rw [← Paired.length r1, sizeLine_eq]
    omega
  refine wpAny_call (PySem.HandSPX.call_own F.excBase_ValueError (fun Y => PySem.HandSPX.refsVE_contains Y bm hbm) (I1.kIn _ _ hC) (PySem.W.looks_findIn I1.kIn iC) (fun self => PySem.W.bind_fn I1.kIn self tI) hus
    (codeAny_mono (F1.run _ X.stack _ _ ⟨Value.ref (hp.objs.size + 1) :: us, []⟩ (Value.ref (hp.objs.size + 1) :: (us ++ ds)) _ _ (fun _ _ _ => False) (hr.make C us []) (I2.env0.make C us []) (hb _ (Value.ref (hp.objs.size + 1) :: us) I2.kIn hl) r2 hq) fun r s' hq' => ?_))
  cases r with
  | error er => exact hx pins σ _ _ er s' I2 hq'
  | ok fl =>
    cases fl with
    | ret u =>
      obtain ⟨v, H2, os2, bare2, un2, hok2, rv, ev, d, fs, ea, ed, hd1, q2⟩ := hq'
      subst ev
      obtain ⟨h2, g2, d2, t2, os'⟩ := s'
      obtain ⟨t0, G, J, kG, ge, hoe, na⟩ := mk_end0 (d2 := d2) (t2 := t2) I1 hsz kk un2 hok2 os2 bare2 ea ed hd1
      refine ⟨rv, ⟨hp.objs.size + 1, _, _, ⟨G, g2, d2, t2, os'⟩, _, .ref C, some d, rfl, J, kG, ge, hoe, ⟨rfl, rfl, fun vs hv => ?_⟩, rfl, rfl, na, rfl, bare2, raises_own T.exC T.tyC, q2⟩⟩
      cases hv
      rfl
    | next => exact False.elim hq'
    | brk => exact False.elim hq'
    | cont => exact False.elim hq'
end
section
variable {P : Program} {w : World} {K : PySem.W.Frag} {mg : Str → Option Value} {base : Heap}
/-- as Fun.okX, for the ways out that tell the error's context -/
theorem Fun.okXN {x qual : Str} {st : Stmt} {f : Addr} {fd : FuncData} {N ps : List Str} {k : Nat} {sp : Sp} (F : Fun K x qual st f fd) (S : FnScope N ps (defScope st)) (len : ∀ vs H Q E, sp vs H Q E → vs.length = ps.length)
    (hbody : ∀ (cdv : Value) (A : Around) (outer : List Env) (s : Shared) (H : Hp) (vs : List V) (Q : VK) (E : XK), Room k (A.deeper (envOfC qual (defScope st) s.heap.objs.size f cdv)) → sp vs H Q E →
      ∃ t, PSs (cxOf (L2N.CX P w) P w K mg base N qual (defScope st) f cdv A outer s H E) (defBody st) t ∧ t { nx := fun _ H' => Q .non H', rt := Q } (start N vs) H) : FnOk P w K mg base (L2N.CX P w) (k + 1) f fd ps sp := by
  obtain ⟨oc, od, kV, doc, pm, an, cdv, ct, osl, rfl, lk, hcd⟩ := F.ex
  exact fn_of lk hcd S len fun A outer s H vs Q E hr hsp => hbody cdv A outer s H vs Q E hr hsp
theorem takes0N {X : Cx} : L2N.Takes X (fun _ _ _ _ => False) := fun _ _ x => by
  obtain ⟨_, _, _, _, _, _, _, _, _, _, _, _, _, _, _, _, z⟩ := x
  exact z.elim
/-- as Fun.ok, for a def that is called in an except suite -/
theorem Fun.okH {x qual : Str} {st : Stmt} {f : Addr} {fd : FuncData} {N ps : List Str} {k : Nat} {sp : Sp} (F : Fun K x qual st f fd) (S : FnScope N ps (defScope st)) (len : ∀ vs H Q E, sp vs H Q E → vs.length = ps.length)
    (hbody : ∀ (cdv : Value) (A : Around) (outer : List Env) (s : Shared) (H : Hp) (vs : List V) (Q : VK) (E : XK) (p : Addr × Obj), L2H.RoomH k (A.deeper (envOfC qual (defScope st) s.heap.objs.size f cdv)) → sp vs H Q E →
      ∃ t, PSs (L2H.cxH CX0 P w K mg base N qual (defScope st) f cdv A outer s H E p) (defBody st) t ∧ t { nx := fun _ H' => Q .non H', rt := Q } (start N vs) H) : L2H.FnH P w K mg base CX0 (k + 1) f fd ps sp := by
  obtain ⟨oc, od, kV, doc, pm, an, cdv, ct, osl, rfl, lk, hcd⟩ := F.ex
  exact L2H.fn_ofH lk hcd S len fun A outer s H vs Q E p hot hr hsp => hbody cdv A outer s H vs Q E p hr hsp
theorem hot_suite {X : Cx} {a : Addr} {oe : Obj} {cls : Value} {d : Option Addr} {pn : List (Addr × Obj)} (hz : L2N.Zn cls d oe) (hf : ∃ vs, oe.data = .fields vs) : L2H.HotC (X.suite a ((a, oe) :: pn)) := by
  obtain ⟨vs, hv⟩ := hf
  exact ⟨(a, oe), ⟨rfl, vs, hv, hz.2.2 vs hv⟩, List.mem_cons_self⟩
theorem room_suite {k j : Nat} {A : Around} (r : Room k A) (h : j ≤ k) (v : Option Value) : L2H.RoomH j (A.mark v) := L2H.RoomH.mono ⟨r.dp, r.un⟩ h
theorem passH {X : Cx} {E : L2.St → XK} : ∀ σ, PassesAt CX0 X σ (E σ) := fun _ _ _ _ _ _ _ h => h.elim
end
end D

/-! defs that show data as text: no guard of a repr stands open where they are called -/
namespace D
open PySem PySem.Spec PyProof.Rows L2
section
variable {P : Program} {w : World} {K : PySem.W.Frag} {mg : Str → Option Value} {base : Heap} {CX : CXT} {k : Nat} {f : Addr} {fd : FuncData} {ps : List Str} {sp : Sp}
/-- as FnOk, called where no guard stands open -/
structure FnG (P : Program) (w : World) (K : PySem.W.Frag) (mg : Str → Option Value) (base : Heap) (CX : CXT) (k : Nat) (f : Addr) (fd : FuncData) (ps : List Str) (sp : Sp) : Prop where
  ln : ∀ vs H Q E, sp vs H Q E → vs.length = ps.length
  go : ∀ (A : Around) (fr : List Env) (s : Shared) (H : Hp) (args : Args) (us : List Value) (vs : List V) (Q : VK) (E : XK), A.guards = some [] → Room k A → Env0 P w K mg base A fr s H → BindsTo s fd args (ps.zip us) → Vals vs us → sp vs H Q E → codeAny (model P w) A (.call (.ref f) args) (CR CX fr P w H s Q E) s
theorem FnG.of (F : FnOk P w K mg base CX k f fd ps sp) : FnG P w K mg base CX k f fd ps sp := ⟨F.len, fun A fr s H args us vs Q E _ hr he hb hv hs => F.run A fr s H args us vs Q E hr he hb hv hs⟩
theorem FnG.bodyG {name qual : Str} {pr : Arguments} {body : List Stmt} {sc : Scope} {dV kV doc pm c ct oc : Value} {an od : Option Addr} {osl : Array (Option Value)} {N : List Str}
    (lk : K.lookup f = some ⟨oc, od, .func (PySem.W.fnOf name qual pr body sc dV kV doc pm an c ct), osl⟩) (hc : PySem.W.codeIn K c qual = true) (S : FnScope N ps sc) (ln : ∀ vs H Q E, sp vs H Q E → vs.length = ps.length)
    (hb : ∀ (A : Around) (fr : List Env) (s : Shared) (H : Hp) (vs : List V) (Q : VK) (E : XK), (A.deeper (envOfC qual sc s.heap.objs.size f c)).guards = some [] → Room k (A.deeper (envOfC qual sc s.heap.objs.size f c)) → sp vs H Q E →
      ∃ t, PSs (cxOf CX P w K mg base N qual sc f c A fr s H E) body t ∧ t { nx := fun _ H' => Q .non H', rt := Q } (start N vs) H) : FnG P w K mg base CX (k + 1) f (PySem.W.fnOf name qual pr body sc dV kV doc pm an c ct) ps sp := by
  refine ⟨ln, fun A fr s H args us vs Q E gd hr e0 bd rv hs => ?_⟩
  have n1 := ln _ _ _ _ hs
  have kin : K.In s.heap := e0.mod.kin.keeps fun x o e => (e0.bs x o e).1
  have nl : s.heap.NoLimit := e0.mod.nolimit.keeps fun x o e => (e0.bs x o e).1
  have kd : ∀ y ∈ ps.zip us, sc.names.lookup y.1 = some .local ∨ (sc.names.lookup y.1 = some .cell ∧ ((cellsFrom (s.heap.objs.size + 1) sc.names []).lookup y.1).isSome = true) := by
    rintro ⟨m, v⟩ hy
    exact (S.par m (List.of_mem_zip hy).1).imp id fun z => ⟨z, PySem.W.cellsFrom_some _ _ _ (.inl z)⟩
  refine codeAny_call_function hr.depth (kin _ _ lk) rfl S.co S.gen rfl (PySem.W.codeRec_of kin hc) (bd _ _ _ _ (wpAny_newFunctionEnv_cells S.kind kd fun ev he s1 x => ?_))
  cases he
  refine ⟨nl.keeps x.toInCall.keep, codeAny_func ?_⟩
  obtain ⟨t, ht, hq⟩ := hb A fr s H vs Q E gd (hr.deeper _) hs
  refine wpAny_mono (ht.run [] s1 (start N vs) H _ (inv_start S hr.hd e0 n1 rv x) hq) (fun fl s' z => ?_) fun e s' z => z
  cases fl with
  | ret u =>
    obtain ⟨v, σ', H', J, r, q⟩ := z
    exact ⟨v, H', J.os, J.bare, J.base, J.hok, r, q⟩
  | next =>
    obtain ⟨σ', H', J, q⟩ := z
    exact ⟨V.non, H', J.os, J.bare, J.base, J.hok, rfl, q⟩
  | brk =>
    obtain ⟨_, _, _, z⟩ := z
    exact False.elim z
  | cont =>
    obtain ⟨_, _, _, z⟩ := z
    exact False.elim z
theorem Fun.okG {x qual : Str} {st : Stmt} {N : List Str} (F : Fun K x qual st f fd) (S : FnScope N ps (defScope st)) (ln : ∀ vs H Q E, sp vs H Q E → vs.length = ps.length)
    (hb : ∀ (c : Value) (A : Around) (fr : List Env) (s : Shared) (H : Hp) (vs : List V) (Q : VK) (E : XK), (A.deeper (envOfC qual (defScope st) s.heap.objs.size f c)).guards = some [] → Room k (A.deeper (envOfC qual (defScope st) s.heap.objs.size f c)) → sp vs H Q E →
      ∃ t, PSs (cxOf CX0 P w K mg base N qual (defScope st) f c A fr s H E).nox (defBody st) t ∧ t { nx := fun _ H' => Q .non H', rt := Q } (start N vs) H) : FnG P w K mg base CX0 (k + 1) f fd ps sp := by
  obtain ⟨oc, od, kV, doc, pm, an, c, ct, osl, rfl, lk, hc⟩ := F.ex
  refine FnG.bodyG lk hc S ln fun A fr s H vs Q E gd hr hs => ?_
  obtain ⟨t, h, q⟩ := hb c A fr s H vs Q E gd hr hs
  exact ⟨t, h.nox, q⟩
end
section
variable {X : Cx} {CX : CXT} {k : Nat} {f : Addr} {fd : FuncData} {ps : List Str} {sp : Sp} {E : XK} {x : Str} {p pos : Pos} {e : Expr} {es : List Expr} {t : TA}
theorem run_fnG {pins : List (Addr × Obj)} {σ : L2.St} {H : Hp} {s : Shared} {Q : VK} {us : List Value} {vs : List V} (F : FnG X.prog X.w X.K X.mg X.base CX k f fd ps sp) (gd : X.A.guards = some []) (hr : Room k X.A) (hb : Binds X.K fd ps []) (hx : Passes CX X E)
    (I : Inv X pins σ H s) (r : Vals vs us) (h : sp vs H Q E) : wpAny (model X.prog X.w) X.A (call (.ref f) us) (EP X pins σ Q) X.xe s := by
  have hl : (us ++ ([] : List Value)).length = ps.length := by rw [List.append_nil, ← r.length]; exact F.ln _ _ _ _ h
  have bd := hb s us I.kIn hl
  rw [List.append_nil] at bd
  refine wpAny_call (codeAny_mono (F.go X.A X.stack s H ⟨us, []⟩ us vs Q E gd hr I.env0 bd r h) fun z s' hq => ?_)
  cases z with
  | error er => exact hx pins σ H s er s' I hq
  | ok fl =>
    cases fl with
    | ret u => exact I.after hq
    | next => exact hq.elim
    | brk => exact hq.elim
    | cont => exact hq.elim
theorem pe_callG (F : FnG X.prog X.w X.K X.mg X.base CX k f fd ps sp) (gd : X.A.guards = some []) (hr : Room k X.A) (hg : Gl X x) (hm : X.mg x = some (.ref f)) (hk : PySem.W.keepIn X.K (.ref f) = true) (hb : Binds X.K fd ps []) (hx : Passes CX X E) (ha : PA X (e :: es) t)
    (hdb : (x == ("__debug__" : Str)) = false := by decide) (he : starEach (e :: es) X.env = (false, eval e X.env) :: starEach es X.env := by rfl) (hpl : (backTo pos (starEach es X.env)).any (·.1) = false := by rfl) : PE X (.Call (.Name x p) (e :: es) [] pos) (tCall sp [] E t) := by
  refine ⟨fun pins s σ H Q I h => wpAny_Call_Name_kw (ld_glob I hg hm ?_ hdb)⟩
  refine PySem.W.callWith_K (h₀ := X.base) I.ok.mod.kin hk (thn (ha.run pos pins s σ H _ I h) fun us s1 ⟨vs, H1, I1, r, q⟩ => ⟨I1.kIn, ?_⟩) he hpl
  have q0 : sp (vs ++ []) H1 Q E := q
  rw [List.append_nil] at q0
  exact run_fnG F gd hr hb hx I1 r q0
theorem pe_call0G (F : FnG X.prog X.w X.K X.mg X.base CX k f fd ps sp) (gd : X.A.guards = some []) (hr : Room k X.A) (hg : Gl X x) (hm : X.mg x = some (.ref f)) (hk : PySem.W.keepIn X.K (.ref f) = true) (hb : Binds X.K fd ps []) (hx : Passes CX X E)
    (hdb : (x == ("__debug__" : Str)) = false := by decide) : PE X (.Call (.Name x p) [] [] pos) (tCall sp [] E tNil) :=
  ⟨fun pins s σ H Q I h => wpAny_Call_Name_kw (ld_glob I hg hm (PySem.W.callWith_K0 I.kIn hk (run_fnG (us := []) (vs := []) F gd hr hb hx I .nil h)) hdb)⟩
/-- repr of data -/
theorem call_reprD (gd : X.A.guards = some []) (hu : X.A.units + 200 < cLine) : CallR X (.builtin "repr") (fun xs H Q => ∃ a d, xs = [.ref a] ∧ Dp X.K H (.ref a) d ∧ d.showable = true ∧ d.hasDict = false ∧ d.depth ≤ 64 ∧ d.shown.length ≤ sizeLine ∧ Q (.str d.shown) H) := by
  intro pins s σ H xs us Q I r h
  obtain ⟨a, d, rfl, hd, h1, h2, h3, h4, q⟩ := h
  obtain ⟨u, rfl, ru⟩ := vals1 r
  obtain ⟨as, rd⟩ := Dp.reads I d _ _ hd ru
  cases ru
  exact repr_of_reads' rd h1 (fun z => by rw [h2] at z; cases z) gd (by omega) (fun b o e => e) (fun h' u tk hk => ⟨.str d.shown, H, I.kept hk, ⟨u, rfl⟩, q⟩) h4
end
end D
/-! ### all kinds -/
namespace D
open PySem PySem.Spec PyProof.Rows L2
section
variable {X : Cx}
/-- repr of data of any kind -/
theorem call_reprV (gd : X.A.guards = some []) (hu : X.A.units + 200 < cLine) : CallR X (.builtin "repr") (fun vs H Q => ∃ v d, vs = [v] ∧ Dp X.K H v d ∧ d.showable = true ∧ d.hasDict = false ∧ d.depth ≤ 64 ∧ d.shown.length ≤ sizeLine ∧ Q (.str d.shown) H) := by
  rintro pins s σ H vs us Q I r ⟨v, d, rfl, hd, h1, h2, h3, h4, q⟩
  cases hd with
  | lst h k => exact call_reprD gd hu pins s σ H _ us Q I r ⟨_, _, rfl, .lst h k, h1, h2, h3, h4, q⟩
  | tup h k => exact call_reprD gd hu pins s σ H _ us Q I r ⟨_, _, rfl, .tup h k, h1, h2, h3, h4, q⟩
  | non =>
    obtain ⟨u, rfl, ru⟩ := vals1 r
    cases (show u = Value.none from ru)
    rw [PyData.shown_none] at q
    exact PySem.P.repr_of_none ⟨.str _, H, I.tok _, ⟨_, rfl⟩, q⟩
  | bl b =>
    obtain ⟨u, rfl, ru⟩ := vals1 r
    cases (show u = Value.bool b from ru)
    rw [PyData.shown_bool] at q
    exact PySem.P.repr_of_bool ⟨.str _, H, I.tok _, ⟨_, rfl⟩, q⟩
  | int i =>
    obtain ⟨u, rfl, t, rfl⟩ := vals1 r
    rw [PyData.shown_int] at q
    exact PySem.P.repr_of_int (of_decide_eq_true h1) ⟨.str _, H, I.tok _, ⟨_, rfl⟩, q⟩
  | str y =>
    obtain ⟨u, rfl, t, rfl⟩ := vals1 r
    rw [PyData.shown_str] at q h4
    exact PySem.P.repr_of_str ⟨.str _, H, I.tok _, ⟨_, rfl⟩, q⟩ h4
end
end D
namespace D
open PySem PySem.Spec PyProof.Rows L2
/-- join, its row's part of the module named -/
theorem pe_joinK {X : Cx} {K : PySem.W.Frag} {o e : Expr} {to te : TE} {apos pos : Pos} (h : X.K = K) (ho : PE X o to) (he : PE X e te) (hs : starEach [e] X.env = [(false, eval e X.env)] := by rfl) (hb : attributeBase o "join" X.env (eval o X.env) = eval o X.env := by rfl) (hl : (apos.endLine == pos.line) = true := by rfl) :
    PE X (.Call (.Attribute o "join" apos) [e] [] pos) (tM1 (fun x xs H Q => ∃ a p, ∃ ys : List Str, x = .str a ∧ xs = [.ref p] ∧ (SqL K H p (ys.map V.str) ∨ SqT K H p (ys.map V.str)) ∧ (ys.map (·.length)).sum + ys.length * a.length ≤ 16777216 ∧ Q (.str (Txt.join a ys)) H) to te) := by
  subst h
  exact pe_join ho he hs hb hl
end D
/-! ### the law's own call: no guard stands open there -/
namespace D
open PySem PySem.Spec PyProof.Rows L2
theorem un200 {A : Around} {k : Nat} (r : Room k A) : A.units + 200 < cLine := by
  have z := r.un
  omega
section
variable {P : Program} {w : World} {K : PySem.W.Frag} {mg mb : Str → Option Value} {CX : CXT} {k : Nat} {fa a : Addr} {fd : FuncData} {x : Str} {sp : Sp} {z : Shared} {us : List Value} {ns : List Int}
theorem top_run (kx : K.In z.heap) (h1 : z.heap.Ns mainGlobals mg) (h2 : z.heap.Ns builtinsNs mb) (h3 : ∀ y : Str, y ≠ "__name__" → mb y = bootBuiltins y) (h4 : z.heap.NoLimit) (h5 : z.gens = #[]) (ha : z.heap.get? a = some { cls := .type "list", data := .seq us.toArray })
    (hr : Room k callerA) (F : ∀ base : Heap, K.In base → base.Ns mainGlobals mg → FnG P w K mg base CX k fa fd [x] sp) (bd : ∀ (s : Shared) (u : Value), BindsTo s fd ⟨[u], []⟩ [(x, u)]) (cx : ∀ H e s', CX [] H z (fun _ _ _ => False) e s' → False)
    {H : Hp} (only : Only H) (hsp : sp [.ref a] H (fun v _ => v = .bl true) fun _ _ _ => False) (hok : HOk P w H z.heap) (own : ∀ b, H b ≠ none → b = a ∧ K.lookup b = none) :
    codeAny (model P w) callerA (.call (.ref fa) ⟨[.ref a], []⟩) (fun r s' => r = .ok (.ret (.bool true)) ∧ OldK z.heap s'.heap ∧ s'.os = z.os ∧ AllBare s'.gens) z := by
  have out : ∀ {b : Addr} {o : Obj} {es : Array DictEntry} {n : Nat}, z.heap.get? b = some o → o.data = .dict es n → H b = none := fun {b o es n} e d => by
    by_cases q : H b = none
    · exact q
    · obtain ⟨rfl, _⟩ := own b q
      rw [ha] at e
      cases e
      cases (show Data.seq us.toArray _ = Data.dict es n from d)
  have ns' : ∀ {b : Addr} {m : Str → Option Value}, z.heap.Ns b m → (hidT z.heap H).Ns b m := fun {b m} h => by
    obtain ⟨o, es, n, e, d, r⟩ := h
    exact ⟨o, es, n, hidT_get e (out e d), d, r⟩
  have kb : K.In (hidT z.heap H) := fun b o e => by
    refine hidT_get (kx b o e) ?_
    by_cases q : H b = none
    · exact q
    · rw [(own b q).2] at e
      cases e
  obtain ⟨mc, l1, l2⟩ := h4
  have md : Mod K mg (hidT z.heap H) := ⟨kb, ns' h1, ⟨mb, ns' h2, h3⟩, mc, ns' l1, l2⟩
  have ev : Env0 P w K mg (hidT z.heap H) callerA [] z H := ⟨rfl, md, fun _ _ e => of_hidT e, by rw [hidT_size]; exact Nat.le_refl _, trivial, fun b m => (by cases m), hok, .of_eq h5⟩
  have run := (F _ kb (ns' h1)).go callerA [] z H ⟨[.ref a], []⟩ [.ref a] [.ref a] (fun v _ => v = .bl true) (fun _ _ _ => False) rfl hr ev (bd z (.ref a)) (.cons rfl .nil) hsp
  refine codeAny_mono run fun r s' c => ?_
  rcases r with er | fl
  · exact absurd c (cx H er s')
  · cases fl with
    | next => exact c.elim
    | brk => exact c.elim
    | cont => exact c.elim
    | ret u =>
      obtain ⟨v, H2, o1, b1, un, ok2, rv, ev⟩ := c
      cases (show v = V.bl true from ev)
      cases (show u = Value.bool true from rv)
      refine ⟨rfl, OldK.of_keep fun b o e => ?_, o1, b1⟩
      cases q : H b with
      | none => exact un.keep b o e q (fun m => by cases m) (fun m => by cases m)
      | some t =>
        rcases only b with y | ⟨ob, xs, y⟩
        · rw [q] at y; cases y
        · obtain ⟨e1, _⟩ := hok b _ y
          obtain ⟨e2, _⟩ := ok2 b _ (un.frzs b ob _ y)
          rw [e] at e1
          cases e1
          exact e2
end
theorem walk_ofG {l : PySem.W.OpenLaw} {n k : Nat} {q : Program} {loose : List Str} {XP : (Str → Option Value) → Heap → Prop} {YP : World → Heap → Prop} {d : DefRec} {K : Params → PySem.W.Frag} {sp : PySem.W.Frag → Sp} {x : Str}
    (hn : l.most = some n) (hn2 : n ≤ sizeLine) (hdf : d.params.defaults = []) (hr : Room k callerA) (hY : ∀ (w : World) (h : Heap), YP w h → (K w.params).In h)
    (F : ∀ (w : World) (mg : Str → Option Value) (fa : Addr) (h : Heap), (K w.params).In h → h.Ns mainGlobals mg → mg d.name = some (.ref fa) →
      ∃ fd : FuncData, (∀ (s : Shared) (u : Value), BindsTo s fd ⟨[u], []⟩ [(x, u)]) ∧ ∀ base : Heap, (K w.params).In base → base.Ns mainGlobals mg → FnG l.prog w (K w.params) mg base CX0 k fa fd [x] (sp (K w.params)))
    (hsp : ∀ (K : PySem.W.Frag) (H : Hp) (a : Addr) (ns : List Int), ns.length ≤ n → SqL K H a (ns.map V.int) → sp K [.ref a] H (fun v _ => v = .bl true) fun _ _ _ => False) :
    PySem.W.WalkO q loose XP YP l.row.toRowW d [] (fun f vs => PySem.call f vs) := by
  refine Att.attach_call hn hdf fun w s0 z mg mb fa o pm cd dc a us ns G Y ho hd hcd hm hob hi hle hg => ?_
  have kx := hY w _ Y
  obtain ⟨fd, bd, hF⟩ := F w mg fa _ kx G.T.g hm
  have lv := vals_ints hi
  have le1 : (ns.map V.int).length ≤ sizeLine := by
    rw [List.length_map]
    omega
  cases hk : (K w.params).lookup a with
  | some u =>
    have e := kx a u hk
    rw [hob] at e
    cases e
    have hS : SqL (K w.params) (fun _ => none) a (ns.map V.int) := .inr ⟨_, us.toArray, _, hk, rfl, rfl, rfl, by rw [List.size_toArray, ← lv.length]; exact le1, by simpa using lv⟩
    exact top_run kx G.T.g G.T.b G.T.builtins G.T.nolimit hg hob hr hF bd (fun _ _ _ c => c) (fun _ => .inl rfl) (hsp _ _ _ _ hle hS) (fun b t c => by cases (show (none : Option HO) = some t from c)) fun b c => absurd rfl c
  | none =>
    obtain ⟨H, eH⟩ : ∃ H : Hp, H = upd (fun _ => none) a (.frz { cls := .type "list", data := .seq us.toArray } (.lst (ns.map V.int))) := ⟨_, rfl⟩
    have ea : H a = some (.frz { cls := .type "list", data := .seq us.toArray } (.lst (ns.map V.int))) := by rw [eH]; exact upd_same
    have en : ∀ b, b ≠ a → H b = none := fun b c => by rw [eH]; exact upd_ne c
    refine top_run kx G.T.g G.T.b G.T.builtins G.T.nolimit hg hob hr hF bd (fun _ _ _ c => c) (H := H) (fun b => ?_) (hsp _ _ _ _ hle (.inl (.inr ⟨_, ea⟩))) (fun b t c => ?_) fun b c => ?_
    · by_cases e : b = a
      · exact .inr ⟨_, _, by rw [e]; exact ea⟩
      · exact .inl (en b e)
    · by_cases e : b = a
      · rw [e] at c
        rw [ea] at c
        cases c
        rw [e]
        exact ⟨hob, le1, us, _, lv, hob⟩
      · rw [en b e] at c
        cases c
    · by_cases e : b = a
      · rw [e]
        exact ⟨rfl, hk⟩
      · exact absurd (en b e) c
end D

namespace D
open PySem PySem.Spec PyProof.Rows L2
/-! ### defs that take any number of arguments -/
section
variable {P : Program} {w : World} {K : PySem.W.Frag} {mg : Str → Option Value} {base : Heap}
/-- what such a def promises: what is left over is a new tuple -/
def spStar (n : Nat) (sp : Sp) : Sp := fun vs H Q E => ∃ ws rest, vs = ws ++ rest ∧ ws.length = n ∧ rest.length ≤ sizeLine ∧ ∀ p, H p = Option.none → sp (ws ++ [V.ref p]) (upd H p (.tup rest)) Q E
theorem Fun.okS {x qual : Str} {st : Stmt} {f : Addr} {fd : FuncData} {N ps : List Str} {pv : Str} {k : Nat} {sp : Sp} (F : Fun K x qual st f fd) (S : FnScope N (ps ++ [pv]) (defScope st))
    (hb : ∀ (kV doc pm : Value) (an : Option Addr) (cdv ct : Value) (us rest : List Value), us.length = ps.length → bindArgs (PySem.W.fnOf x qual (defArgs st) (defBody st) (defScope st) .none kV doc pm an cdv ct) ⟨us ++ rest, []⟩ = (newTuple rest >>= fun t => pure (ps.zip us ++ [(pv, t)])))
    (body : ∀ (c : Value) (A : Around) (fr : List Env) (s : Shared) (H : Hp) (vs : List V) (Q : VK) (E : XK), Room k (A.deeper (envOfC qual (defScope st) s.heap.objs.size f c)) → sp vs H Q E →
      ∃ t, PSs (cxOf CX0 P w K mg base N qual (defScope st) f c A fr s H E) (defBody st) t ∧ t { nx := fun _ H' => Q .non H', rt := Q } (start N vs) H) : FnR P w K mg base CX0 (k + 1) f (spStar ps.length sp) := by
  obtain ⟨oc, od, kV, doc, pm, an, c, ct, osl, rfl, lk, hc⟩ := F.ex
  exact StX.fn_star lk hc S StX.cxUp_none (hb kV doc pm an c ct) fun A fr s H vs Q E hr hs => body c A fr s H vs Q E hr hs
end
section
variable {X : Cx} {CX : CXT} {k : Nat} {f : Addr} {sp : Sp} {E : XK} {x : Str} {p pos : Pos} {e : Expr} {es : List Expr} {t : TA}
theorem pe_callR (F : FnR X.prog X.w X.K X.mg X.base CX k f sp) (hr : Room k X.A) (hg : Gl X x) (hm : X.mg x = some (.ref f)) (hk : PySem.W.keepIn X.K (.ref f) = true) (hx : Passes CX X E) (ha : PA X (e :: es) t)
    (hdb : (x == ("__debug__" : Str)) = false := by decide) (he : starEach (e :: es) X.env = (false, eval e X.env) :: starEach es X.env := by rfl) (hpl : (backTo pos (starEach es X.env)).any (·.1) = false := by rfl) : PE X (.Call (.Name x p) (e :: es) [] pos) (tCall sp [] E t) := by
  refine ⟨fun pins s σ H Q I h => wpAny_Call_Name_kw (ld_glob I hg hm ?_ hdb)⟩
  refine PySem.W.callWith_K (h₀ := X.base) I.ok.mod.kin hk (thn (ha.run pos pins s σ H _ I h) fun us s1 ⟨vs, H1, I1, r, q⟩ => ⟨I1.kIn, ?_⟩) he hpl
  have q0 : sp (vs ++ []) H1 Q E := q
  rw [List.append_nil] at q0
  exact wpAny_call (run_fnR F hr hx I1 r q0)
theorem pe_callR0 (F : FnR X.prog X.w X.K X.mg X.base CX k f sp) (hr : Room k X.A) (hg : Gl X x) (hm : X.mg x = some (.ref f)) (hk : PySem.W.keepIn X.K (.ref f) = true) (hx : Passes CX X E)
    (hdb : (x == ("__debug__" : Str)) = false := by decide) : PE X (.Call (.Name x p) [] [] pos) (tCall sp [] E tNil) :=
  ⟨fun pins s σ H Q I h => wpAny_Call_Name_kw (ld_glob I hg hm (PySem.W.callWith_K0 I.kIn hk (wpAny_call (run_fnR (us := []) (vs := []) F hr hx I .nil h))) hdb)⟩
end
end D

namespace D
open PySem PySem.Spec PyProof.Rows L2
/-! ### data that may be compared and shown -/
structure Gd (B n : Nat) (d : PyData) : Prop where
  lay : d.canLay0 = true
  deep : d.depth ≤ n
  short : d.leavesShort 13 = true
  show' : d.showable = true
  nod : d.hasDict = false
  bulk : d.bulk ≤ B
theorem Gd.le {B n B' n' : Nat} {d : PyData} (h : Gd B n d) (hB : B ≤ B') (hn : n ≤ n') : Gd B' n' d := ⟨h.lay, Nat.le_trans h.deep hn, h.short, h.show', h.nod, Nat.le_trans h.bulk hB⟩
theorem log40 {n : Nat} (h : n < 10 ^ 12) : n.log2 < 1920 := by
  rcases Nat.eq_zero_or_pos n with z | z
  · subst z
    decide
  · have := (Nat.log2_lt (by omega)).mpr (Nat.lt_of_lt_of_le h (by decide : 10 ^ 12 ≤ 2 ^ 40))
    omega
theorem Gd.int {i : Int} (h : i.natAbs < 10 ^ 12) : Gd 0 0 (.int i) := ⟨by simp [PyData.canLay0], Nat.le_refl _, decide_eq_true (PyData.shown_int_le h), decide_eq_true (log40 h), rfl, Nat.le_refl _⟩
theorem Gd.str {x : Str} {B : Nat} (h : ∀ c ∈ x.cps.toList, c < 0x110000) (hl : x.length ≤ B) : Gd B 0 (.str x) := ⟨by
  simp only [PyData.canLay0, PyData.strOk]
  rw [← Array.all_toList]
  exact List.all_eq_true.mpr fun c hc => decide_eq_true (h c hc), Nat.le_refl _, List.all_eq_true.mpr fun c hc => decide_eq_true (Nat.lt_of_lt_of_le (h c hc) (by decide)), rfl, rfl, hl⟩
theorem Gd.non : Gd 0 0 .none := ⟨by simp [PyData.canLay0], Nat.le_refl _, rfl, rfl, rfl, Nat.le_refl _⟩
/-- rows of such data: B bounds the items together -/
structure GdAll (B n : Nat) (ds : List PyData) : Prop where
  lay : PyData.canLayAll0 ds = true
  deep : PyData.depthAll ds ≤ n
  short : PyData.leavesShortAll 13 ds = true
  show' : PyData.showableAll ds = true
  nod : PyData.hasDictAll ds = false
  bulk : PyData.bulkAll ds ≤ B
theorem GdAll.nil {n : Nat} : GdAll 0 n [] := ⟨rfl, Nat.zero_le _, rfl, rfl, rfl, Nat.le_refl _⟩
theorem GdAll.cons {B C n : Nat} {d : PyData} {ds : List PyData} (h : Gd B n d) (g : GdAll C n ds) : GdAll (B + 1 + C) n (d :: ds) := by
  refine ⟨?_, ?_, ?_, ?_, ?_, ?_⟩
  · simp only [PyData.canLayAll0, h.lay, g.lay, Bool.and_self]
  · have := h.deep
    have := g.deep
    simp only [PyData.depthAll]
    omega
  · simp only [PyData.leavesShortAll, h.short, g.short, Bool.and_self]
  · simp only [PyData.showableAll, h.show', g.show', Bool.and_self]
  · simp only [PyData.hasDictAll, h.nod, g.nod, Bool.or_self]
  · have := h.bulk
    have := g.bulk
    simp only [PyData.bulkAll]
    omega
theorem GdAll.le {B n B' n' : Nat} {d : List PyData} (h : GdAll B n d) (hB : B ≤ B') (hn : n ≤ n') : GdAll B' n' d := ⟨h.lay, Nat.le_trans h.deep hn, h.short, h.show', h.nod, Nat.le_trans h.bulk hB⟩
theorem GdAll.all {B n : Nat} : ∀ {ds : List PyData}, (∀ d ∈ ds, Gd B n d) → GdAll (ds.length * (B + 1)) n ds
  | [], _ => GdAll.nil.le (Nat.zero_le _) (Nat.le_refl _)
  | d :: r, h => ((GdAll.all fun z hz => h z (List.mem_cons_of_mem _ hz)).cons (h d List.mem_cons_self)).le (by rw [List.length_cons, Nat.succ_mul]; omega) (Nat.le_refl _)
theorem GdAll.tup {B n : Nat} {ds : List PyData} (h : GdAll B n ds) : Gd B (n + 1) (.tuple ds) := by
  refine ⟨?_, ?_, ?_, ?_, ?_, ?_⟩
  · simp only [PyData.canLay0, h.lay]
  · have := h.deep
    simp only [PyData.depth]
    omega
  · simp only [PyData.leavesShort, h.short]
  · simp only [PyData.showable, h.show']
  · simp only [PyData.hasDict, h.nod]
  · exact h.bulk
theorem GdAll.lst {B n : Nat} {ds : List PyData} (h : GdAll B n ds) : Gd B (n + 1) (.list ds) := by
  refine ⟨?_, ?_, ?_, ?_, ?_, ?_⟩
  · simp only [PyData.canLay0, h.lay]
  · have := h.deep
    simp only [PyData.depth]
    omega
  · simp only [PyData.leavesShort, h.short]
  · simp only [PyData.showable, h.show']
  · simp only [PyData.hasDict, h.nod]
  · exact h.bulk
theorem Gd.shaped {B n : Nat} {d : PyData} (h : Gd B n d) (hn : n ≤ 40) : SeqAt.shaped d = true := by
  refine Bool.and_eq_true_iff.mpr ⟨h.lay, decide_eq_true ?_⟩
  have := h.deep
  omega
theorem Gd.refl {B n : Nat} {d : PyData} (h : Gd B n d) : PyData.eqv d d = true := SeqAt.eqv_refl d h.lay
theorem Gd.showing {B n : Nat} {d : PyData} (h : Gd B n d) (hn : n ≤ 40) (hB : B ≤ 1000000) : d.showable = true ∧ d.hasDict = false ∧ d.depth ≤ 64 ∧ d.shown.length ≤ sizeLine := by
  have h1 := PyData.shown_le_bulk 13 (by decide) d h.short
  have := h.deep
  have := h.bulk
  refine ⟨h.show', h.nod, by omega, ?_⟩
  rw [sizeLine_eq]
  omega
/-! ### shapes -/
inductive Lf where
  | text (f : PyData)
  | button (w : PyData)
  | put (c : PyData) (fs : List PyData)
  | each (f m k c : PyData) (fs : List PyData)
inductive Sh where
  | leaf (l : Lf)
  | whn (f : PyData) (a b : Sh)
  | line (r : Bool) (ps : List Sh)
def sText : Str := Str.ofString "text"
def sButton : Str := Str.ofString "button"
def sPut : Str := Str.ofString "put"
def sEach : Str := Str.ofString "each"
def sWhen : Str := Str.ofString "when"
def sLine (r : Bool) : Str := if r = true then Str.ofString "row" else Str.ofString "col"
def Lf.enc : Lf → PyData
  | .text f => .tuple [.str sText, f]
  | .button w => .tuple [.str sButton, w]
  | .put c fs => .tuple [.str sPut, c, .tuple fs]
  | .each f m k c fs => .tuple [.str sEach, f, m, k, c, .tuple fs]
mutual
def Sh.enc : Sh → PyData
  | .leaf l => l.enc
  | .whn f a b => .tuple [.str sWhen, f, a.enc, b.enc]
  | .line r ps => .tuple [.str (sLine r), .tuple (Sh.encAll ps)]
def Sh.encAll : List Sh → List PyData
  | [] => []
  | p :: r => p.enc :: Sh.encAll r
end
mutual
def Sh.dep : Sh → Nat
  | .leaf _ => 1
  | .whn _ a b => Nat.max a.dep b.dep + 1
  | .line _ ps => Sh.depAll ps + 1
def Sh.depAll : List Sh → Nat
  | [] => 0
  | p :: r => Nat.max p.dep (Sh.depAll r)
end
mutual
def Sh.subs : Sh → List Sh
  | .leaf l => [.leaf l]
  | .whn f a b => .whn f a b :: (a.subs ++ (b.subs ++ []))
  | .line r ps => .line r ps :: Sh.subsAll ps
def Sh.subsAll : List Sh → List Sh
  | [] => []
  | p :: r => p.subs ++ Sh.subsAll r
end
def Sh.inner : Sh → List Sh
  | .leaf _ => []
  | .whn _ a b => [a, b]
  | .line _ ps => ps
theorem encAll_map : ∀ ps : List Sh, Sh.encAll ps = ps.map Sh.enc
  | [] => by rw [Sh.encAll, List.map_nil]
  | p :: r => by rw [Sh.encAll, encAll_map r, List.map_cons]
theorem subsAll_map : ∀ ps : List Sh, Sh.subsAll ps = (ps.map Sh.subs).flatten
  | [] => by rw [Sh.subsAll, List.map_nil, List.flatten_nil]
  | p :: r => by rw [Sh.subsAll, subsAll_map r, List.map_cons, List.flatten_cons]
theorem depAll_mem : ∀ {ps : List Sh} {p : Sh}, p ∈ ps → p.dep ≤ Sh.depAll ps
  | q :: r, p, h => by
    rw [Sh.depAll]
    rcases List.mem_cons.mp h with rfl | h
    · exact Nat.le_max_left _ _
    · exact Nat.le_trans (depAll_mem h) (Nat.le_max_right _ _)
theorem depAll_le : ∀ {ps : List Sh} {n : Nat}, (∀ p ∈ ps, p.dep ≤ n) → Sh.depAll ps ≤ n
  | [], n, _ => by rw [Sh.depAll]; exact Nat.zero_le _
  | q :: r, n, h => by
    rw [Sh.depAll]
    exact Nat.max_le.mpr ⟨h q List.mem_cons_self, depAll_le fun p hp => h p (List.mem_cons_of_mem _ hp)⟩
theorem dep_inner {s p : Sh} (h : p ∈ s.inner) : p.dep < s.dep := by
  cases s with
  | leaf l => cases h
  | whn f a b =>
    simp only [Sh.inner, List.mem_cons, List.not_mem_nil, or_false] at h
    rw [Sh.dep]
    rcases h with rfl | rfl
    · exact Nat.lt_succ_of_le (Nat.le_max_left _ _)
    · exact Nat.lt_succ_of_le (Nat.le_max_right _ _)
  | line r ps =>
    rw [Sh.dep]
    exact Nat.lt_succ_of_le (depAll_mem h)
theorem dep_pos (s : Sh) : 0 < s.dep := by
  cases s <;> rw [Sh.dep] <;> omega
theorem subs_eq (s : Sh) : s.subs = s :: (s.inner.map Sh.subs).flatten := by
  cases s with
  | leaf l => rw [Sh.subs]; rfl
  | whn f a b => rw [Sh.subs]; rfl
  | line r ps => rw [Sh.subs, subsAll_map]; rfl
theorem dep_eq (s : Sh) : s.dep = Sh.depAll s.inner + 1 := by
  cases s with
  | leaf l => rw [Sh.dep]; rfl
  | whn f a b =>
    rw [Sh.dep]
    simp only [Sh.inner, Sh.depAll, Nat.max_eq_left (Nat.zero_le _)]
  | line r ps => rw [Sh.dep]; rfl
/-- the parts of a shape stand behind it, in a row -/
theorem subs_slice : ∀ (n : Nat) (s : Sh), s.dep ≤ n → ∀ (i : Nat) (t : Sh), s.subs[i]? = some t → (s.subs.drop i).take t.subs.length = t.subs := by
  intro n
  induction n with
  | zero => intro s h; exact absurd (dep_pos s) (by omega)
  | succ n ih =>
    intro s hs i t hi
    rw [subs_eq s] at hi ⊢
    cases i with
    | zero =>
      cases hi
      rw [List.drop_zero, ← subs_eq]
      exact List.take_of_length_le (Nat.le_refl _)
    | succ i =>
      rw [List.getElem?_cons_succ] at hi
      rw [List.drop_succ_cons]
      have hd : ∀ p ∈ s.inner, p.dep ≤ n := fun p hp => by
        have := dep_inner hp
        omega
      revert hi hd
      generalize s.inner = ps
      intro hi hd
      induction ps generalizing i with
      | nil => simp at hi
      | cons p r ihp =>
        rw [List.map_cons, List.flatten_cons] at hi ⊢
        by_cases c : i < p.subs.length
        · rw [List.getElem?_append_left c] at hi
          have e := ih p (hd p List.mem_cons_self) i t hi
          have l1 : t.subs.length ≤ (p.subs.drop i).length := by
            have := congrArg List.length e
            rw [List.length_take] at this
            omega
          rw [List.drop_append_of_le_length (by omega), List.take_append_of_le_length l1]
          exact e
        · rw [List.getElem?_append_right (by omega)] at hi
          rw [List.drop_append, List.drop_of_length_le (by omega), List.nil_append]
          exact ihp _ hi fun q hq => hd q (List.mem_cons_of_mem _ hq)
/-- a shape that was drawn -/
def Lf.ok : Lf → Prop
  | .text f => Gd 150 3 f
  | .button w => Gd 8 0 w
  | .put c fs => Gd 8 0 c ∧ fs.length ≤ 3 ∧ ∀ f ∈ fs, Gd 50 2 f
  | .each f m k c fs => Gd 50 2 f ∧ Gd 24 2 m ∧ Gd 50 2 k ∧ Gd 8 0 c ∧ fs.length ≤ 3 ∧ ∀ f ∈ fs, Gd 50 2 f
def okLen (n : Nat) : Prop := n ≤ 8 ∨ n = 11
mutual
def Sh.ok : Sh → Prop
  | .leaf l => l.ok
  | .whn f a b => Gd 150 3 f ∧ a.ok ∧ b.ok
  | .line _ ps => okLen ps.length ∧ Sh.okAll ps
def Sh.okAll : List Sh → Prop
  | [] => True
  | p :: r => p.ok ∧ Sh.okAll r
end
theorem okAll_iff : ∀ {ps : List Sh}, Sh.okAll ps ↔ ∀ p ∈ ps, p.ok
  | [] => by rw [Sh.okAll]; exact ⟨fun _ _ h => (nomatch h), fun _ => trivial⟩
  | q :: r => by
    rw [Sh.okAll, okAll_iff (ps := r)]
    simp
theorem ok_inner {s p : Sh} (h : s.ok) (hp : p ∈ s.inner) : p.ok := by
  cases s with
  | leaf l => cases hp
  | whn f a b =>
    rw [Sh.ok] at h
    simp only [Sh.inner, List.mem_cons, List.not_mem_nil, or_false] at hp
    rcases hp with rfl | rfl
    · exact h.2.1
    · exact h.2.2
  | line r ps =>
    rw [Sh.ok, okAll_iff] at h
    exact h.2 p hp
theorem gstr (x : String) (B : Nat) (h : ((Str.ofString x).cps.toList.all fun c => decide (c < 0x110000)) = true) (hl : (Str.ofString x).length ≤ B) : Gd B 0 (.str (Str.ofString x)) := Gd.str (fun c hc => of_decide_eq_true (List.all_eq_true.mp h c hc)) hl
theorem Gd.up {B n : Nat} {d : PyData} (h : Gd B 0 d) : Gd B n d := h.le (Nat.le_refl _) (Nat.zero_le _)
theorem Lf.gd {l : Lf} (h : l.ok) : Gd 310 4 l.enc := by
  cases l with
  | text f => exact ((((GdAll.nil).cons (show Gd 150 3 f from h)).cons (gstr "text" 10 (by decide +kernel) (by decide +kernel)).up).tup).le (by omega) (Nat.le_refl _)
  | button w => exact ((((GdAll.nil (n := 0)).cons (show Gd 8 0 w from h)).cons (gstr "button" 10 (by decide +kernel) (by decide +kernel))).tup).le (by omega) (by omega)
  | put c fs =>
    obtain ⟨h1, h2, h3⟩ := h
    have hf := (GdAll.all h3).tup
    refine ((((GdAll.nil.cons hf).cons h1.up).cons (gstr "put" 10 (by decide +kernel) (by decide +kernel)).up).tup).le ?_ (Nat.le_refl _)
    omega
  | each f m k c fs =>
    obtain ⟨g1, g2, g3, h1, h2, h3⟩ := h
    have hf := (GdAll.all h3).tup
    refine (((((((GdAll.nil.cons hf).cons h1.up).cons (g3.le (Nat.le_refl _) (by omega))).cons (g2.le (Nat.le_refl _) (by omega))).cons (g1.le (Nat.le_refl _) (by omega))).cons (gstr "each" 10 (by decide +kernel) (by decide +kernel)).up).tup).le ?_ (Nat.le_refl _)
    omega
def Sh.cnt (s : Sh) : Nat := s.subs.length
theorem cnt_eq (s : Sh) : s.cnt = (s.inner.map Sh.cnt).sum + 1 := by
  unfold Sh.cnt
  rw [subs_eq, List.length_cons, List.length_flatten, List.map_map]
  rfl
theorem cnt_pos (s : Sh) : 0 < s.cnt := by rw [cnt_eq]; omega
theorem GdAll.shs {n B : Nat} : ∀ {ps : List Sh}, (∀ p ∈ ps, Gd (310 * p.cnt) n p.enc) → GdAll (310 * (ps.map Sh.cnt).sum + ps.length) n (ps.map Sh.enc)
  | [], _ => GdAll.nil.le (Nat.zero_le _) (Nat.le_refl _)
  | p :: r, h => ((GdAll.shs (B := B) fun z hz => h z (List.mem_cons_of_mem _ hz)).cons (h p List.mem_cons_self)).le (by simp only [List.map_cons, List.sum_cons, List.length_cons]; omega) (Nat.le_refl _)
theorem Sh.gd : ∀ (n : Nat) (s : Sh), s.dep ≤ n → s.ok → Gd (310 * s.cnt) (2 * n + 4) s.enc := by
  intro n
  induction n with
  | zero => intro s h; exact absurd (dep_pos s) (by omega)
  | succ n ih =>
    intro s hs ho
    have hi : ∀ p ∈ s.inner, Gd (310 * p.cnt) (2 * n + 4) p.enc := fun p hp => ih p (by have := dep_inner hp; omega) (ok_inner ho hp)
    have hc := cnt_eq s
    cases s with
    | leaf l =>
      rw [Sh.ok] at ho
      have hp := cnt_pos (.leaf l)
      exact (Lf.gd ho).le (by omega) (by omega)
    | whn f a b =>
      rw [Sh.ok] at ho
      have ga := hi a (by simp [Sh.inner])
      have gb := hi b (by simp [Sh.inner])
      rw [Sh.enc]
      refine (((((GdAll.nil.cons gb).cons ga).cons (ho.1.le (Nat.le_refl _) (by omega))).cons (gstr "when" 10 (by decide +kernel) (by decide +kernel)).up).tup).le ?_ (by omega)
      rw [hc]
      simp only [Sh.inner, List.map_cons, List.map_nil, List.sum_cons, List.sum_nil]
      omega
    | line r ps =>
      rw [Sh.ok] at ho
      have hl : ps.length ≤ 11 := by rcases ho.1 with z | z <;> omega
      have g := (GdAll.shs (B := 0) hi).tup
      have gs : Gd 10 0 (.str (sLine r)) := by
        unfold sLine
        cases r
        · exact gstr "col" 10 (by decide +kernel) (by decide +kernel)
        · exact gstr "row" 10 (by decide +kernel) (by decide +kernel)
      rw [Sh.enc, encAll_map]
      refine (((GdAll.nil.cons g).cons gs.up).tup).le ?_ (by omega)
      rw [hc]
      simp only [Sh.inner] at g ⊢
      omega
end D

namespace D
open PySem PySem.Spec PyProof.Rows L2
/-- a tuple of any making behind a list -/
theorem ext_tup (l : Addr) (xs : Array Value) (n : Nat) (b : Addr) (ys : Array Value) (m : Nat) (dd : Option Addr) (sl : Array (Option Value)) (h0 : ¬(!xs.isEmpty && Builtin.List.listTooLong (xs.size + ys.size)) = true) (h1 : xs.size ≤ sizeLine) (h2 : xs.size + ys.size ≤ sizeLine + 1) :
    Meets (Builtin.«list.extend» ⟨[.ref l, .ref b], []⟩) (fun _ R s => s.heap.get? l = some { cls := .type "list", dict := none, data := .seq xs n, slots := #[] } ∧ s.heap.get? b = some { cls := .type "tuple", dict := dd, data := .seq ys m, slots := sl } ∧ R (.ok (.ret Value.none)) { s with heap := s.heap.update l (Obj.mapSeq fun x => x ++ ys), toks := s.toks }) :=
  .of_wp fun prog w A R s h => by
    obtain ⟨hp, g, d, tk, os⟩ := s
    obtain ⟨hl, hb, h⟩ := h
    have z : (xs ++ ys).size ≤ sizeLine + 1 := by
      rw [Array.size_append]
      exact h2
    wp_walk using (wpAny_updateSeq hl rfl (hz := h1) (_hz' := z)), wpAny_loadPart' hl, wpAny_loadPart' hb
    exact ⟨_, rfl, h⟩
end D
namespace D
open PySem PySem.Spec PyProof.Rows L2
section
variable {X : Cx} {K : PySem.W.Frag}
def rExtT (K : PySem.W.Frag) : V → List V → Hp → VK → Prop := fun x vs H Q => ∃ l b xs zs, x = .ref l ∧ vs = [.ref b] ∧ H l = some (.lst xs) ∧ SqT K H b zs ∧ xs.length + zs.length ≤ 1000000 ∧ Q .non (upd H l (.lst (xs ++ zs)))
theorem mt_extendT (h : X.K = K) : MtM X "list.extend" (rExtT K) := by
  subst h
  rintro pins s σ H x vs v us Q I rx rv ⟨l, b, xs, zs, rfl, rfl, hH, hT, le, q⟩
  cases rx
  obtain ⟨u, rfl, ru⟩ := rv.one
  cases ru
  obtain ⟨z1, its, n, r, lt, e⟩ := I.lstM hH
  obtain ⟨jts, r2, ⟨⟨c, dd, da, sl⟩, e2, hc, m, hd⟩, z2⟩ := I.tuple hT
  cases (show c = Value.type "tuple" from hc)
  cases (show da = Data.seq jts.toArray m from hd)
  have lt2 := r2.length
  have fits : its.toArray.size + jts.toArray.size ≤ 1000000 := by
    rw [List.size_toArray, List.size_toArray]
    omega
  have line := sizeLine_eq
  have short : ¬ (!its.toArray.isEmpty && Builtin.List.listTooLong (its.toArray.size + jts.toArray.size)) = true := by
    rw [notLongL (show its.toArray.size + jts.toArray.size ≤ sizeLine by omega), Bool.and_false]
    simp
  refine call_meets F.slot_list_extend ⟨_, e, rfl⟩ F.entry_list_extend (F.args_list_extend_2 _ _) (ext_tup l its.toArray n b jts.toArray m dd sl short (by omega) (by omega)) ⟨e, e2, .non, _, I.lset (its' := its ++ jts) hH e (by simp) (r.append r2) ?_, rfl, q⟩
  rw [List.length_append, line]
  omega
end
end D

namespace D
open PySem PySem.Spec PyProof.Rows L2
local macro_rules | `(tactic| walk_at "st") => `(tactic| first | exact SqT.of (by assumption) | exact Or.inl (by assumption) | exact SqT.of upd_same | fail "st")
local macro_rules | `(tactic| walk_at "ixt") => `(tactic| refine ⟨_, _, _, _, rfl, rfl, (by walk_at "st" : SqT _ _ _ _), by rfl, ?_⟩)
local macro_rules | `(tactic| walk_at "sq") => `(tactic| first | exact SqL.of (by assumption) | assumption | exact Or.inl (by assumption) | exact SqL.of upd_same | fail "sq")
local macro_rules | `(tactic| walk_at "ix") => `(tactic| refine ⟨_, _, _, _, rfl, rfl, (by walk_at "sq" : SqL _ _ _ _), by rfl, ?_⟩)
local macro_rules | `(tactic| walk_at "set") => `(tactic| refine ⟨_, _, _, _, rfl, rfl, by first | assumption | exact upd_same, by rfl, ?_⟩)
local macro_rules | `(tactic| walk_at "len") => `(tactic| refine ⟨_, _, rfl, Or.inl (by walk_at "sq" : SqL _ _ _ _), ?_⟩)
local macro_rules | `(tactic| walk_at "g") => `(tactic| repeat (first | refine ⟨_, rfl, ?_⟩ | refine ⟨_, _, rfl, rfl, ?_⟩ | refine ⟨Or.inr (by decide), ?_⟩ | refine ⟨Or.inl (by decide), ?_⟩ | refine ⟨(by decide : (0 : Int) < _), ?_⟩ | refine ⟨(⟨by decide, by decide⟩ : CDiv _ _), ?_⟩ | refine ⟨(⟨by decide, by decide, by decide⟩ : CPow _ _), ?_⟩ | refine Or.inl ⟨_, rfl, ?_⟩ | refine ⟨rfl, ?_⟩ | walk_at "ix" | walk_at "ixt" | walk_at "len" | fail "g"))
local macro_rules | `(tactic| walk_at "if") => `(tactic| refine ite2 (fun e => ?_) (fun e => ?_))
def topS (i : Nat) : Stmt := PySem.Challenge.pw_drawnanew_k32_shape_numbers.main.body.getD i (.Pass ⟨0, 0, 0, 0⟩)
abbrev s_text_shape : Stmt := topS 1
theorem sc_text_shape : FnScope ["form"] ["form"] (defScope s_text_shape) := ⟨rfl, rfl, rfl, by decide +kernel, rfl, by decide +kernel, by decide +kernel⟩
abbrev s_button_shape : Stmt := topS 2
theorem sc_button_shape : FnScope ["word"] ["word"] (defScope s_button_shape) := ⟨rfl, rfl, rfl, by decide +kernel, rfl, by decide +kernel, by decide +kernel⟩
abbrev s_row_shape : Stmt := topS 3
theorem sc_row_shape : FnScope ["parts"] ["parts"] (defScope s_row_shape) := ⟨rfl, rfl, rfl, by decide +kernel, rfl, by decide +kernel, by decide +kernel⟩
abbrev s_col_shape : Stmt := topS 4
theorem sc_col_shape : FnScope ["parts"] ["parts"] (defScope s_col_shape) := ⟨rfl, rfl, rfl, by decide +kernel, rfl, by decide +kernel, by decide +kernel⟩
abbrev s_when_shape : Stmt := topS 5
theorem sc_when_shape : FnScope ["form", "first", "second"] ["form", "first", "second"] (defScope s_when_shape) := ⟨rfl, rfl, rfl, by decide +kernel, rfl, by decide +kernel, by decide +kernel⟩
abbrev s_put_shape : Stmt := topS 6
theorem sc_put_shape : FnScope ["component", "forms"] ["component", "forms"] (defScope s_put_shape) := ⟨rfl, rfl, rfl, by decide +kernel, rfl, by decide +kernel, by decide +kernel⟩
abbrev s_each_shape : Stmt := topS 7
theorem sc_each_shape : FnScope ["form", "menu", "key", "component", "forms"] ["form", "menu", "key", "component", "forms"] (defScope s_each_shape) := ⟨rfl, rfl, rfl, by decide +kernel, rfl, by decide +kernel, by decide +kernel⟩
abbrev s_inner_shapes : Stmt := topS 8
theorem sc_inner_shapes : FnScope ["shape"] ["shape"] (defScope s_inner_shapes) := ⟨rfl, rfl, rfl, by decide +kernel, rfl, by decide +kernel, by decide +kernel⟩
abbrev s_numbered : Stmt := topS 9
theorem sc_numbered : FnScope ["shape", "shapes", "part"] ["shape"] (defScope s_numbered) := ⟨rfl, rfl, rfl, by decide +kernel, rfl, by decide +kernel, by decide +kernel⟩
abbrev s_levels : Stmt := topS 10
theorem sc_levels : FnScope ["shape", "deepest", "part", "many"] ["shape"] (defScope s_levels) := ⟨rfl, rfl, rfl, by decide +kernel, rfl, by decide +kernel, by decide +kernel⟩
abbrev s__law_mixed : Stmt := topS 12
theorem sc__law_mixed : FnScope ["_law_number_here", "_law_turn", "_law_first", "_law_second"] ["_law_number_here", "_law_turn"] (defScope s__law_mixed) := ⟨rfl, rfl, rfl, by decide +kernel, rfl, by decide +kernel, by decide +kernel⟩
abbrev s__law_bag : Stmt := topS 13
theorem sc__law_bag : FnScope ["_law_script", "_law_cell", "_law_numbers", "_law_seed", "_law_at"] ["_law_script"] (defScope s__law_bag) := ⟨rfl, rfl, rfl, by decide +kernel, rfl, by decide +kernel, by decide +kernel⟩
abbrev s__law_pick : Stmt := topS 14
theorem sc__law_pick : FnScope ["_law_bag_here", "_law_many", "_law_turn", "_law_cell", "_law_worth"] ["_law_bag_here", "_law_many"] (defScope s__law_pick) := ⟨rfl, rfl, rfl, by decide +kernel, rfl, by decide +kernel, by decide +kernel⟩
abbrev s__law_choice : Stmt := topS 15
theorem sc__law_choice : FnScope ["_law_bag_here", "_law_things"] ["_law_bag_here", "_law_things"] (defScope s__law_choice) := ⟨rfl, rfl, rfl, by decide +kernel, rfl, by decide +kernel, by decide +kernel⟩
abbrev s__law_mingled : Stmt := topS 16
theorem sc__law_mingled : FnScope ["_law_bag_here", "_law_things", "_law_left", "_law_out", "_law_step"] ["_law_bag_here", "_law_things"] (defScope s__law_mingled) := ⟨rfl, rfl, rfl, by decide +kernel, rfl, by decide +kernel, by decide +kernel⟩
abbrev s__law_number : Stmt := topS 17
theorem sc__law_number : FnScope ["_law_thing"] ["_law_thing"] (defScope s__law_number) := ⟨rfl, rfl, rfl, by decide +kernel, rfl, by decide +kernel, by decide +kernel⟩
abbrev s__law_new_name : Stmt := topS 18
theorem sc__law_new_name : FnScope ["_law_bag_here", "_law_used", "_law_letters", "_law_told", "_law_near", "_law_at", "_law_tails", "_law_step", "_law_k", "_law_tail"] ["_law_bag_here", "_law_used"] (defScope s__law_new_name) := ⟨rfl, rfl, rfl, by decide +kernel, rfl, by decide +kernel, by decide +kernel⟩
abbrev s__law_parts : Stmt := topS 19
theorem sc__law_parts : FnScope ["_law_shape"] ["_law_shape"] (defScope s__law_parts) := ⟨rfl, rfl, rfl, by decide +kernel, rfl, by decide +kernel, by decide +kernel⟩
abbrev s__law_numbered : Stmt := topS 20
theorem sc__law_numbered : FnScope ["_law_shape", "_law_out", "_law_part"] ["_law_shape"] (defScope s__law_numbered) := ⟨rfl, rfl, rfl, by decide +kernel, rfl, by decide +kernel, by decide +kernel⟩
abbrev s__law_row : Stmt := topS 21
theorem sc__law_row : FnScope ["_law_bag_here", "_law_most", "_law_items"] ["_law_bag_here", "_law_most"] (defScope s__law_row) := ⟨rfl, rfl, rfl, by decide +kernel, rfl, by decide +kernel, by decide +kernel⟩
abbrev s__law_simple : Stmt := topS 22
theorem sc__law_simple : FnScope ["_law_bag_here", "_law_readable", "_law_deep", "_law_way", "_law_word", "_law_test"] ["_law_bag_here", "_law_readable", "_law_deep"] (defScope s__law_simple) := ⟨rfl, rfl, rfl, by decide +kernel, rfl, by decide +kernel, by decide +kernel⟩
abbrev s__law_leaf : Stmt := topS 23
theorem sc__law_leaf : FnScope ["_law_bag_here", "_law_used", "_law_readable", "_law_way", "_law_inner", "_law_forms", "_law_menu", "_law_step"] ["_law_bag_here", "_law_used", "_law_readable"] (defScope s__law_leaf) := ⟨rfl, rfl, rfl, by decide +kernel, rfl, by decide +kernel, by decide +kernel⟩
abbrev s__law_grown : Stmt := topS 24
theorem sc__law_grown : FnScope ["_law_bag_here", "_law_used", "_law_readable", "_law_level", "_law_left", "_law_way", "_law_many", "_law_parts_here", "_law_step", "_law_first", "_law_second"] ["_law_bag_here", "_law_used", "_law_readable", "_law_level", "_law_left"] (defScope s__law_grown) := ⟨rfl, rfl, rfl, by decide +kernel, rfl, by decide +kernel, by decide +kernel⟩
abbrev s__law_lined : Stmt := topS 25
theorem sc__law_lined : FnScope ["_law_word", "_law_p"] ["_law_word", "_law_p"] (defScope s__law_lined) := ⟨rfl, rfl, rfl, by decide +kernel, rfl, by decide +kernel, by decide +kernel⟩
abbrev s__law_sown : Stmt := topS 26
theorem sc__law_sown : FnScope ["_law_called", "_law_f"] ["_law_called", "_law_f"] (defScope s__law_sown) := ⟨rfl, rfl, rfl, by decide +kernel, rfl, by decide +kernel, by decide +kernel⟩
abbrev s__law_listed : Stmt := topS 27
theorem sc__law_listed : FnScope ["_law_test", "_law_menu", "_law_key", "_law_called", "_law_f"] ["_law_test", "_law_menu", "_law_key", "_law_called", "_law_f"] (defScope s__law_listed) := ⟨rfl, rfl, rfl, by decide +kernel, rfl, by decide +kernel, by decide +kernel⟩
abbrev s__law_built : Stmt := topS 28
theorem sc__law_built : FnScope ["_law_shape", "_law_word", "_law_part"] ["_law_shape"] (defScope s__law_built) := ⟨rfl, rfl, rfl, by decide +kernel, rfl, by decide +kernel, by decide +kernel⟩
abbrev s__law_high : Stmt := topS 29
theorem sc__law_high : FnScope ["_law_shape", "_law_high_here", "_law_part", "_law_inner"] ["_law_shape"] (defScope s__law_high) := ⟨rfl, rfl, rfl, by decide +kernel, rfl, by decide +kernel, by decide +kernel⟩
abbrev s__law_asked : Stmt := topS 30
theorem sc__law_asked : FnScope ["_law_shape", "_law_due", "_law_built_here", "_law_told", "_law_high_here", "_law_at", "_law_part"] ["_law_shape"] (defScope s__law_asked) := ⟨rfl, rfl, rfl, by decide +kernel, rfl, by decide +kernel, by decide +kernel⟩
abbrev s__law_unchecked : Stmt := topS 31
theorem sc__law_unchecked : FnScope ["_law_bag_here", "_law_odd", "_law_first", "_law_second", "_law_third"] ["_law_bag_here", "_law_odd"] (defScope s__law_unchecked) := ⟨rfl, rfl, rfl, by decide +kernel, rfl, by decide +kernel, by decide +kernel⟩
abbrev s_law : Stmt := topS 32
theorem sc_law : FnScope ["_law_script", "_law_bag_here", "_law_used", "_law_step", "_law_readable", "_law_turn", "_law_left"] ["_law_script"] (defScope s_law) := ⟨rfl, rfl, rfl, by decide +kernel, rfl, by decide +kernel, by decide +kernel⟩

structure Txt (K : PySem.W.Frag) (mg : Str → Option Value) where
  f_text_shape : Addr
  d_text_shape : FuncData
  F_text_shape : Fun K "text_shape" "text_shape" s_text_shape f_text_shape d_text_shape
  b_text_shape : Binds K d_text_shape ["form"] []
  g_text_shape : mg "text_shape" = some (.ref f_text_shape)
  f_button_shape : Addr
  d_button_shape : FuncData
  F_button_shape : Fun K "button_shape" "button_shape" s_button_shape f_button_shape d_button_shape
  b_button_shape : Binds K d_button_shape ["word"] []
  g_button_shape : mg "button_shape" = some (.ref f_button_shape)
  f_row_shape : Addr
  d_row_shape : FuncData
  F_row_shape : Fun K "row_shape" "row_shape" s_row_shape f_row_shape d_row_shape
  g_row_shape : mg "row_shape" = some (.ref f_row_shape)
  f_col_shape : Addr
  d_col_shape : FuncData
  F_col_shape : Fun K "col_shape" "col_shape" s_col_shape f_col_shape d_col_shape
  g_col_shape : mg "col_shape" = some (.ref f_col_shape)
  f_when_shape : Addr
  d_when_shape : FuncData
  F_when_shape : Fun K "when_shape" "when_shape" s_when_shape f_when_shape d_when_shape
  b_when_shape : Binds K d_when_shape ["form", "first", "second"] []
  g_when_shape : mg "when_shape" = some (.ref f_when_shape)
  f_put_shape : Addr
  d_put_shape : FuncData
  F_put_shape : Fun K "put_shape" "put_shape" s_put_shape f_put_shape d_put_shape
  g_put_shape : mg "put_shape" = some (.ref f_put_shape)
  f_each_shape : Addr
  d_each_shape : FuncData
  F_each_shape : Fun K "each_shape" "each_shape" s_each_shape f_each_shape d_each_shape
  g_each_shape : mg "each_shape" = some (.ref f_each_shape)
  f_inner_shapes : Addr
  d_inner_shapes : FuncData
  F_inner_shapes : Fun K "inner_shapes" "inner_shapes" s_inner_shapes f_inner_shapes d_inner_shapes
  b_inner_shapes : Binds K d_inner_shapes ["shape"] []
  g_inner_shapes : mg "inner_shapes" = some (.ref f_inner_shapes)
  f_numbered : Addr
  d_numbered : FuncData
  F_numbered : Fun K "numbered" "numbered" s_numbered f_numbered d_numbered
  b_numbered : Binds K d_numbered ["shape"] []
  g_numbered : mg "numbered" = some (.ref f_numbered)
  f_levels : Addr
  d_levels : FuncData
  F_levels : Fun K "levels" "levels" s_levels f_levels d_levels
  b_levels : Binds K d_levels ["shape"] []
  g_levels : mg "levels" = some (.ref f_levels)
  f__law_mixed : Addr
  d__law_mixed : FuncData
  F__law_mixed : Fun K "_law_mixed" "_law_mixed" s__law_mixed f__law_mixed d__law_mixed
  b__law_mixed : Binds K d__law_mixed ["_law_number_here", "_law_turn"] []
  g__law_mixed : mg "_law_mixed" = some (.ref f__law_mixed)
  f__law_bag : Addr
  d__law_bag : FuncData
  F__law_bag : Fun K "_law_bag" "_law_bag" s__law_bag f__law_bag d__law_bag
  b__law_bag : Binds K d__law_bag ["_law_script"] []
  g__law_bag : mg "_law_bag" = some (.ref f__law_bag)
  f__law_pick : Addr
  d__law_pick : FuncData
  F__law_pick : Fun K "_law_pick" "_law_pick" s__law_pick f__law_pick d__law_pick
  b__law_pick : Binds K d__law_pick ["_law_bag_here", "_law_many"] []
  g__law_pick : mg "_law_pick" = some (.ref f__law_pick)
  f__law_choice : Addr
  d__law_choice : FuncData
  F__law_choice : Fun K "_law_choice" "_law_choice" s__law_choice f__law_choice d__law_choice
  b__law_choice : Binds K d__law_choice ["_law_bag_here", "_law_things"] []
  g__law_choice : mg "_law_choice" = some (.ref f__law_choice)
  f__law_mingled : Addr
  d__law_mingled : FuncData
  F__law_mingled : Fun K "_law_mingled" "_law_mingled" s__law_mingled f__law_mingled d__law_mingled
  b__law_mingled : Binds K d__law_mingled ["_law_bag_here", "_law_things"] []
  g__law_mingled : mg "_law_mingled" = some (.ref f__law_mingled)
  f__law_number : Addr
  d__law_number : FuncData
  F__law_number : Fun K "_law_number" "_law_number" s__law_number f__law_number d__law_number
  b__law_number : Binds K d__law_number ["_law_thing"] []
  g__law_number : mg "_law_number" = some (.ref f__law_number)
  f__law_new_name : Addr
  d__law_new_name : FuncData
  F__law_new_name : Fun K "_law_new_name" "_law_new_name" s__law_new_name f__law_new_name d__law_new_name
  b__law_new_name : Binds K d__law_new_name ["_law_bag_here", "_law_used"] []
  g__law_new_name : mg "_law_new_name" = some (.ref f__law_new_name)
  f__law_parts : Addr
  d__law_parts : FuncData
  F__law_parts : Fun K "_law_parts" "_law_parts" s__law_parts f__law_parts d__law_parts
  b__law_parts : Binds K d__law_parts ["_law_shape"] []
  g__law_parts : mg "_law_parts" = some (.ref f__law_parts)
  f__law_numbered : Addr
  d__law_numbered : FuncData
  F__law_numbered : Fun K "_law_numbered" "_law_numbered" s__law_numbered f__law_numbered d__law_numbered
  b__law_numbered : Binds K d__law_numbered ["_law_shape"] []
  g__law_numbered : mg "_law_numbered" = some (.ref f__law_numbered)
  f__law_row : Addr
  d__law_row : FuncData
  F__law_row : Fun K "_law_row" "_law_row" s__law_row f__law_row d__law_row
  b__law_row : Binds K d__law_row ["_law_bag_here", "_law_most"] []
  g__law_row : mg "_law_row" = some (.ref f__law_row)
  f__law_simple : Addr
  d__law_simple : FuncData
  F__law_simple : Fun K "_law_simple" "_law_simple" s__law_simple f__law_simple d__law_simple
  b__law_simple : Binds K d__law_simple ["_law_bag_here", "_law_readable", "_law_deep"] []
  g__law_simple : mg "_law_simple" = some (.ref f__law_simple)
  f__law_leaf : Addr
  d__law_leaf : FuncData
  F__law_leaf : Fun K "_law_leaf" "_law_leaf" s__law_leaf f__law_leaf d__law_leaf
  b__law_leaf : Binds K d__law_leaf ["_law_bag_here", "_law_used", "_law_readable"] []
  g__law_leaf : mg "_law_leaf" = some (.ref f__law_leaf)
  f__law_grown : Addr
  d__law_grown : FuncData
  F__law_grown : Fun K "_law_grown" "_law_grown" s__law_grown f__law_grown d__law_grown
  b__law_grown : Binds K d__law_grown ["_law_bag_here", "_law_used", "_law_readable", "_law_level", "_law_left"] []
  g__law_grown : mg "_law_grown" = some (.ref f__law_grown)
  f__law_lined : Addr
  d__law_lined : FuncData
  F__law_lined : Fun K "_law_lined" "_law_lined" s__law_lined f__law_lined d__law_lined
  b__law_lined : Binds K d__law_lined ["_law_word", "_law_p"] []
  g__law_lined : mg "_law_lined" = some (.ref f__law_lined)
  f__law_sown : Addr
  d__law_sown : FuncData
  F__law_sown : Fun K "_law_sown" "_law_sown" s__law_sown f__law_sown d__law_sown
  b__law_sown : Binds K d__law_sown ["_law_called", "_law_f"] []
  g__law_sown : mg "_law_sown" = some (.ref f__law_sown)
  f__law_listed : Addr
  d__law_listed : FuncData
  F__law_listed : Fun K "_law_listed" "_law_listed" s__law_listed f__law_listed d__law_listed
  b__law_listed : Binds K d__law_listed ["_law_test", "_law_menu", "_law_key", "_law_called", "_law_f"] []
  g__law_listed : mg "_law_listed" = some (.ref f__law_listed)
  f__law_built : Addr
  d__law_built : FuncData
  F__law_built : Fun K "_law_built" "_law_built" s__law_built f__law_built d__law_built
  b__law_built : Binds K d__law_built ["_law_shape"] []
  g__law_built : mg "_law_built" = some (.ref f__law_built)
  f__law_high : Addr
  d__law_high : FuncData
  F__law_high : Fun K "_law_high" "_law_high" s__law_high f__law_high d__law_high
  b__law_high : Binds K d__law_high ["_law_shape"] []
  g__law_high : mg "_law_high" = some (.ref f__law_high)
  f__law_asked : Addr
  d__law_asked : FuncData
  F__law_asked : Fun K "_law_asked" "_law_asked" s__law_asked f__law_asked d__law_asked
  b__law_asked : Binds K d__law_asked ["_law_shape"] []
  g__law_asked : mg "_law_asked" = some (.ref f__law_asked)
  f__law_unchecked : Addr
  d__law_unchecked : FuncData
  F__law_unchecked : Fun K "_law_unchecked" "_law_unchecked" s__law_unchecked f__law_unchecked d__law_unchecked
  b__law_unchecked : Binds K d__law_unchecked ["_law_bag_here", "_law_odd"] []
  g__law_unchecked : mg "_law_unchecked" = some (.ref f__law_unchecked)
  f_law : Addr
  d_law : FuncData
  F_law : Fun K "law" "law" s_law f_law d_law
  b_law : Binds K d_law ["_law_script"] []
  g_law : mg "law" = some (.ref f_law)
  m_abs : mg "abs" = none
  m_bool : mg "bool" = none
  m_enumerate : mg "enumerate" = none
  m_int : mg "int" = none
  m_isinstance : mg "isinstance" = none
  m_len : mg "len" = none
  m_list : mg "list" = none
  m_min : mg "min" = none
  m_range : mg "range" = none
  m_repr : mg "repr" = none
  m_tuple : mg "tuple" = none
section
variable {P : Program} {w : World} {K : PySem.W.Frag} {mg : Str → Option Value} {base : Heap}
def sp_mixed : Sp := fun vs H Q _ => ∃ a t : Int, vs = [.int a, .int t] ∧ ∀ w : Int, 0 ≤ w → Q (.int w) H
theorem ok_mixed (T : Txt K mg) : FnOk P w K mg base CX0 1 T.f__law_mixed T.d__law_mixed ["_law_number_here", "_law_turn"] sp_mixed := by
  refine T.F__law_mixed.ok sc__law_mixed (fun vs H Q E h => ?_) (fun cdv A outer s H vs Q E hr h => ?_)
  · obtain ⟨a, t, rfl, _⟩ := h
    rfl
  · obtain ⟨a, t, rfl, q⟩ := h
    refine ⟨_, (pss_cons (ps_set (i := 2) sc__law_mixed.nd rfl (Or.inl rfl) (pe_op op_mod (pe_callTy call_int1 (by rfl) T.m_int (by decide +kernel) (pa_cons (pe_op op_add (pe_op op_mul (pe_op op_add (pv 0) pe_int) pe_int) (pe_op op_mul (pe_op op_add (pv 1) pe_int) pe_int)) pa_nil)) pe_int))
      (pss_cons (ps_set (i := 3) sc__law_mixed.nd rfl (Or.inl rfl) (pe_op op_mod (pe_callTy call_int1 (by rfl) T.m_int (by decide +kernel) (pa_cons (pe_op op_add (pe_op op_add (pe_op op_mul (pv 2) (pv 2)) (pe_op op_mul (pv 2) pe_int)) (pe_op op_mul (pe_op op_add (pv 1) pe_int) pe_int)) pa_nil)) pe_int))
      (pss_one (ps_ret (pe_op op_mod (pe_callTy call_int1 (by rfl) T.m_int (by decide +kernel) (pa_cons (pe_op op_add (pe_op op_add (pe_op op_fdiv (pv 3) pe_int) (pe_op op_mul (pv 3) pe_int)) (pv 1)) pa_nil)) pe_int))))), ?_⟩
    walk_at "g"
    have h0 := Int.emod_nonneg ((a + 1) * 48271 + (t + 1) * 1103515245) (by decide : (2147483647 : Int) ≠ 0)
    have h1 := Int.emod_lt_of_pos ((a + 1) * 48271 + (t + 1) * 1103515245) (by decide : (0 : Int) < 2147483647)
    refine ⟨Or.inr ⟨by omega, by omega⟩, ?_⟩
    walk_at "g"
    refine q _ (Int.emod_nonneg _ (by decide))
/-- the bag is made -/
def sp_bag (K : PySem.W.Frag) : Sp := fun vs H Q _ => ∃ (a : Addr) (ns : List Int), vs = [.ref a] ∧ SqL K H a (ns.map V.int) ∧ ns.length ≤ 63 ∧
  ∀ b H', Same H H' → H b = none → Bag K (one b) H' b → Q (.ref b) H'
theorem ok_bag (T : Txt K mg) : FnOk P w K mg base CX0 1 T.f__law_bag T.d__law_bag ["_law_script"] (sp_bag K) := by
  refine T.F__law_bag.ok sc__law_bag (fun vs H Q E h => ?_) (fun cdv A outer s H vs Q E hr h => ?_)
  · obtain ⟨a, t, rfl, _⟩ := h
    rfl
  · obtain ⟨a, ns, rfl, hS, hlen, q⟩ := h
    refine ⟨_, (pss_cons (ps_setLc (i := 2) (own := [("_law_cell", 1)]) (g := gName 1) (tt := tYes) (by rfl) sc__law_bag.nd rfl rfl (sw_true rfl rfl rfl (by decide +kernel)) (pi_listK (K := K) rfl (pv 0)) (blkOk_by (own := [("_law_cell", 1)]) (N := ["_law_script", "_law_cell", "_law_numbers", "_law_seed", "_law_at"]) (sc := defScope s__law_bag) (by decide +kernel)) (fun _ _ _ _ _ => (pg_name (i := 1) sc__law_bag.nd rfl (Or.inl rfl))) (fun _ _ _ _ _ => pts_nil) (fun _ _ _ _ _ => (pe_callTy call_int1 (by rfl) T.m_int (by decide +kernel) (pa_cons (pv 1) pa_nil))))
      (pss_cons (ps_set (i := 3) sc__law_bag.nd rfl (Or.inl rfl) (pe_callB (call_lenK (K := K) rfl) (by rfl) T.m_len PySem.boot_len (pa_cons (pv 2) pa_nil)))
      (pss_cons (ps_for PassesOwn.never rfl (pi_enumK (K := K) rfl (by rfl) T.m_enumerate (pa_cons (pe_slice (sl_listK (K := K) rfl) (pv 2) po_none (po_some pe_int)) pa_nil)) (pg_tupK (K := K) rfl rfl (pgs_cons (pg_name (i := 4) sc__law_bag.nd rfl (Or.inl rfl)) (pgs_cons (pg_name (i := 1) sc__law_bag.nd rfl (Or.inl rfl)) pgs_nil))) (pss_one (ps_set (i := 3) sc__law_bag.nd rfl (Or.inl rfl) (pe_op op_mod (pe_callTy call_int1 (by rfl) T.m_int (by decide +kernel) (pa_cons (pe_op op_add (pe_op op_add (pe_op op_mul (pv 3) pe_int) (pe_op op_mod (pe_callTy call_int1 (by rfl) T.m_int (by decide +kernel) (pa_cons (pe_callB call_abs (by rfl) T.m_abs (by decide +kernel) (pa_cons (pv 1) pa_nil)) pa_nil)) pe_int)) (pe_op op_mul_ib (pe_op op_add (pv 4) pe_int) (pe_cmpR op_lt (pv 1) pe_int (nomark _)))) pa_nil)) pe_int))))
      (pss_one (ps_ret (pe_lst (pa_cons (pv 2) (pa_cons pe_int (pa_cons pe_int (pa_cons pe_int (pa_cons (pv 3) pa_nil))))))))))), ?_⟩
    refine ⟨.ref a, rfl, a, rfl, ⟨_, hS⟩, fun n hn => ?_⟩
    refine lc_list (K := K) (a := a) (xs := ns.map V.int) (fun i H' => Same H H' ∧ H' n = some (.lst ((ns.take i).map V.int))) ⟨same_new hn, by rw [upd_same]; rfl⟩ (fun i H' _ h => h.1.seq hS) (fun i x H' hx h => ?_) (fun H' h => ?_)
    · rw [List.getElem?_map] at hx
      obtain ⟨z, hz, rfl⟩ := Option.map_eq_some_iff.mp hx
      refine ⟨rfl, ?_⟩
      refine ⟨_, rfl, ?_⟩
      refine Or.inl ⟨_, rfl, ?_⟩
      refine ⟨_, h.2, ?_, fun b o e => ?_, ?_⟩
      · rw [List.length_map, List.length_take]
        exact small1000 (by omega)
      · rw [upd_ne (ne_of_none e hn)]
        exact h.1 b o e
      · rw [upd_same, List.take_add_one, hz, List.map_append]
        rfl
    · have h2 : H' n = some (.lst (ns.map V.int)) := by
        have e := h.2
        rwa [List.length_map, List.take_length] at e
      refine ⟨_, rfl, n, _, rfl, .inl (SqL.of h2), ?_⟩
      refine ⟨_, rfl, 63, rfl, n, _, rfl, SqL.of h2, fun c hc => ?_⟩
      have hcut : cutV (ns.map V.int) none (some 63) = ns.map V.int := by
        unfold cutV
        rw [show HT.sIx (ns.map V.int).length 0 none = 0 from HT.sIx_none .., show HT.sIx (ns.map V.int).length (ns.map V.int).length (some 63) = min 63 (ns.map V.int).length from HT.sIx_nat _ _ 63, List.drop_zero, Nat.sub_zero]
        rw [List.length_map, Nat.min_eq_right hlen]
        exact List.take_of_length_le (by rw [List.length_map]; exact Nat.le_refl _)
      rw [hcut]
      have hn' : n ≠ c := ne_of_none h2 hc
      refine ⟨c, _, rfl, SqL.of upd_same, ?_⟩
      refine for_enum (a := c) (xs := ns.map V.int) (fun i σ H2 => (∃ y1 z y4, σ = [some (.ref a), y1, some (.ref n), some (.int z), y4]) ∧ Same H H2 ∧ H2 n = some (.lst (ns.map V.int)) ∧ H2 c = some (.lst (ns.map V.int))) ⟨⟨_, _, _, rfl⟩, fun b o e => ?_, ?_, ?_⟩ (fun i σ H2 _ p => SqL.of p.2.2.2) (fun i x T σ H2 hx hT p => ?_) (fun σ H2 p => ?_)
      · rw [upd_ne (fun z => ?_)]
        · exact h.1 b o e
        · subst z
          rw [h.1 b o e] at hc
          cases hc
      · rw [upd_ne hn']
        exact h2
      · exact upd_same
      · obtain ⟨⟨y1, z, y4, rfl⟩, hs, e2, e3⟩ := p
        rw [List.getElem?_map] at hx
        obtain ⟨v, hv, rfl⟩ := Option.map_eq_some_iff.mp hx
        refine ⟨T, _, rfl, SqT.of upd_same, rfl, _, _, rfl, _, _, rfl, rfl, ?_⟩
        walk_at "g"
        have nT : n ≠ T := ne_of_none e2 hT
        have cT : c ≠ T := ne_of_none e3 hT
        refine ⟨⟨_, _, _, rfl⟩, fun b o e => same_new hT b o (hs b o e), ?_, ?_⟩
        · rw [upd_ne nT]
          exact e2
        · rw [upd_ne cT]
          exact e3
      · obtain ⟨⟨y1, z, y4, rfl⟩, hs, e2, e3⟩ := p
        refine ⟨_, rfl, _, rfl, (by show 5 ≤ sizeLine; decide), fun b hb => ?_⟩
        refine q b _ (fun x o e => same_new hb x o (hs x o e)) (hs.free hb) ⟨rfl, n, ns, 0, 0, 0, z, upd_same, fun e => ?_, .inl ?_, by decide, by decide⟩
        · exact ne_of_none e2 hb e
        · rw [upd_ne (ne_of_none e2 hb)]
          exact e2
/-- a number is drawn -/
def sp_pick (K : PySem.W.Frag) : Sp := fun vs H Q _ => ∃ (b : Addr) (m : Int) (M : Ms), vs = [.ref b, .int m] ∧ Bag K M H b ∧ 0 < m ∧ m < 1073741824 ∧
  ∀ (w : Int) (H' : Hp), 0 ≤ w → w < m → At b H H' → Bag K M H' b → Q (.int w) H'
theorem At.bag {M : Ms} {H H' : Hp} {b n : Addr} {ns : List Int} {p r t s : Int} (w : M b) (hn : ¬ M n) (rd : Rd H n (.lst (ns.map V.int))) (h : At b H H') (e : H' b = some (.lst [.ref n, .int p, .int r, .int t, .int s])) (hp : 0 ≤ p) (hr : 0 ≤ r) : Bag K M H' b :=
  ⟨w, n, ns, p, r, t, s, e, hn, sx_rd h.sx (fun z => hn (by rw [show n = b from z]; exact w)) rd, hp, hr⟩
theorem At.trans {H H1 H2 : Hp} {b : Addr} (h : At b H H1) (h' : At b H1 H2) : At b H H2 := fun a n => (h' a n).trans (h a n)
theorem ok_pick (T : Txt K mg) : FnOk P w K mg base CX0 2 T.f__law_pick T.d__law_pick ["_law_bag_here", "_law_many"] (sp_pick K) := by
  have G__law_mixed := ok_mixed (P := P) (w := w) (base := base) T
  refine T.F__law_pick.ok sc__law_pick (fun vs H Q E h => ?_) (fun cdv A outer s H vs Q E hr h => ?_)
  · obtain ⟨_, _, _, rfl, _⟩ := h
    rfl
  · obtain ⟨b, m, M, rfl, ⟨wb, n, ns, p, r, t, sd, hb, hn, rd, hp, hr0⟩, hm, hm2, q⟩ := h
    refine ⟨_, (pss_cons (ps_set (i := 2) sc__law_pick.nd rfl (Or.inl rfl) (pe_ix (ix_listK (K := K) rfl) (pv 0) pe_int (fun _ _ => rfl)))
      (pss_cons (ps_asg (pe_op op_add (pv 2) pe_int) (pg_sub (pv 0) pe_int set_list))
      (pss_cons (ps_if (PW.pt (pw_and (pt_cmpR op_eq (pe_ix (ix_listK (K := K) rfl) (pv 0) pe_int (fun _ _ => rfl)) pe_int (nomark _)) (pw_and1 (pt_cmpR op_lt (pe_ix (ix_listK (K := K) rfl) (pv 0) pe_int (fun _ _ => rfl)) (pe_callB (call_lenK (K := K) rfl) (by rfl) T.m_len PySem.boot_len (pa_cons (pe_ix (ix_listK (K := K) rfl) (pv 0) pe_int (fun _ _ => rfl)) pa_nil)) (nomark _))))) (pss_cons (ps_set (i := 3) sc__law_pick.nd rfl (Or.inl rfl) (pe_ix (ix_listK (K := K) rfl) (pe_ix (ix_listK (K := K) rfl) (pv 0) pe_int (fun _ _ => rfl)) (pe_ix (ix_listK (K := K) rfl) (pv 0) pe_int (fun _ _ => rfl)) (fun _ _ => rfl)))
      (pss_cons (ps_asg (pe_op op_add (pe_ix (ix_listK (K := K) rfl) (pv 0) pe_int (fun _ _ => rfl)) pe_int) (pg_sub (pv 0) pe_int set_list))
      (pss_cons (ps_if (pt_cmpR op_lt (pe_callB call_abs (by rfl) T.m_abs (by decide +kernel) (pa_cons (pv 3) pa_nil)) (pe_op op_pow pe_int pe_int) (nomark _)) (pss_one (ps_ret (pe_op op_mod (pe_callTy call_int1 (by rfl) T.m_int (by decide +kernel) (pa_cons (pe_call G__law_mixed (hr.mono (by omega)) (by rfl) T.g__law_mixed T.F__law_mixed.kp T.b__law_mixed .nil pass0 (pa_cons (pe_op op_add_ib (pe_op op_mul pe_int (pe_callB call_abs (by rfl) T.m_abs (by decide +kernel) (pa_cons (pv 3) pa_nil))) (pe_cmpR op_lt (pv 3) pe_int (nomark _))) (pa_cons (pv 2) pa_nil))) pa_nil)) (pv 1)))) pss_nil)
      (pss_one (ps_asg (pe_callB call_abs (by rfl) T.m_abs (by decide +kernel) (pa_cons (pv 3) pa_nil)) (pg_sub (pv 0) pe_int set_list)))))) pss_nil)
      (pss_cons (ps_if (pt_cmpR op_eq (pe_ix (ix_listK (K := K) rfl) (pv 0) pe_int (fun _ _ => rfl)) pe_int (nomark _)) (pss_one (ps_ret (pe_op op_mod (pe_callTy call_int1 (by rfl) T.m_int (by decide +kernel) (pa_cons (pe_call G__law_mixed (hr.mono (by omega)) (by rfl) T.g__law_mixed T.F__law_mixed.kp T.b__law_mixed .nil pass0 (pa_cons (pe_ix (ix_listK (K := K) rfl) (pv 0) pe_int (fun _ _ => rfl)) (pa_cons (pv 2) pa_nil))) pa_nil)) (pv 1)))) pss_nil)
      (pss_cons (ps_set (i := 4) sc__law_pick.nd rfl (Or.inl rfl) (pe_op op_mod (pe_callTy call_int1 (by rfl) T.m_int (by decide +kernel) (pa_cons (pe_ix (ix_listK (K := K) rfl) (pv 0) pe_int (fun _ _ => rfl)) pa_nil)) (pv 1)))
      (pss_cons (ps_asg (pe_op op_fdiv (pe_ix (ix_listK (K := K) rfl) (pv 0) pe_int (fun _ _ => rfl)) (pv 1)) (pg_sub (pv 0) pe_int set_list))
      (pss_one (ps_ret (pv 4))))))))), ?_⟩
    -- turn
    walk_at "g"
    walk_at "set"
    generalize e1 : upd H b _ = H1
    have a1 : At b H H1 := by rw [← e1]; exact At.upd
    have b1 : H1 b = some (.lst [.ref n, .int p, .int r, .int (t + 1), .int sd]) := by rw [← e1, upd_same]; rfl
    have rd1 : Rd H1 n (.lst (ns.map V.int)) := sx_rd a1.sx (fun z => hn (by rw [show n = b from z]; exact wb)) rd
    clear e1
    have fin : ∀ (w : Int) (H' : Hp) (p' r' t' : Int), At b H H' → H' b = some (.lst [.ref n, .int p', .int r', .int t', .int sd]) → 0 ≤ p' → 0 ≤ r' → Q (.int (w % m)) H' := fun w H' p' r' t' ha e h1 h2 =>
      q _ _ (Int.emod_nonneg _ (by omega)) (Int.emod_lt_of_pos _ hm) ha (ha.bag wb hn rd e h1 h2)
    with_reducible refine seq_join (fun σ H' => ∃ y3 p' r', σ = [some (.ref b), some (.int m), some (.int t), y3, none] ∧ At b H H' ∧ H' b = some (.lst [.ref n, .int p', .int r', .int (t + 1), .int sd]) ∧ 0 ≤ p' ∧ 0 ≤ r') (fun hN => ?_) (fun σ H' c => ?_)
    · have hN0 := hN _ _ ⟨none, p, r, rfl, a1, b1, hp, hr0⟩
      walk_at "g"
      walk_at "if"
      · walk_at "g"
        walk_at "if"
        · rename_i ep
          have ep' : p < ((ns.map V.int).length : Int) := of_decide_eq_true ep
          obtain ⟨j, rfl⟩ : ∃ j : Nat, p = (j : Int) := ⟨p.toNat, by omega⟩
          have hj : j < ns.length := by
            rw [List.length_map] at ep'
            omega
          have hcell : (ns.map V.int)[j]? = some (.int ns[j]) := by
            rw [List.getElem?_map, List.getElem?_eq_getElem hj]
            rfl
          walk_at "g"
          refine ⟨n, _, _, _, rfl, rfl, Or.inl rd1, atI_nat hcell, ?_⟩
          walk_at "g"
          walk_at "set"
          generalize e2 : upd H1 b _ = H2
          have a2 : At b H H2 := by rw [← e2]; exact a1.trans At.upd
          have b2 : H2 b = some (.lst [.ref n, .int ((j : Int) + 1), .int r, .int (t + 1), .int sd]) := by rw [← e2, upd_same]; rfl
          clear e2
          generalize ns[j] = c
          walk_at "g"
          walk_at "if"
          · walk_at "g"
            refine ⟨_, _, rfl, fun z hz => ?_⟩
            walk_at "g"
            refine ⟨hm, ?_⟩
            exact fin _ _ _ _ _ a2 b2 (by omega) hr0
          · walk_at "g"
            walk_at "set"
            exact hN _ _ ⟨_, _, _, rfl, a2.trans At.upd, upd_same, by omega, by split <;> omega⟩
        · exact hN0
      · exact hN0
    · obtain ⟨y3, p', r', rfl, a2, b2, hp2, hr2⟩ := c
      walk_at "g"
      walk_at "if"
      · walk_at "g"
        refine ⟨_, _, rfl, fun z hz => ?_⟩
        walk_at "g"
        refine ⟨hm, ?_⟩
        exact fin _ _ _ _ _ a2 b2 hp2 hr2
      · walk_at "g"
        refine ⟨hm, ?_⟩
        walk_at "g"
        refine ⟨⟨hm, hm2⟩, ?_⟩
        walk_at "g"
        walk_at "set"
        walk_at "g"
        exact fin _ _ _ _ _ (a2.trans At.upd) upd_same hp2 (Int.ediv_nonneg hr2 (by omega))
/-- one thing of a list is chosen -/
def sp_choice (K : PySem.W.Frag) : Sp := fun vs H Q _ => ∃ (b a : Addr) (xs : List V) (M : Ms), vs = [.ref b, .ref a] ∧ Bag K M H b ∧ SqL K H a xs ∧ a ≠ b ∧ 0 < xs.length ∧ xs.length < 1000000 ∧
  ∀ (v : V) (H' : Hp), v ∈ xs → At b H H' → Bag K M H' b → Q v H'
theorem at_pos {α : Type} {xs : List α} {w : Int} (h0 : 0 ≤ w) (h1 : w < (xs.length : Int)) : ∃ v, atI xs w = some v ∧ v ∈ xs ∧ xs[w.toNat]? = some v := by
  obtain ⟨j, rfl⟩ : ∃ j : Nat, w = (j : Int) := ⟨w.toNat, by omega⟩
  have hj : j < xs.length := by omega
  exact ⟨xs[j], atI_nat (List.getElem?_eq_getElem hj), List.getElem_mem hj, List.getElem?_eq_getElem hj⟩
theorem ok_choice (T : Txt K mg) : FnOk P w K mg base CX0 3 T.f__law_choice T.d__law_choice ["_law_bag_here", "_law_things"] (sp_choice K) := by
  have G__law_pick := ok_pick (P := P) (w := w) (base := base) T
  refine T.F__law_choice.ok sc__law_choice (fun vs H Q E h => ?_) (fun cdv A outer s H vs Q E hr h => ?_)
  · obtain ⟨_, _, _, _, rfl, _⟩ := h
    rfl
  · obtain ⟨b, a, xs, M, rfl, hB, hS, hab, hl, hl2, q⟩ := h
    refine ⟨_, (pss_one (ps_ret (pe_ix (ix_listK (K := K) rfl) (pv 1) (pe_call G__law_pick (hr.mono (by omega)) (by rfl) T.g__law_pick T.F__law_pick.kp T.b__law_pick .nil pass0 (pa_cons (pv 0) (pa_cons (pe_callB (call_lenK (K := K) rfl) (by rfl) T.m_len PySem.boot_len (pa_cons (pv 1) pa_nil)) pa_nil))) (fun _ _ => rfl)))), ?_⟩
    walk_at "g"
    refine ⟨b, _, M, rfl, hB, by omega, by omega, fun w H' h0 h1 hA hB' => ?_⟩
    have hS' := sx_l hA.sx (fun z : a = b => hab z) hS
    obtain ⟨v, hv, hm, _⟩ := at_pos h0 h1
    exact ⟨_, _, _, _, rfl, rfl, hS', hv, q v H' hm hA hB'⟩
def sp_number : Sp := fun vs H Q _ => ∃ i : Int, vs = [.int i] ∧ Q (.bl true) H
theorem ok_number (T : Txt K mg) : FnOk P w K mg base CX0 1 T.f__law_number T.d__law_number ["_law_thing"] sp_number := by
  refine T.F__law_number.ok sc__law_number (fun vs H Q E h => ?_) (fun cdv A outer s H vs Q E hr h => ?_)
  · obtain ⟨_, rfl, _⟩ := h
    rfl
  · obtain ⟨i, rfl, q⟩ := h
    refine ⟨_, (pss_one (ps_ret (pe_and (pe_callB (call_isi1K (K := K) rfl) (by rfl) T.m_isinstance (by decide +kernel) (pa_cons (pv 0) (pa_cons (pe_bltn (v := .ty "int") (u := .type "int") (by rfl) T.m_int (by decide +kernel) rfl) pa_nil))) (pe_one (pe_not (pe_callB (call_isi1K (K := K) rfl) (by rfl) T.m_isinstance (by decide +kernel) (pa_cons (pv 0) (pa_cons (pe_bltn (v := .ty "bool") (u := .type "bool") (by rfl) T.m_bool (by decide +kernel) rfl) pa_nil)))))))), ?_⟩
    walk_at "g"
    refine ⟨_, _, _, _, true, rfl, .ty _, .base (.int _), kit_ty (by decide +kernel), ?_⟩
    walk_at "g"
    walk_at "g"
    refine ⟨_, _, _, _, false, rfl, .ty _, .base (.int _), kit_ty (by decide +kernel), ?_⟩
    walk_at "g"
    exact q
end
end D

namespace D
open PySem PySem.Spec PyProof.Rows L2
local macro_rules | `(tactic| walk_at "st") => `(tactic| first | exact SqT.of (by assumption) | exact Or.inl (by assumption) | exact SqT.of upd_same | fail "st")
local macro_rules | `(tactic| walk_at "ixt") => `(tactic| refine ⟨_, _, _, _, rfl, rfl, (by walk_at "st" : SqT _ _ _ _), by rfl, ?_⟩)
local macro_rules | `(tactic| walk_at "sq") => `(tactic| first | exact SqL.of (by assumption) | assumption | exact Or.inl (by assumption) | exact SqL.of upd_same | fail "sq")
local macro_rules | `(tactic| walk_at "ix") => `(tactic| refine ⟨_, _, _, _, rfl, rfl, (by walk_at "sq" : SqL _ _ _ _), by rfl, ?_⟩)
local macro_rules | `(tactic| walk_at "set") => `(tactic| refine ⟨_, _, _, _, rfl, rfl, by first | assumption | exact upd_same, by rfl, ?_⟩)
local macro_rules | `(tactic| walk_at "len") => `(tactic| refine ⟨_, _, rfl, Or.inl (by walk_at "sq" : SqL _ _ _ _), ?_⟩)
local macro_rules | `(tactic| walk_at "g") => `(tactic| repeat (first | refine ⟨_, rfl, ?_⟩ | refine ⟨_, _, rfl, rfl, ?_⟩ | refine ⟨Or.inr (by decide), ?_⟩ | refine ⟨Or.inl (by decide), ?_⟩ | refine ⟨(by decide : (0 : Int) < _), ?_⟩ | refine ⟨(⟨by decide, by decide⟩ : CDiv _ _), ?_⟩ | refine ⟨(⟨by decide, by decide, by decide⟩ : CPow _ _), ?_⟩ | refine Or.inl ⟨_, rfl, ?_⟩ | refine ⟨rfl, ?_⟩ | walk_at "ix" | walk_at "ixt" | walk_at "len" | fail "g"))
local macro_rules | `(tactic| walk_at "if") => `(tactic| refine ite2 (fun e => ?_) (fun e => ?_))
section
variable {P : Program} {w : World} {K : PySem.W.Frag} {mg : Str → Option Value} {base : Heap}
def ok6 (z : Str) : Prop := 1 ≤ (sg z).length ∧ (sg z).length ≤ 6 ∧ (∀ c ∈ sg z, 97 ≤ c ∧ c ≤ 122)
def tl2 (l : List Nat) (k : Nat) : Str := ⟨#[l.getD (k / 26) 0, l.getD (k % 26) 0]⟩
/-- small letters -/
def Low (l : List Nat) : Prop := ∀ c ∈ l, 97 ≤ c ∧ c ≤ 122
/-- a name: one to eight small letters -/
def okN (z : Str) : Prop := 1 ≤ (sg z).length ∧ (sg z).length ≤ 8 ∧ Low (sg z)
theorem Low.app {a b : List Nat} (h : Low a) (g : Low b) : Low (a ++ b) := fun c hc => (List.mem_append.mp hc).elim (h c) (g c)
theorem Low.sub {a b : List Nat} (h : Low a) (s : ∀ c ∈ b, c ∈ a) : Low b := fun c hc => h c (s c hc)
theorem small26 {z : Str} (h : (sg z).length < 1000) : z.length ≤ sizeLine := by rw [← sg_len, sizeLine_eq]; omega
def sp_newname (K : PySem.W.Frag) : Sp := fun vs H Q _ => ∃ (b u : Addr) (ws : List Str) (M : Ms), vs = [.ref b, .ref u] ∧ Bag K M H b ∧ Mk M H ∧ M u ∧ u ≠ b ∧ H u = some (.lst (ws.map V.str)) ∧ ws.length ≤ 10 ∧ (∀ w ∈ ws, okN w) ∧
  ∀ H' z, Sx (also (one b) u) H H' → Gr H H' → Bag K M H' b → H' u = some (.lst ((ws ++ [z]).map V.str)) → okN z → z ∉ ws → Q (.str z) H'
theorem ok_newname (T : Txt K mg) : FnOk P w K mg base CX0 3 T.f__law_new_name T.d__law_new_name ["_law_bag_here", "_law_used"] (sp_newname K) := by
  have G__law_pick := ok_pick (P := P) (w := w) (base := base) T
  refine T.F__law_new_name.ok sc__law_new_name (fun vs H Q E h => ?_) (fun cdv A outer s H vs Q E hr h => ?_)
  · obtain ⟨_, _, _, _, rfl, _⟩ := h
    rfl
  · obtain ⟨b, u, ws, M, rfl, hB, hM, mu, ub, hu, lw, hws, q⟩ := h
    refine ⟨_, (pss_cons (ps_set (i := 2) sc__law_new_name.nd rfl (Or.inr rfl) pe_str)
      (pss_cons (ps_set (i := 3) sc__law_new_name.nd rfl (Or.inr rfl) (pe_join pe_str (pe_lc (own := [("_law_step", 7)]) (g := gName 7) (tt := tYes) (by rfl) sc__law_new_name.nd (pi_range1 (by rfl) T.m_range (pa_cons (pe_op op_add pe_int (pe_call G__law_pick (hr.mono (by omega)) (by rfl) T.g__law_pick T.F__law_pick.kp T.b__law_pick .nil pass0 (pa_cons (pv 0) (pa_cons pe_int pa_nil)))) pa_nil)) (blkOk_by (own := [("_law_step", 7)]) (N := ["_law_bag_here", "_law_used", "_law_letters", "_law_told", "_law_near", "_law_at", "_law_tails", "_law_step", "_law_k", "_law_tail"]) (sc := defScope s__law_new_name) (by decide +kernel)) (fun _ _ _ _ _ => (pg_name (i := 7) sc__law_new_name.nd rfl (Or.inl rfl))) (fun _ _ _ _ _ => pts_nil) (fun _ _ _ _ _ => (pe_ix ix_str (pv 2) (pe_call G__law_pick (hr.mono (by omega)) (by rfl) T.g__law_pick T.F__law_pick.kp T.b__law_pick .nil pass0 (pa_cons (pv 0) (pa_cons pe_int pa_nil))) (fun _ _ => rfl))))))
      (pss_cons (ps_if (PW.pt (pw_and (pt_truthK (K := K) rfl (pv 1) (by intro _; rfl)) (pw_and1 (pt_cmpR op_eq (pe_call G__law_pick (hr.mono (by omega)) (by rfl) T.g__law_pick T.F__law_pick.kp T.b__law_pick .nil pass0 (pa_cons (pv 0) (pa_cons pe_int pa_nil))) pe_int (nomark _))))) (pss_cons (ps_set (i := 4) sc__law_new_name.nd rfl (Or.inl rfl) (pe_slice sl_str (pe_ix (ix_listK (K := K) rfl) (pv 1) (pe_call G__law_pick (hr.mono (by omega)) (by rfl) T.g__law_pick T.F__law_pick.kp T.b__law_pick .nil pass0 (pa_cons (pv 0) (pa_cons (pe_callB (call_lenK (K := K) rfl) (by rfl) T.m_len PySem.boot_len (pa_cons (pv 1) pa_nil)) pa_nil))) (fun _ _ => rfl)) po_none (po_some pe_int)))
      (pss_cons (ps_set (i := 5) sc__law_new_name.nd rfl (Or.inl rfl) (pe_call G__law_pick (hr.mono (by omega)) (by rfl) T.g__law_pick T.F__law_pick.kp T.b__law_pick .nil pass0 (pa_cons (pv 0) (pa_cons (pe_callB call_len_str (by rfl) T.m_len PySem.boot_len (pa_cons (pv 4) pa_nil)) pa_nil))))
      (pss_one (ps_set (i := 3) sc__law_new_name.nd rfl (Or.inr rfl) (pe_op op_add_str (pe_op op_add_str (pe_slice sl_str (pv 4) po_none (po_some (pv 5))) (pe_ix ix_str (pv 2) (pe_call G__law_pick (hr.mono (by omega)) (by rfl) T.g__law_pick T.F__law_pick.kp T.b__law_pick .nil pass0 (pa_cons (pv 0) (pa_cons pe_int pa_nil))) (fun _ _ => rfl))) (pe_slice sl_str (pv 4) (po_some (pe_op op_add (pv 5) pe_int)) po_none)))))) pss_nil)
      (pss_cons (ps_if (pt_cmpR (op_in_seqK (K := K) rfl) (pv 3) (pe_op op_cat (pv 1) (pe_lst (pa_cons pe_str (pa_cons pe_str pa_nil)))) (by rfl)) (pss_cons (ps_setLc (i := 6) (own := [("_law_k", 8)]) (g := gName 8) (tt := tYes) (by rfl) sc__law_new_name.nd rfl rfl (sw_true rfl rfl rfl (by decide +kernel)) (pi_range1 (by rfl) T.m_range (pa_cons pe_int pa_nil)) (blkOk_by (own := [("_law_k", 8)]) (N := ["_law_bag_here", "_law_used", "_law_letters", "_law_told", "_law_near", "_law_at", "_law_tails", "_law_step", "_law_k", "_law_tail"]) (sc := defScope s__law_new_name) (by decide +kernel)) (fun _ _ _ _ _ => (pg_name (i := 8) sc__law_new_name.nd rfl (Or.inl rfl))) (fun _ _ _ _ _ => pts_nil) (fun _ _ _ _ _ => (pe_op op_add_str (pe_ix ix_str (pv 2) (pe_op op_fdiv (pv 8) pe_int) (fun _ _ => rfl)) (pe_ix ix_str (pv 2) (pe_op op_mod (pe_callTy call_int1 (by rfl) T.m_int (by decide +kernel) (pa_cons (pv 8) pa_nil)) pe_int) (fun _ _ => rfl)))))
      (pss_one (ps_set (i := 3) sc__law_new_name.nd rfl (Or.inr rfl) (pe_ix (ix_listK (K := K) rfl) (pe_lc (own := [("_law_tail", 9)]) (g := gName 9)  (by rfl) sc__law_new_name.nd (pi_listK (K := K) rfl (pv 6)) (blkOk_by (own := [("_law_tail", 9)]) (N := ["_law_bag_here", "_law_used", "_law_letters", "_law_told", "_law_near", "_law_at", "_law_tails", "_law_step", "_law_k", "_law_tail"]) (sc := defScope s__law_new_name) (by decide +kernel)) (fun _ _ _ _ _ => (pg_name (i := 9) sc__law_new_name.nd rfl (Or.inl rfl))) (fun _ _ _ _ _ => (pts_one (pt_cmpR (op_notIn_seqK (K := K) rfl) (pe_op op_add_str (pe_slice sl_str (pv 3) po_none (po_some pe_int)) (pv 9)) (pe_op op_cat (pv 1) (pe_lst (pa_cons pe_str pa_nil))) (by rfl)))) (fun _ _ _ _ _ => (pe_op op_add_str (pe_slice sl_str (pv 3) po_none (po_some pe_int)) (pv 9)))) pe_int (fun _ _ => rfl))))) pss_nil)
      (pss_cons (ps_expr (pe_bmK2 (K := K) rfl PySem.F.plainAttrs_list PySem.F.slot_list_append PySem.F.type_list_append mt_append (pv 1) (pa_cons (pv 3) pa_nil)))
      (pss_one (ps_ret (pv 3)))))))), ?_⟩
    generalize eal : Str.ofString "abcdefghijklmnopqrstuvwxyz" = al
    have lal : (sg al).length = 26 := by rw [← eal]; decide +kernel
    have low : Low (sg al) := by rw [← eal]; unfold Low; decide +kernel
    have at_al : ∀ w : Int, 0 ≤ w → w < 26 → ∃ c, atI al.cps.toList w = some c ∧ 97 ≤ c ∧ c ≤ 122 := fun w h0 h1 => by
      obtain ⟨j, rfl⟩ : ∃ j : Nat, w = (j : Int) := ⟨w.toNat, by omega⟩
      have hj : j < (sg al).length := by omega
      exact ⟨(sg al)[j], atI_nat (List.getElem?_eq_getElem hj), low _ (List.getElem_mem hj)⟩
    have sal : al.length ≤ sizeLine := small26 (by omega)
    have gd : ∀ k, k < 26 → (sg al)[k]? = some ((sg al).getD k 0) := fun k hk => by
      rw [List.getD_eq_getElem?_getD, List.getElem?_eq_getElem (by omega)]
      rfl
    have nda : (sg al).Nodup := by rw [← eal]; decide +kernel
    clear eal
    refine ⟨⟨_, rfl⟩, ?_⟩
    walk_at "g"
    refine ⟨b, 6, M, rfl, hB, by omega, by omega, fun n1 H1 h0 h1 hA1 hB1 => ?_⟩
    walk_at "g"
    refine ⟨by omega, by omega, fun D hD => ?_⟩
    have Db : D ≠ b := fun z => hB1.there (by rw [← z]; exact hD)
    refine rng_loop (lo := 0) (n := (1 + n1).toNat) (fun i H' => ∃ ys : List Str, H' D = some (.lst (ys.map V.str)) ∧ ys.length = i ∧ (∀ y ∈ ys, ∃ c, y = ⟨#[c]⟩ ∧ 97 ≤ c ∧ c ≤ 122) ∧ Sx (one b) H1 H' ∧ Gr H1 H' ∧ Bag K (also M D) H' b) ⟨[], upd_same, rfl, fun y hy => (nomatch hy), Sx.new hD, Gr.upd, (hB1.more hD).same (same_new hD)⟩ (fun i H' hi p => ?_) (fun H2 p => ?_)
    · obtain ⟨ys, eD, ly, hys, s2, g2, hB2⟩ := p
      refine ⟨rfl, ?_⟩
      walk_at "g"
      refine ⟨b, 26, also M D, rfl, hB2, by omega, by omega, fun w3 H3 k0 k1 hA3 hB3 => ?_⟩
      obtain ⟨c, hc, c0, c1⟩ := at_al w3 k0 k1
      have eD3 := (hA3 D Db).trans eD
      refine ⟨al, _, c, rfl, rfl, sal, hc, _, eD3, small1000 (by rw [List.length_map]; omega), ys ++ [⟨#[c]⟩], ?_, by rw [List.length_append, ly]; rfl, fun y hy => ?_, fun a o n e => ?_, g2.trans ((At.gr hA3 hB3.there).trans Gr.upd), hB3.keep (N := one D) (Sx.put rfl) (Ne.symm Db) (fun c z => .inr z)⟩
      · rw [upd_same, List.map_append]
        rfl
      · rcases List.mem_append.mp hy with z | z
        · exact hys y z
        · exact ⟨c, List.mem_singleton.mp z, c0, c1⟩
      · rw [upd_ne (fun z => by rw [z, hD] at e; cases e)]
        exact hA3.sx a o n (s2 a o n e)
    obtain ⟨ys, eD, ly, hys, s2, g2, hB2⟩ := p
    have hB2' := hB2.less (N := M) hB1.w also_le
    have ly1 : 1 ≤ ys.length ∧ ys.length ≤ 6 := by omega
    have sum1 : ∀ l : List Str, (∀ y ∈ l, ∃ c, y = ⟨#[c]⟩ ∧ 97 ≤ c ∧ c ≤ 122) → (l.map (·.length)).sum = l.length ∧ (l.map sg).flatten.length = l.length ∧ Low (l.map sg).flatten := by
      intro l
      induction l with
      | nil => intro _; exact ⟨rfl, rfl, fun c hc => nomatch hc⟩
      | cons y r ih =>
        intro h
        obtain ⟨i1, i2, i3⟩ := ih fun z hz => h z (List.mem_cons_of_mem _ hz)
        obtain ⟨c, rfl, c0, c1⟩ := h y List.mem_cons_self
        refine ⟨?_, ?_, ?_⟩
        · rw [List.map_cons, List.sum_cons, i1, List.length_cons]
          show 1 + r.length = r.length + 1
          omega
        · rw [List.map_cons, List.flatten_cons, List.length_append, i2, List.length_cons]
          show 1 + r.length = r.length + 1
          omega
        · rw [List.map_cons, List.flatten_cons]
          refine Low.app (fun d hd => ?_) i3
          rw [List.mem_singleton.mp (show d ∈ [c] from hd)]
          exact ⟨c0, c1⟩
    obtain ⟨j1, j2, j3⟩ := sum1 ys hys
    refine ⟨_, D, ys, rfl, rfl, .inl (SqL.of eD), by rw [j1, show (Str.ofString "").length = 0 from by decide +kernel]; omega, ?_⟩
    generalize hz1 : Txt.join _ ys = z1
    have sz1 : sg z1 = (ys.map sg).flatten := by rw [← hz1, TL.join_eq]; exact sg_join0 ys
    have l1 : (sg z1).length = ys.length := by rw [sz1]; exact j2
    have w1 : Low (sg z1) := by rw [sz1]; exact j3
    clear hz1
    have sx2 : Sx (one b) H H2 := hA1.sx.trans s2
    have gr2 : Gr H H2 := (At.gr hA1 hB1.there).trans g2
    have hu2 := sx2 u _ ub hu
    dsimp only [gName]
    with_reducible refine seq_join (fun σ3 H' => ∃ (z : Str) (y4 y5 : Option V), σ3 = [some (.ref b), some (.ref u), some (.str al), some (.str z), y4, y5, none, none, none, none] ∧ ok6 z ∧ Sx (one b) H H' ∧ Gr H H' ∧ Bag K M H' b) (fun hN => ?_) (fun σ H5 c => ?_)
    · have base0 := hN _ _ ⟨z1, none, none, rfl, ⟨by omega, by omega, w1⟩, sx2, gr2, hB2'⟩
      walk_at "g"
      refine ⟨!(ws.map V.str).isEmpty, .inl ⟨_, SqL.of hu2, rfl⟩, ?_⟩
      by_cases cn : ws = []
      · rw [show (!(ws.map V.str).isEmpty) = false by rw [cn]; rfl]
        exact base0
      · rw [show (!(ws.map V.str).isEmpty) = true by cases ws with | nil => exact absurd rfl cn | cons _ _ => rfl]
        have lpos : 0 < ws.length := List.length_pos_iff.mpr cn
        walk_at "g"
        refine ⟨b, 3, M, rfl, hB2', by omega, by omega, fun w4 H4 d0 d1 hA4 hB4 => ?_⟩
        have sx4 := sx2.trans hA4.sx
        have gr4 := gr2.trans (At.gr hA4 hB4.there)
        have hu4 := (hA4 u ub).trans hu2
        walk_at "g"
        walk_at "if"
        · walk_at "g"
          have lws : (ws.map V.str).length = ws.length := List.length_map _
          refine ⟨b, _, M, rfl, hB4, by omega, by omega, fun w5 H5 e0 e1 hA5 hB5 => ?_⟩
          obtain ⟨j, rfl⟩ : ∃ j : Nat, w5 = (j : Int) := ⟨w5.toNat, by omega⟩
          have hj : j < ws.length := by omega
          have sx5 := sx4.trans hA5.sx
          have gr5 := gr4.trans (At.gr hA5 hB5.there)
          have hu5 := (hA5 u ub).trans hu4
          obtain ⟨o1, o2, o3⟩ := hws ws[j] (List.getElem_mem hj)
          refine ⟨_, _, _, _, rfl, rfl, SqL.of hu5, atI_nat (by rw [List.getElem?_map, List.getElem?_eq_getElem hj]; rfl), ?_⟩
          walk_at "g"
          refine ⟨small26 (by omega), ?_⟩
          have snr : sg (cutS ws[j] none (some 6)) = (sg ws[j]).take 6 := sg_cut _ 6
          generalize cutS ws[j] none (some 6) = nr at snr
          have lnr : 1 ≤ (sg nr).length ∧ (sg nr).length ≤ 6 := by rw [snr, List.length_take]; omega
          have wnr : Low (sg nr) := by rw [snr]; exact Low.sub o3 fun c hc => List.mem_of_mem_take hc
          have lnr' := sg_len nr
          walk_at "g"
          refine ⟨small26 (by omega), ?_⟩
          walk_at "g"
          refine ⟨b, _, M, rfl, hB5, by omega, by omega, fun w6 H6 f0 f1 hA6 hB6 => ?_⟩
          obtain ⟨i, rfl⟩ : ∃ i : Nat, w6 = (i : Int) := ⟨w6.toNat, by omega⟩
          have hi : i < (sg nr).length := by omega
          walk_at "g"
          refine ⟨small26 (by omega), ?_⟩
          walk_at "g"
          refine ⟨b, 26, M, rfl, hB6, by omega, by omega, fun w7 H7 g0 g1 hA7 hB7 => ?_⟩
          obtain ⟨c, hc, c0, c1⟩ := at_al w7 g0 g1
          refine ⟨al, _, c, rfl, rfl, sal, hc, ?_⟩
          have sq1 : sg (cutS nr none (some (i : Int))) = (sg nr).take i := sg_cut _ i
          have sq2 : sg (cutS nr (some ((i : Int) + 1)) none) = (sg nr).drop (i + 1) := by
            have := sg_from nr (i + 1)
            rw [show (((i + 1 : Nat)) : Int) = (i : Int) + 1 by omega] at this
            exact this
          have lq1 : (cutS nr none (some (i : Int))).length ≤ 6 := by rw [← sg_len, sq1, List.length_take]; omega
          have lq2 : (cutS nr (some ((i : Int) + 1)) none).length ≤ 6 := by rw [← sg_len, sq2, List.length_drop]; omega
          refine ⟨_, _, rfl, rfl, ?_, ?_⟩
          · have e1 : (⟨#[c]⟩ : Str).length = 1 := rfl
            rw [e1, sizeLine_eq]
            omega
          walk_at "g"
          refine ⟨small26 (by omega), ?_⟩
          have sq3 : sg (cutS nr none (some (i : Int)) ++ (⟨#[c]⟩ : Str)) = (sg nr).take i ++ [c] := by rw [sg_app, sq1]
          refine ⟨_, _, rfl, rfl, ?_, ?_⟩
          · have e1 : (cutS nr none (some (i : Int)) ++ (⟨#[c]⟩ : Str)).length ≤ 7 := by
              rw [← sg_len, sq3, List.length_append, List.length_take]
              show _ + 1 ≤ 7
              omega
            rw [sizeLine_eq]
            omega
          have sq4 : sg (cutS nr none (some (i : Int)) ++ (⟨#[c]⟩ : Str) ++ cutS nr (some ((i : Int) + 1)) none) = (sg nr).take i ++ [c] ++ (sg nr).drop (i + 1) := by rw [sg_app, sq3, sq2]
          have len4 : ((sg nr).take i ++ [c] ++ (sg nr).drop (i + 1)).length = (sg nr).length := by
            rw [List.length_append, List.length_append, List.length_take, List.length_drop]
            show min i _ + 1 + _ = _
            omega
          refine hN _ _ ⟨_, _, _, rfl, ⟨by rw [sq4, len4]; omega, by rw [sq4, len4]; omega, ?_⟩, sx5.trans (hA6.sx.trans hA7.sx), gr5.trans ((At.gr hA6 hB6.there).trans (At.gr hA7 hB7.there)), hB7⟩
          rw [sq4]
          refine Low.app (Low.app (Low.sub wnr fun c hc => List.mem_of_mem_take hc) (fun d hd => ?_)) (Low.sub wnr fun c hc => List.mem_of_mem_drop hc)
          rw [List.mem_singleton.mp hd]
          exact ⟨c0, c1⟩
        · exact hN _ _ ⟨z1, none, none, rfl, ⟨by omega, by omega, w1⟩, sx4, gr4, hB4⟩
    · obtain ⟨z, y4, y5, rfl, ⟨z_1, z_6, z_l⟩, sx5, gr5, hB5⟩ := c
      have hu5 : H5 u = some (.lst (ws.map V.str)) := sx5 u _ ub hu
      have lws : (ws.map V.str).length = ws.length := List.length_map _
      have zle : z.length ≤ 6 := by rw [← sg_len]; exact z_6
      walk_at "g"
      refine ⟨szK rfl, fun p6 hp6 => ?_⟩
      have s6 : Same H5 (upd H5 p6 (.lst [.str (Str.ofString "item"), .str (Str.ofString "at")])) := same_new hp6
      have e6 : upd H5 p6 (.lst [.str (Str.ofString "item"), .str (Str.ofString "at")]) p6 = some (.lst [.str (Str.ofString "item"), .str (Str.ofString "at")]) := upd_same
      generalize upd H5 p6 (.lst [.str (Str.ofString "item"), .str (Str.ofString "at")]) = H6 at s6 e6
      have hu6 := s6 _ _ hu5
      refine ⟨u, p6, _, _, rfl, rfl, hu6, e6, by rw [lws, sizeLine_eq]; show ws.length + 2 ≤ _; omega, fun p7 hp7 => ?_⟩
      have ecat : ws.map V.str ++ [V.str (Str.ofString "item"), V.str (Str.ofString "at")] = (ws ++ [Str.ofString "item", Str.ofString "at"]).map V.str := by rw [List.map_append]; rfl
      rw [ecat]
      have s7 : Same H6 (upd H6 p7 (.lst ((ws ++ [Str.ofString "item", Str.ofString "at"]).map V.str))) := same_new hp7
      refine ⟨p7, _, rfl, .inl (SqL.of upd_same), rfl, flat_strs _, ?_⟩
      generalize upd H6 p7 (.lst ((ws ++ [Str.ofString "item", Str.ofString "at"]).map V.str)) = H7 at s7
      rw [in_strs]
      have s57 := s6.trans s7
      have hB7 := hB5.same s57
      have sx7 := sx5.trans (Sx.same s57)
      have gr7 := gr5.trans (Gr.same s57)
      walk_at "g"
      have hu7 := s57 _ _ hu5
      have mb := hB.w
      by_cases hz : z ∈ ws ++ [Str.ofString "item", Str.ofString "at"]
      · rw [decide_eq_true hz, if_neg Bool.false_ne_true]
        dsimp only
        rw [if_pos rfl]
        walk_at "g"
        refine ⟨by decide, by decide, fun D2 hD2 => ?_⟩
        have D2b : D2 ≠ b := fun y => hB7.there (by rw [← y]; exact hD2)
        refine rng_loop (lo := 0) (n := 676) (fun i H' => Same H7 H' ∧ H' D2 = some (.lst (((List.range i).map (tl2 (sg al))).map V.str))) ⟨same_new hD2, upd_same⟩ (fun i H' hi p => ?_) (fun H8 p => ?_)
        · obtain ⟨s8, eD⟩ := p
          have hi' : i < 676 := hi
          rw [Int.zero_add]
          refine ⟨rfl, ?_⟩
          walk_at "g"
          have k1 : i / 26 < 26 := by omega
          have k2 : i % 26 < 26 := Nat.mod_lt _ (by decide)
          refine ⟨al, _, (sg al).getD (i / 26) 0, rfl, rfl, sal, ?_, ?_⟩
          · rw [show ((i : Int) / 26) = ((i / 26 : Nat) : Int) by omega]
            exact atI_nat (gd _ k1)
          walk_at "g"
          refine ⟨al, _, (sg al).getD (i % 26) 0, rfl, rfl, sal, ?_, ?_⟩
          · rw [show ((i : Int) % 26) = ((i % 26 : Nat) : Int) by omega]
            exact atI_nat (gd _ k2)
          refine ⟨_, _, rfl, rfl, by rw [sizeLine_eq]; show 1 + 1 ≤ _; omega, ?_⟩
          have l1 : (((List.range i).map (tl2 (sg al))).map V.str).length = i := by rw [List.length_map, List.length_map, List.length_range]
          refine ⟨_, eD, small1000 (by omega), same_put s8 hD2, ?_⟩
          rw [upd_same, List.range_succ, List.map_append, List.map_append]
          rfl
        obtain ⟨s8, eD8⟩ := p
        have eD8 : H8 D2 = some (.lst (((List.range 676).map (tl2 (sg al))).map V.str)) := eD8
        have s78 : Same H5 H8 := s57.trans s8
        have hu8 := s78 _ _ hu5
        walk_at "g"
        refine ⟨⟨_, SqL.of eD8⟩, fun D3 hD3 => ?_⟩
        obtain ⟨f, hf⟩ : ∃ f : Nat → Str, f = fun k => cutS z none (some 6) ++ tl2 (sg al) k := ⟨_, rfl⟩
        obtain ⟨LL, hLL⟩ : ∃ L : List Str, L = ws ++ [Str.ofString "item"] := ⟨_, rfl⟩
        have lLL : LL.length ≤ 11 := by rw [hLL, List.length_append]; show ws.length + 1 ≤ 11; omega
        have c6 : (cutS z none (some 6)).length ≤ 6 := by
          have := sg_cut z 6
          rw [← sg_len, show sg (cutS z none (some 6)) = (sg z).take 6 from this, List.length_take]
          omega
        refine list_loop (xs := ((List.range 676).map (tl2 (sg al))).map V.str) (fun i H' => Same H8 H' ∧ H' D3 = some (.lst ((((List.range i).map f).filter (fun y => decide (y ∉ LL))).map V.str))) ⟨same_new hD3, upd_same⟩ (fun i H' _ p => SqL.of (p.1 _ _ eD8)) (fun i x H' hx p => ?_) (fun H9 p => ?_)
        · obtain ⟨s9, eD9⟩ := p
          have hi : i < 676 := by
            have := (List.getElem?_eq_some_iff.mp hx).1
            rw [List.length_map, List.length_map, List.length_range] at this
            exact this
          rw [List.getElem?_map, List.getElem?_map, List.getElem?_range hi] at hx
          cases hx
          have hu9 := s9 _ _ hu8
          refine ⟨rfl, ?_⟩
          walk_at "g"
          refine ⟨small26 (by omega), ?_⟩
          have l2 : (tl2 (sg al) i).length = 2 := rfl
          walk_at "g"
          refine ⟨by rw [l2, sizeLine_eq]; omega, ?_⟩
          walk_at "g"
          refine ⟨szK rfl, fun p1 hp1 => ?_⟩
          have t1 : Same H' (upd H' p1 (.lst [.str (Str.ofString "item")])) := same_new hp1
          have e1 : upd H' p1 (.lst [.str (Str.ofString "item")]) p1 = some (.lst [.str (Str.ofString "item")]) := upd_same
          generalize upd H' p1 (.lst [.str (Str.ofString "item")]) = G1 at t1 e1
          refine ⟨u, p1, _, _, rfl, rfl, t1 _ _ hu9, e1, by rw [lws, sizeLine_eq]; show ws.length + 1 ≤ _; omega, fun p2 hp2 => ?_⟩
          have ecat2 : ws.map V.str ++ [V.str (Str.ofString "item")] = LL.map V.str := by rw [hLL, List.map_append]; rfl
          rw [ecat2]
          have t2 : Same G1 (upd G1 p2 (.lst (LL.map V.str))) := same_new hp2
          refine ⟨p2, _, rfl, .inl (SqL.of upd_same), rfl, flat_strs _, ?_⟩
          generalize upd G1 p2 (.lst (LL.map V.str)) = G2 at t2
          rw [in_strs, if_pos rfl]
          have t12 := t1.trans t2
          have e9 := t12 _ _ eD9
          have lf : (((List.range i).map f).filter (fun y => decide (y ∉ LL))).length ≤ i := Nat.le_trans (List.length_filter_le _ _) (by rw [List.length_map, List.length_range]; exact Nat.le_refl _)
          have fi : f i = cutS z none (some 6) ++ tl2 (sg al) i := by rw [hf]
          have step : ((List.range (i + 1)).map f).filter (fun y => decide (y ∉ LL)) = ((List.range i).map f).filter (fun y => decide (y ∉ LL)) ++ if f i ∈ LL then [] else [f i] := by
            rw [List.range_succ, List.map_append, List.filter_append]
            congr 1
            by_cases c : f i ∈ LL
            · rw [if_pos c]; simp [c]
            · rw [if_neg c]; simp [c]
          rw [step]
          by_cases c : f i ∈ LL
          · rw [← fi, decide_eq_true c, if_pos c, List.append_nil]
            exact ⟨_, rfl, s9.trans t12, e9⟩
          · rw [← fi, decide_eq_false c, if_neg c]
            refine ⟨_, rfl, ?_⟩
            dsimp only
            rw [if_pos (by rfl : (!false) = true)]
            walk_at "g"
            refine ⟨small26 (by omega), ?_⟩
            walk_at "g"
            refine ⟨by rw [l2, sizeLine_eq]; omega, ?_⟩
            refine ⟨_, e9, small1000 (by rw [List.length_map]; omega), same_put (s9.trans t12) hD3, ?_⟩
            rw [upd_same, List.map_append, ← fi]
            rfl
        obtain ⟨s9, eD9⟩ := p
        have eD9 : H9 D3 = some (.lst ((((List.range 676).map f).filter (fun y => decide (y ∉ LL))).map V.str)) := by
          have := eD9
          rw [List.length_map, List.length_map, List.length_range] at this
          exact this
        obtain ⟨y0, rest, ey⟩ : ∃ y0 rest, ((List.range 676).map f).filter (fun y => decide (y ∉ LL)) = y0 :: rest := by
          cases e : ((List.range 676).map f).filter (fun y => decide (y ∉ LL)) with
          | cons y r => exact ⟨y, r, rfl⟩
          | nil =>
            exfalso
            have all : ∀ k, k < 676 → f k ∈ LL := fun k hk => by
              by_cases c : f k ∈ LL
              · exact c
              · exfalso
                have : f k ∈ ((List.range 676).map f).filter (fun y => decide (y ∉ LL)) := List.mem_filter.mpr ⟨List.mem_map.mpr ⟨k, List.mem_range.mpr hk, rfl⟩, decide_eq_true c⟩
                rw [e] at this
                exact nomatch this
            have inj : ∀ i j : Nat, i < 26 → j < 26 → f i = f j → i = j := fun i j hi hj h => by
              have h2 := congrArg sg h
              rw [hf] at h2
              dsimp only at h2
              rw [sg_app, sg_app] at h2
              have h3 := List.append_cancel_left h2
              have h4 : [(sg al).getD (i / 26) 0, (sg al).getD (i % 26) 0] = [(sg al).getD (j / 26) 0, (sg al).getD (j % 26) 0] := h3
              injection h4 with _ h5
              injection h5 with h6 _
              rw [Nat.mod_eq_of_lt hi, Nat.mod_eq_of_lt hj] at h6
              have g1 := gd i hi
              have g2 := gd j hj
              rw [← h6] at g2
              exact (List.getElem?_inj (show i < (sg al).length by omega) nda).mp (g1.trans g2.symm)
            have nd : ((List.range 26).map f).Nodup := by
              rw [List.nodup_iff_pairwise_ne, List.pairwise_map]
              refine List.Pairwise.imp_of_mem (fun {x y} hx hy hxy h => hxy (inj x y (List.mem_range.mp hx) (List.mem_range.mp hy) h)) (List.nodup_range (n := 26))
            have := (sub_len LL ((List.range 26).map f) nd fun x hx => by
              obtain ⟨k, hk, rfl⟩ := List.mem_map.mp hx
              exact all k (by have := List.mem_range.mp hk; omega)).1
            rw [List.length_map, List.length_range] at this
            omega
        have my : y0 ∈ ((List.range 676).map f).filter (fun y => decide (y ∉ LL)) := by rw [ey]; exact List.mem_cons_self
        obtain ⟨m1, m2⟩ := List.mem_filter.mp my
        obtain ⟨k0, hk0, rfl⟩ := List.mem_map.mp m1
        have hk0 := List.mem_range.mp hk0
        have nL : f k0 ∉ LL := of_decide_eq_true m2
        rw [ey] at eD9
        have sgf : sg (f k0) = (sg z).take 6 ++ [(sg al).getD (k0 / 26) 0, (sg al).getD (k0 % 26) 0] := by
          rw [hf]
          dsimp only
          rw [sg_app]
          congr 1
          exact sg_cut z 6
        have okf : okN (f k0) := by
          have lt : ((sg z).take 6).length ≤ 6 := by rw [List.length_take]; omega
          refine ⟨by rw [sgf, List.length_append]; show 1 ≤ _ + 2; omega, by rw [sgf, List.length_append]; show _ + 2 ≤ 8; omega, ?_⟩
          rw [sgf]
          refine Low.app (Low.sub z_l fun c hc => List.mem_of_mem_take hc) (fun d hd => ?_)
          have kk1 : k0 / 26 < 26 := by omega
          have kk2 : k0 % 26 < 26 := Nat.mod_lt _ (by decide)
          rcases List.mem_cons.mp hd with rfl | hd
          · exact low _ (List.mem_of_getElem? (gd _ kk1))
          · rw [List.mem_singleton.mp hd]
            exact low _ (List.mem_of_getElem? (gd _ kk2))
        have s59 : Same H5 H9 := s78.trans s9
        have hu9 := s59 _ _ hu5
        have at0 : atI ((f k0 :: rest).map V.str) ((0 : Nat) : Int) = some (V.str (f k0)) := atI_nat (by simp)
        walk_at "g"
        refine ⟨_, _, _, _, rfl, rfl, SqL.of eD9, at0, ?_⟩
        walk_at "g"
        refine ⟨.inl ⟨rfl, _, SqL.of hu9⟩, ?_⟩
        walk_at "g"
        refine ⟨u, _, _, rfl, rfl, hu9, small1000000 (by omega), ?_⟩
        walk_at "g"
        have sP : Sx (one u) H9 (upd H9 u (.lst (ws.map V.str ++ [V.str (f k0)]))) := Sx.put rfl
        refine q _ (f k0) (((sx5.trans (Sx.same s59)).le fun c y => .inl y).trans (sP.le fun c y => .inr y)) ((gr5.trans (Gr.same s59)).trans Gr.upd) ((hB5.same s59).keep sP (Ne.symm ub) (one_le mu)) ?_ okf (fun y => nL (by rw [hLL]; exact List.mem_append_left _ y))
        rw [upd_same, List.map_append]
        rfl
      · rw [decide_eq_false hz]
        have zn : z ∉ ws := fun y => hz (List.mem_append_left _ y)
        walk_at "g"
        refine ⟨.inl ⟨rfl, _, SqL.of hu7⟩, ?_⟩
        walk_at "g"
        refine ⟨u, _, _, rfl, rfl, hu7, small1000000 (by omega), ?_⟩
        walk_at "g"
        have sP : Sx (one u) H7 (upd H7 u (.lst (ws.map V.str ++ [V.str z]))) := Sx.put rfl
        refine q _ z ((sx7.le fun c y => .inl y).trans (sP.le fun c y => .inr y)) (gr7.trans Gr.upd) (hB7.keep sP (Ne.symm ub) (one_le mu)) ?_ ⟨z_1, by omega, z_l⟩ zn
        rw [upd_same, List.map_append]
        rfl
end
end D

namespace D
open PySem PySem.Spec PyProof.Rows L2
local macro_rules | `(tactic| walk_at "st") => `(tactic| first | exact SqT.of (by assumption) | exact Or.inl (by assumption) | exact SqT.of upd_same | fail "st")
local macro_rules | `(tactic| walk_at "ixt") => `(tactic| refine ⟨_, _, _, _, rfl, rfl, (by walk_at "st" : SqT _ _ _ _), by rfl, ?_⟩)
local macro_rules | `(tactic| walk_at "sq") => `(tactic| first | exact SqL.of (by assumption) | assumption | exact Or.inl (by assumption) | exact SqL.of upd_same | fail "sq")
local macro_rules | `(tactic| walk_at "ix") => `(tactic| refine ⟨_, _, _, _, rfl, rfl, (by walk_at "sq" : SqL _ _ _ _), by rfl, ?_⟩)
local macro_rules | `(tactic| walk_at "set") => `(tactic| refine ⟨_, _, _, _, rfl, rfl, by first | assumption | exact upd_same, by rfl, ?_⟩)
local macro_rules | `(tactic| walk_at "len") => `(tactic| refine ⟨_, _, rfl, Or.inl (by walk_at "sq" : SqL _ _ _ _), ?_⟩)
local macro_rules | `(tactic| walk_at "g") => `(tactic| repeat (first | refine ⟨_, rfl, ?_⟩ | refine ⟨_, _, rfl, rfl, ?_⟩ | refine ⟨Or.inr (by decide), ?_⟩ | refine ⟨Or.inl (by decide), ?_⟩ | refine ⟨(by decide : (0 : Int) < _), ?_⟩ | refine ⟨(⟨by decide, by decide⟩ : CDiv _ _), ?_⟩ | refine ⟨(⟨by decide, by decide, by decide⟩ : CPow _ _), ?_⟩ | refine Or.inl ⟨_, rfl, ?_⟩ | refine ⟨rfl, ?_⟩ | walk_at "ix" | walk_at "ixt" | walk_at "len" | fail "g"))
local macro_rules | `(tactic| walk_at "if") => `(tactic| refine ite2 (fun e => ?_) (fun e => ?_))
section
variable {P : Program} {w : World} {K : PySem.W.Frag} {mg : Str → Option Value} {base : Heap}
def Sh.tag : Sh → Str
  | .leaf (.text _) => sText
  | .leaf (.button _) => sButton
  | .leaf (.put _ _) => sPut
  | .leaf (.each _ _ _ _ _) => sEach
  | .whn _ _ _ => sWhen
  | .line r _ => sLine r
def Sh.rest : Sh → List PyData
  | .leaf (.text f) => [f]
  | .leaf (.button w) => [w]
  | .leaf (.put c fs) => [c, .tuple fs]
  | .leaf (.each f m k c fs) => [f, m, k, c, .tuple fs]
  | .whn f a b => [f, a.enc, b.enc]
  | .line _ ps => [.tuple (ps.map Sh.enc)]
theorem enc_eq (s : Sh) : s.enc = .tuple (.str s.tag :: s.rest) := by
  cases s with
  | leaf l => rw [Sh.enc]; cases l <;> rfl
  | whn f a b => rw [Sh.enc]; rfl
  | line r ps => rw [Sh.enc, encAll_map]; rfl
def Sh.isLine : Sh → Bool
  | .line _ _ => true
  | _ => false
def Sh.isWhn : Sh → Bool
  | .whn _ _ _ => true
  | _ => false
theorem tag_line (s : Sh) : decide (s.tag ∈ [Str.ofString "row", Str.ofString "col"]) = s.isLine := by
  cases s with
  | leaf l =>
    cases l with
    | text f => exact (by decide +kernel : decide (sText ∈ [Str.ofString "row", Str.ofString "col"]) = false)
    | button f => exact (by decide +kernel : decide (sButton ∈ [Str.ofString "row", Str.ofString "col"]) = false)
    | put f fs => exact (by decide +kernel : decide (sPut ∈ [Str.ofString "row", Str.ofString "col"]) = false)
    | each f m k c fs => exact (by decide +kernel : decide (sEach ∈ [Str.ofString "row", Str.ofString "col"]) = false)
  | whn f a b => exact (by decide +kernel : decide (sWhen ∈ [Str.ofString "row", Str.ofString "col"]) = false)
  | line r ps => exact (by cases r <;> decide +kernel : decide (sLine r ∈ [Str.ofString "row", Str.ofString "col"]) = true)
theorem V_str {a b : Str} : decide (V.str a = V.str b) = decide (a = b) := by
  rw [decide_eq_decide]
  exact ⟨fun h => V.str.inj h, fun h => by rw [h]⟩
theorem tag_when (s : Sh) : decide (V.str s.tag = V.str (Str.ofString "when")) = s.isWhn := by
  rw [V_str]
  cases s with
  | leaf l =>
    cases l with
    | text f => exact (by decide +kernel : decide (sText = Str.ofString "when") = false)
    | button f => exact (by decide +kernel : decide (sButton = Str.ofString "when") = false)
    | put f fs => exact (by decide +kernel : decide (sPut = Str.ofString "when") = false)
    | each f m k c fs => exact (by decide +kernel : decide (sEach = Str.ofString "when") = false)
  | whn f a b => exact (by decide +kernel : decide (sWhen = Str.ofString "when") = true)
  | line r ps => exact (by cases r <;> decide +kernel : decide (sLine r = Str.ofString "when") = false)
theorem inner_nil {s : Sh} (h1 : s.isLine = false) (h2 : s.isWhn = false) : s.inner = [] := by
  cases s with
  | leaf l => rfl
  | whn f a b => cases h2
  | line r ps => cases h1
section
variable {M : Ms} {H : Hp} {v : V}
theorem RpAll.consX {xs : List V} {d : PyData} {ds : List PyData} (h : RpAll M H xs (d :: ds)) : ∃ x r, xs = x :: r ∧ Rp M H x d ∧ RpAll M H r ds := by
  cases h with
  | cons h1 h2 => exact ⟨_, _, rfl, h1, h2⟩
theorem Rp.shX {s : Sh} (h : Rp M H v s.enc) : ∃ a ys, v = .ref a ∧ ¬ M a ∧ H a = some (.tup (.str s.tag :: ys)) ∧ RpAll M H ys s.rest := by
  rw [enc_eq] at h
  obtain ⟨a, xs, rfl, na, ha, rx⟩ := Rp.tupX h
  obtain ⟨x, r, rfl, h1, h2⟩ := RpAll.consX rx
  cases h1
  exact ⟨a, r, rfl, na, ha, h2⟩
end
def sp_inner : Sp := fun vs H Q _ => ∃ (v : V) (s : Sh) (M : Ms), vs = [v] ∧ Rp M H v s.enc ∧ Mk M H ∧ Pu M H (fun d => d = .tuple (s.inner.map Sh.enc)) Q
theorem okf_inner (T : Txt K mg) : FnOk P w K mg base CX0 1 T.f_inner_shapes T.d_inner_shapes ["shape"] sp_inner := by
  refine T.F_inner_shapes.ok sc_inner_shapes (fun vs H Q E h => ?_) (fun cdv A outer s H vs Q E hr h => ?_)
  · obtain ⟨_, _, _, rfl, _⟩ := h
    rfl
  · obtain ⟨v, s, M, rfl, hR, hM, q⟩ := h
    obtain ⟨a, ys, rfl, na, ha, ry⟩ := hR.shX
    refine ⟨_, (pss_cons (ps_if (pt_cmpR (op_in_seqK (K := K) rfl) (pe_ix (ix_tupK (K := K) rfl) (pv 0) pe_int (fun _ _ => rfl)) (pe_tup (pa_cons pe_str (pa_cons pe_str pa_nil))) (by rfl)) (pss_one (ps_ret (pe_ix (ix_tupK (K := K) rfl) (pv 0) pe_int (fun _ _ => rfl)))) pss_nil)
      (pss_cons (ps_if (pt_cmpR op_eq (pe_ix (ix_tupK (K := K) rfl) (pv 0) pe_int (fun _ _ => rfl)) pe_str (nomark _)) (pss_one (ps_ret (pe_slice (sl_tupK (K := K) rfl) (pv 0) (po_some pe_int) po_none))) pss_nil)
      (pss_one (ps_ret (pe_tup pa_nil))))), ?_⟩
    walk_at "g"
    refine ⟨_, _, _, _, rfl, rfl, SqT.of ha, atI_nat (j := 0) rfl, ?_⟩
    walk_at "g"
    refine ⟨szK rfl, fun p1 hp1 => ?_⟩
    have s1 : Same H (upd H p1 (.tup [.str (Str.ofString "row"), .str (Str.ofString "col")])) := same_new hp1
    have e1 : upd H p1 (.tup [.str (Str.ofString "row"), .str (Str.ofString "col")]) p1 = some (.tup [.str (Str.ofString "row"), .str (Str.ofString "col")]) := upd_same
    generalize upd H p1 (.tup [.str (Str.ofString "row"), .str (Str.ofString "col")]) = H1 at s1 e1
    have ha1 := s1 _ _ ha
    refine ⟨p1, ([Str.ofString "row", Str.ofString "col"]).map V.str, rfl, .inr (SqT.of e1), rfl, flat_strs _, ?_⟩
    rw [in_strs, tag_line]
    have ry1 := ry.sx (Sx.same (M := M) s1)
    cases h1 : s.isLine with
    | true =>
      cases s with
      | leaf l => cases h1
      | whn f a b => cases h1
      | line r ps =>
        obtain ⟨y, r', rfl, hy, -⟩ := RpAll.consX ry1
        walk_at "g"
        refine ⟨_, _, _, _, rfl, rfl, SqT.of ha1, atI_nat (j := 1) rfl, ?_⟩
        exact q _ _ _ s1 hy rfl
    | false =>
      walk_at "g"
      refine ⟨_, _, _, _, rfl, rfl, SqT.of ha1, atI_nat (j := 0) rfl, ?_⟩
      walk_at "g"
      rw [tag_when]
      cases h2 : s.isWhn with
      | true =>
        cases s with
        | leaf l => cases h2
        | line r ps => cases h2
        | whn f a' b' =>
          obtain ⟨y, r', rfl, hy, h3⟩ := RpAll.consX ry1
          obtain ⟨y2, r2, rfl, hy2, h3⟩ := RpAll.consX h3
          obtain ⟨y3, r3, rfl, hy3, h3⟩ := RpAll.consX h3
          cases h3
          walk_at "g"
          refine ⟨a, _, rfl, SqT.of (s1 _ _ ha), fun z => absurd z.1 (show ¬ (2 : Nat) = 0 by decide), fun _ p2 hp2 => ?_⟩
          rw [show cutV (V.str (Sh.whn f a' b').tag :: [y, y2, y3]) (some 2) none = [y2, y3] from rfl]
          refine q _ _ _ (s1.trans (same_new hp2)) (Rp.newT (hM.gr (Gr.same s1)) hp2 (.cons hy2 (.one hy3))) rfl
      | false =>
        walk_at "g"
        refine ⟨szK rfl, fun p hp => ?_⟩
        refine q _ _ _ (s1.trans (same_new hp)) (.tup ((hM.gr (Gr.same s1)).out hp) (.inl upd_same) .nil) ?_
        rw [inner_nil h1 h2]
        rfl
def sp_nums (n : Nat) : Sp := fun vs H Q _ => ∃ (v : V) (s : Sh) (M : Ms), vs = [v] ∧ Rp M H v s.enc ∧ Mk M H ∧ s.dep ≤ n ∧ s.cnt ≤ 1000 ∧ Pu M H (fun d => d = .tuple (s.subs.map Sh.enc)) Q
theorem sum_mem : ∀ {l : List Nat} {n : Nat}, n ∈ l → n ≤ l.sum
  | x :: r, n, h => by
    rw [List.sum_cons]
    rcases List.mem_cons.mp h with rfl | h
    · omega
    · have := sum_mem h
      omega
theorem cnt_mem {s p : Sh} (h : p ∈ s.inner) : p.cnt < s.cnt := by
  rw [cnt_eq s]
  have : p.cnt ≤ (s.inner.map Sh.cnt).sum := sum_mem (List.mem_map_of_mem h)
  omega
theorem sum_take (l : List Nat) (i : Nat) : (l.take i).sum ≤ l.sum := by
  have e := List.take_append_drop i l
  have h := congrArg List.sum e
  rw [List.sum_append] at h
  omega
theorem okf_nums (T : Txt K mg) : ∀ n, FnOk P w K mg base CX0 (n + 2) T.f_numbered T.d_numbered ["shape"] (sp_nums n) := by
  have G_inner_shapes := okf_inner (P := P) (w := w) (base := base) T
  intro n
  induction n with
  | zero =>
    refine T.F_numbered.ok sc_numbered (fun vs H Q E h => ?_) (fun cdv A outer s H vs Q E hr h => ?_)
    · obtain ⟨_, _, _, rfl, _⟩ := h
      rfl
    · obtain ⟨v, s, M, rfl, _, _, hd, _⟩ := h
      exact absurd (dep_pos s) (by omega)
  | succ n ih =>
    have G_numbered := ih
    refine T.F_numbered.ok sc_numbered (fun vs H Q E h => ?_) (fun cdv A outer s H vs Q E hr h => ?_)
    · obtain ⟨_, _, _, rfl, _⟩ := h
      rfl
    · obtain ⟨v, s, M, rfl, hR, hM, hd, hc, q⟩ := h
      refine ⟨_, (pss_cons (ps_set (i := 1) sc_numbered.nd rfl (Or.inl rfl) (pe_lst (pa_cons (pv 0) pa_nil)))
      (pss_cons (ps_for PassesOwn.never rfl (pi_tupK (K := K) rfl (pe_call G_inner_shapes (hr.mono (by omega)) (by rfl) T.g_inner_shapes T.F_inner_shapes.kp T.b_inner_shapes .nil pass0 (pa_cons (pv 0) pa_nil))) (pg_name (i := 2) sc_numbered.nd rfl (Or.inl rfl)) (pss_one (ps_expr (pe_bmK2 (K := K) rfl PySem.F.plainAttrs_list PySem.F.slot_list_extend PySem.F.type_list_extend (mt_extendT (K := K) rfl) (pv 1) (pa_cons (pe_call G_numbered (hr.mono (by omega)) (by rfl) T.g_numbered T.F_numbered.kp T.b_numbered .nil pass0 (pa_cons (pv 2) pa_nil)) pa_nil)))))
      (pss_one (ps_ret (pe_callTy (call_tupleK (K := K) rfl) (by rfl) T.m_tuple (by decide +kernel) (pa_cons (pv 1) pa_nil)))))), ?_⟩
      walk_at "g"
      refine ⟨szK rfl, fun o ho => ?_⟩
      have s1 : Same H (upd H o (.lst [v])) := same_new ho
      have e1 : upd H o (.lst [v]) o = some (.lst [v]) := upd_same
      generalize upd H o (.lst [v]) = H1 at s1 e1
      have hM1 : Mk (also M o) H1 := (hM.gr (Gr.same s1)).also (ne_none e1)
      have hR1 := (hR.fresh ho).sx (Sx.same s1)
      walk_at "g"
      refine ⟨v, s, also M o, rfl, hR1, hM1, fun v2 H2 d s2 rv hd2 => ?_⟩
      subst hd2
      obtain ⟨t, ts, rfl, nt, ht, rts⟩ := Rp.tupX rv
      have lts : ts.length = s.inner.length := by have := rts.length; rw [List.length_map] at this; exact this
      refine ⟨t, rfl, ⟨_, SqT.of ht⟩, ?_⟩
      refine for_tup (K := K) (a := t) (xs := ts) (fun i σ H' => (∃ y2, σ = [some v, some (.ref o), y2]) ∧ ∃ xs, H' o = some (.lst xs) ∧ RpAll (also M o) H' xs ((s :: ((s.inner.take i).map Sh.subs).flatten).map Sh.enc) ∧ Sx (one o) H2 H' ∧ Gr H2 H' ∧ Same H H') ⟨⟨_, rfl⟩, [v], s2 _ _ e1, .one (hR1.sx (Sx.same s2)), Sx.refl, Gr.refl, s1.trans s2⟩ (fun i σ H' _ p => by obtain ⟨_, _, _, _, z, _⟩ := p; exact SqT.of (z _ _ (fun y => nt (.inr y)) ht)) (fun i x σ H' hx p => ?_) (fun σ H' p => ?_)
      · obtain ⟨⟨y2, rfl⟩, xs, eo, rx, sx, gr, sm⟩ := p
        have hi : i < s.inner.length := by rw [← lts]; exact (List.getElem?_eq_some_iff.mp hx).1
        obtain ⟨d, hd3, rd⟩ := rts.get hx
        rw [List.getElem?_map, List.getElem?_eq_getElem hi] at hd3
        cases hd3
        have hp : s.inner[i] ∈ s.inner := List.getElem_mem hi
        have lxs : xs.length ≤ s.cnt := by
          have h1 := rx.length
          have h2 : ((s.inner.take i).map Sh.subs).flatten.length = ((s.inner.map Sh.cnt).take i).sum := by
            rw [List.length_flatten, List.map_map, ← List.map_take]
            rfl
          have h3 := sum_take (s.inner.map Sh.cnt) i
          have h4 := cnt_eq s
          rw [List.length_map, List.length_cons, h2] at h1
          omega
        have sM : Sx (also M o) H2 H' := sx.le (one_le (.inr rfl))
        walk_at "g"
        refine ⟨.inl ⟨rfl, _, SqL.of eo⟩, ?_⟩
        walk_at "g"
        refine ⟨x, s.inner[i], also M o, rfl, rd.sx sM, (hM1.gr (Gr.same s2)).gr gr, by have := dep_inner hp; omega, by have := cnt_mem hp; omega, fun v4 H4 d4 s4 rv4 hd4 => ?_⟩
        subst hd4
        obtain ⟨u, us, rfl, nu, hu, rus⟩ := Rp.tupX rv4
        have lus : us.length = s.inner[i].cnt := by have := rus.length; rw [List.length_map] at this; exact this
        have hc4 := cnt_mem hp
        refine ⟨o, u, xs, us, rfl, rfl, s4 _ _ eo, SqT.of hu, by omega, ?_⟩
        have sP : Sx (one o) H4 (upd H4 o (.lst (xs ++ us))) := Sx.put rfl
        have sP' : Sx (also M o) H4 (upd H4 o (.lst (xs ++ us))) := Sx.put (.inr rfl)
        refine ⟨⟨_, rfl⟩, xs ++ us, upd_same, ?_, sx.trans ((Sx.same s4).trans sP), gr.trans ((Gr.same s4).trans Gr.upd), same_put (sm.trans s4) ho⟩
        rw [List.take_add_one, List.getElem?_eq_getElem hi, Option.toList_some, List.map_append, List.flatten_append]
        simp only [List.map_cons, List.map_nil, List.flatten_cons, List.flatten_nil, List.append_nil]
        rw [List.map_append]
        exact ((rx.sx (Sx.same s4)).sx sP').append (rus.sx sP')
      · obtain ⟨⟨y2, rfl⟩, xs, eo, rx, sx, gr, sm⟩ := p
        rw [List.take_of_length_le (by omega), ← subs_eq] at rx
        walk_at "g"
        refine ⟨o, xs, rfl, .inl ⟨SqL.of eo, fun p hp => ?_⟩⟩
        exact q _ _ _ (sm.trans (same_new hp)) (Rp.newT (hM.gr (Gr.same sm)) hp (rx.less also_le)) rfl
theorem Rp.lstX {M : Ms} {H : Hp} {v : V} {ds : List PyData} (h : Rp M H v (.list ds)) : ∃ a xs, v = .ref a ∧ ¬ M a ∧ Rd H a (.lst xs) ∧ RpAll M H xs ds := by
  cases h with
  | lst n s r => exact ⟨_, _, rfl, n, s, r⟩
theorem tag_eq (s : Sh) (b : Bool) : decide (V.str s.tag = V.str (sLine b)) = (match s with | .line r _ => r == b | _ => false) := by
  rw [V_str]
  cases s with
  | leaf l =>
    cases l with
    | text f => exact (by cases b <;> decide +kernel : decide (sText = sLine b) = false)
    | button f => exact (by cases b <;> decide +kernel : decide (sButton = sLine b) = false)
    | put f fs => exact (by cases b <;> decide +kernel : decide (sPut = sLine b) = false)
    | each f m k c fs => exact (by cases b <;> decide +kernel : decide (sEach = sLine b) = false)
  | whn f a' b' => exact (by cases b <;> decide +kernel : decide (sWhen = sLine b) = false)
  | line r ps => exact (by cases b <;> cases r <;> decide +kernel : decide (sLine r = sLine b) = (r == b))
def sp_parts : Sp := fun vs H Q _ => ∃ (v : V) (s : Sh) (M : Ms), vs = [v] ∧ Rp M H v s.enc ∧ Mk M H ∧ ∀ H' p xs, Same H H' → H p = none → H' p = some (.lst xs) → RpAll M H' xs (s.inner.map Sh.enc) → Q (.ref p) H'
theorem okl_parts (T : Txt K mg) : FnOk P w K mg base CX0 1 T.f__law_parts T.d__law_parts ["_law_shape"] sp_parts := by
  refine T.F__law_parts.ok sc__law_parts (fun vs H Q E h => ?_) (fun cdv A outer s H vs Q E hr h => ?_)
  · obtain ⟨_, _, _, rfl, _⟩ := h
    rfl
  · obtain ⟨v, s, M, rfl, hR, hM, q⟩ := h
    obtain ⟨a, ys, rfl, na, ha, ry⟩ := hR.shX
    refine ⟨_, (pss_cons (ps_if (PW.pt (pw_or (pt_cmpR op_eq (pe_ix (ix_tupK (K := K) rfl) (pv 0) pe_int (fun _ _ => rfl)) pe_str (nomark _)) (pw_or1 (pt_cmpR op_eq (pe_ix (ix_tupK (K := K) rfl) (pv 0) pe_int (fun _ _ => rfl)) pe_str (nomark _))))) (pss_one (ps_ret (pe_callTy (call_listK (K := K) rfl) (by rfl) T.m_list (by decide +kernel) (pa_cons (pe_ix (ix_tupK (K := K) rfl) (pv 0) pe_int (fun _ _ => rfl)) pa_nil)))) pss_nil)
      (pss_cons (ps_if (pt_cmpR op_eq (pe_ix (ix_tupK (K := K) rfl) (pv 0) pe_int (fun _ _ => rfl)) pe_str (nomark _)) (pss_one (ps_ret (pe_lst (pa_cons (pe_ix (ix_tupK (K := K) rfl) (pv 0) pe_int (fun _ _ => rfl)) (pa_cons (pe_ix (ix_tupK (K := K) rfl) (pv 0) pe_int (fun _ _ => rfl)) pa_nil))))) pss_nil)
      (pss_one (ps_ret (pe_lst pa_nil))))), ?_⟩
    walk_at "g"
    refine ⟨_, _, _, _, rfl, rfl, SqT.of ha, atI_nat (j := 0) rfl, ?_⟩
    walk_at "g"
    have fin : ∀ r ps, s = .line r ps → ∃ y r', ys = y :: r' ∧ ∃ p xs, y = .ref p ∧ ¬ M p ∧ H p = some (.tup xs) ∧ RpAll M H xs (ps.map Sh.enc) := fun r ps e => by
      subst e
      obtain ⟨y, r', rfl, hy, -⟩ := RpAll.consX ry
      obtain ⟨p, xs, rfl, np, hp, rx⟩ := Rp.tupX hy
      exact ⟨_, _, rfl, p, xs, rfl, np, hp, rx⟩
    rw [show (Str.ofString "row") = sLine true from rfl, tag_eq s true]
    rw [show (Str.ofString "col") = sLine false from rfl]
    have ix : ∀ (j : Nat) (y : V), (V.str s.tag :: ys)[j]? = some y → atI (V.str s.tag :: ys) (j : Int) = some y := fun j y h => atI_nat h
    have e2 : ∀ {H' : Hp}, Same H H' → H' a = some (.tup (.str s.tag :: ys)) := fun t => t _ _ ha
    cases h1 : s.isLine with
    | true =>
      cases s with
      | leaf l => cases h1
      | whn f a b => cases h1
      | line r ps =>
        obtain ⟨y, r', rfl, p1, xs, rfl, np, hp, rx⟩ := fin r ps rfl
        have done : ∀ l, H l = none → Q (.ref l) (upd H l (.lst xs)) := fun l hl => q _ l xs (same_new hl) hl upd_same (rx.sx (Sx.new hl))
        cases r with
        | true =>
          walk_at "g"
          refine ⟨_, _, _, _, rfl, rfl, SqT.of ha, ix 1 _ rfl, ?_⟩
          walk_at "g"
          exact ⟨p1, xs, rfl, .inr (SqT.of hp), done⟩
        | false =>
          walk_at "g"
          refine ⟨_, _, _, _, rfl, rfl, SqT.of ha, ix 0 _ rfl, ?_⟩
          walk_at "g"
          refine ⟨_, _, _, _, rfl, rfl, SqT.of ha, ix 1 _ rfl, ?_⟩
          walk_at "g"
          exact ⟨p1, xs, rfl, .inr (SqT.of hp), done⟩
    | false =>
      have nl : ∀ b, (match s with | .line r _ => r == b | _ => false) = false := fun b => by
        cases s with
        | leaf l => rfl
        | whn f a b => rfl
        | line r ps => cases h1
      rw [nl]
      walk_at "g"
      refine ⟨_, _, _, _, rfl, rfl, SqT.of ha, ix 0 _ rfl, ?_⟩
      walk_at "g"
      rw [tag_eq, nl]
      walk_at "g"
      refine ⟨_, _, _, _, rfl, rfl, SqT.of ha, ix 0 _ rfl, ?_⟩
      walk_at "g"
      rw [tag_when]
      cases h2 : s.isWhn with
      | true =>
        cases s with
        | leaf l => cases h2
        | line r ps => cases h2
        | whn f a' b' =>
          obtain ⟨y, r', rfl, hy, h3⟩ := RpAll.consX ry
          obtain ⟨y2, r2, rfl, hy2, h3⟩ := RpAll.consX h3
          obtain ⟨y3, r3, rfl, hy3, h3⟩ := RpAll.consX h3
          cases h3
          walk_at "g"
          refine ⟨szK rfl, fun p hp => ?_⟩
          exact q _ p [y2, y3] (same_new hp) hp upd_same (.cons (hy2.sx (Sx.new hp)) (.one (hy3.sx (Sx.new hp))))
      | false =>
        walk_at "g"
        refine ⟨szK rfl, fun p hp => ?_⟩
        refine q _ p [] (same_new hp) hp upd_same ?_
        rw [inner_nil h1 h2]
        exact .nil
def sp_lnums (n : Nat) : Sp := fun vs H Q _ => ∃ (v : V) (s : Sh) (M : Ms), vs = [v] ∧ Rp M H v s.enc ∧ Mk M H ∧ s.dep ≤ n ∧ s.cnt ≤ 1000 ∧ ∀ H' p xs, Same H H' → H p = none → H' p = some (.lst xs) → RpAll M H' xs (s.subs.map Sh.enc) → Q (.ref p) H'
theorem okl_nums (T : Txt K mg) : ∀ n, FnOk P w K mg base CX0 (n + 2) T.f__law_numbered T.d__law_numbered ["_law_shape"] (sp_lnums n) := by
  have G__law_parts := okl_parts (P := P) (w := w) (base := base) T
  intro n
  induction n with
  | zero =>
    refine T.F__law_numbered.ok sc__law_numbered (fun vs H Q E h => ?_) (fun cdv A outer s H vs Q E hr h => ?_)
    · obtain ⟨_, _, _, rfl, _⟩ := h
      rfl
    · obtain ⟨v, s, M, rfl, _, _, hd, _⟩ := h
      exact absurd (dep_pos s) (by omega)
  | succ n ih =>
    have G__law_numbered := ih
    refine T.F__law_numbered.ok sc__law_numbered (fun vs H Q E h => ?_) (fun cdv A outer s H vs Q E hr h => ?_)
    · obtain ⟨_, _, _, rfl, _⟩ := h
      rfl
    · obtain ⟨v, s, M, rfl, hR, hM, hd, hc, q⟩ := h
      refine ⟨_, (pss_cons (ps_set (i := 1) sc__law_numbered.nd rfl (Or.inl rfl) (pe_lst (pa_cons (pv 0) pa_nil)))
      (pss_cons (ps_for PassesOwn.never rfl (pi_listK (K := K) rfl (pe_call G__law_parts (hr.mono (by omega)) (by rfl) T.g__law_parts T.F__law_parts.kp T.b__law_parts .nil pass0 (pa_cons (pv 0) pa_nil))) (pg_name (i := 2) sc__law_numbered.nd rfl (Or.inl rfl)) (pss_one (ps_expr (pe_bmK2 (K := K) rfl PySem.F.plainAttrs_list PySem.F.slot_list_extend PySem.F.type_list_extend mt_extend (pv 1) (pa_cons (pe_call G__law_numbered (hr.mono (by omega)) (by rfl) T.g__law_numbered T.F__law_numbered.kp T.b__law_numbered .nil pass0 (pa_cons (pv 2) pa_nil)) pa_nil)))))
      (pss_one (ps_ret (pv 1))))), ?_⟩
      walk_at "g"
      refine ⟨szK rfl, fun o ho => ?_⟩
      have s1 : Same H (upd H o (.lst [v])) := same_new ho
      have e1 : upd H o (.lst [v]) o = some (.lst [v]) := upd_same
      generalize upd H o (.lst [v]) = H1 at s1 e1
      have hM1 : Mk (also M o) H1 := (hM.gr (Gr.same s1)).also (ne_none e1)
      have hR1 := (hR.fresh ho).sx (Sx.same s1)
      walk_at "g"
      refine ⟨v, s, also M o, rfl, hR1, hM1, fun H2 t ts s2 t0 ht rts => ?_⟩
      have nt : ¬ also M o t := hM1.out t0
      have lts : ts.length = s.inner.length := by have := rts.length; rw [List.length_map] at this; exact this
      refine ⟨t, rfl, ⟨_, SqL.of ht⟩, ?_⟩
      refine for_list (K := K) (a := t) (xs := ts) (fun i σ H' => (∃ y2, σ = [some v, some (.ref o), y2]) ∧ ∃ xs, H' o = some (.lst xs) ∧ RpAll (also M o) H' xs ((s :: ((s.inner.take i).map Sh.subs).flatten).map Sh.enc) ∧ Sx (one o) H2 H' ∧ Gr H2 H' ∧ Same H H') ⟨⟨_, rfl⟩, [v], s2 _ _ e1, .one (hR1.sx (Sx.same s2)), Sx.refl, Gr.refl, s1.trans s2⟩ (fun i σ H' _ p => by obtain ⟨_, _, _, _, z, _⟩ := p; exact SqL.of (z _ _ (fun y => nt (.inr y)) ht)) (fun i x σ H' hx p => ?_) (fun σ H' p => ?_)
      · obtain ⟨⟨y2, rfl⟩, xs, eo, rx, sx, gr, sm⟩ := p
        have hi : i < s.inner.length := by rw [← lts]; exact (List.getElem?_eq_some_iff.mp hx).1
        obtain ⟨d, hd3, rd⟩ := rts.get hx
        rw [List.getElem?_map, List.getElem?_eq_getElem hi] at hd3
        cases hd3
        have hp : s.inner[i] ∈ s.inner := List.getElem_mem hi
        have lxs : xs.length ≤ s.cnt := by
          have h1 := rx.length
          have h2 : ((s.inner.take i).map Sh.subs).flatten.length = ((s.inner.map Sh.cnt).take i).sum := by
            rw [List.length_flatten, List.map_map, ← List.map_take]
            rfl
          have h3 := sum_take (s.inner.map Sh.cnt) i
          have h4 := cnt_eq s
          rw [List.length_map, List.length_cons, h2] at h1
          omega
        have sM : Sx (also M o) H2 H' := sx.le (one_le (.inr rfl))
        walk_at "g"
        refine ⟨.inl ⟨rfl, _, SqL.of eo⟩, ?_⟩
        walk_at "g"
        refine ⟨x, s.inner[i], also M o, rfl, rd.sx sM, (hM1.gr (Gr.same s2)).gr gr, by have := dep_inner hp; omega, by have := cnt_mem hp; omega, fun H4 u us s4 u0 hu rus => ?_⟩
        have lus : us.length = s.inner[i].cnt := by have := rus.length; rw [List.length_map] at this; exact this
        have hc4 := cnt_mem hp
        refine ⟨o, u, xs, us, rfl, rfl, s4 _ _ eo, hu, by rw [sizeLine_eq]; omega, ?_⟩
        have sP : Sx (one o) H4 (upd H4 o (.lst (xs ++ us))) := Sx.put rfl
        have sP' : Sx (also M o) H4 (upd H4 o (.lst (xs ++ us))) := Sx.put (.inr rfl)
        refine ⟨⟨_, rfl⟩, xs ++ us, upd_same, ?_, sx.trans ((Sx.same s4).trans sP), gr.trans ((Gr.same s4).trans Gr.upd), same_put (sm.trans s4) ho⟩
        rw [List.take_add_one, List.getElem?_eq_getElem hi, Option.toList_some, List.map_append, List.flatten_append]
        simp only [List.map_cons, List.map_nil, List.flatten_cons, List.flatten_nil, List.append_nil]
        rw [List.map_append]
        exact ((rx.sx (Sx.same s4)).sx sP').append (rus.sx sP')
      · obtain ⟨⟨y2, rfl⟩, xs, eo, rx, sx, gr, sm⟩ := p
        rw [List.take_of_length_le (by omega), ← subs_eq] at rx
        walk_at "g"
        exact q _ o xs sm ho eo (rx.less also_le)
end
end D

namespace D
open PySem PySem.Spec PyProof.Rows L2
local macro_rules | `(tactic| walk_at "st") => `(tactic| first | exact SqT.of (by assumption) | exact Or.inl (by assumption) | exact SqT.of upd_same | fail "st")
local macro_rules | `(tactic| walk_at "ixt") => `(tactic| refine ⟨_, _, _, _, rfl, rfl, (by walk_at "st" : SqT _ _ _ _), by rfl, ?_⟩)
local macro_rules | `(tactic| walk_at "sq") => `(tactic| first | exact SqL.of (by assumption) | assumption | exact Or.inl (by assumption) | exact SqL.of upd_same | fail "sq")
local macro_rules | `(tactic| walk_at "ix") => `(tactic| refine ⟨_, _, _, _, rfl, rfl, (by walk_at "sq" : SqL _ _ _ _), by rfl, ?_⟩)
local macro_rules | `(tactic| walk_at "set") => `(tactic| refine ⟨_, _, _, _, rfl, rfl, by first | assumption | exact upd_same, by rfl, ?_⟩)
local macro_rules | `(tactic| walk_at "len") => `(tactic| refine ⟨_, _, rfl, Or.inl (by walk_at "sq" : SqL _ _ _ _), ?_⟩)
local macro_rules | `(tactic| walk_at "g") => `(tactic| repeat (first | refine ⟨_, rfl, ?_⟩ | refine ⟨_, _, rfl, rfl, ?_⟩ | refine ⟨Or.inr (by decide), ?_⟩ | refine ⟨Or.inl (by decide), ?_⟩ | refine ⟨(by decide : (0 : Int) < _), ?_⟩ | refine ⟨(⟨by decide, by decide⟩ : CDiv _ _), ?_⟩ | refine ⟨(⟨by decide, by decide, by decide⟩ : CPow _ _), ?_⟩ | refine Or.inl ⟨_, rfl, ?_⟩ | refine ⟨rfl, ?_⟩ | walk_at "ix" | walk_at "ixt" | walk_at "len" | fail "g"))
local macro_rules | `(tactic| walk_at "if") => `(tactic| refine ite2 (fun e => ?_) (fun e => ?_))
section
variable {P : Program} {w : World} {K : PySem.W.Frag} {mg : Str → Option Value} {base : Heap}
theorem depAll_snoc (p : Sh) : ∀ ps : List Sh, Sh.depAll (ps ++ [p]) = Nat.max (Sh.depAll ps) p.dep
  | [] => by
    show Sh.depAll [p] = _
    rw [Sh.depAll]
    exact Nat.max_comm _ _
  | q :: r => by
    show Sh.depAll (q :: (r ++ [p])) = _
    rw [Sh.depAll, Sh.depAll, depAll_snoc p r]
    exact (Nat.max_assoc _ _ _).symm
def sp_lev (n : Nat) : Sp := fun vs H Q _ => ∃ (v : V) (s : Sh) (M : Ms), vs = [v] ∧ Rp M H v s.enc ∧ Mk M H ∧ s.dep ≤ n ∧ ∀ H', Same H H' → Q (.int (s.dep : Nat)) H'
theorem ok_levels (T : Txt K mg) : ∀ n, FnOk P w K mg base CX0 (n + 2) T.f_levels T.d_levels ["shape"] (sp_lev n) := by
  have G_inner_shapes := okf_inner (P := P) (w := w) (base := base) T
  intro n
  induction n with
  | zero =>
    refine T.F_levels.ok sc_levels (fun vs H Q E h => ?_) (fun cdv A outer s H vs Q E hr h => ?_)
    · obtain ⟨_, _, _, rfl, _⟩ := h
      rfl
    · obtain ⟨v, s, M, rfl, _, _, hd, _⟩ := h
      exact absurd (dep_pos s) (by omega)
  | succ n ih =>
    have G_levels := ih
    refine T.F_levels.ok sc_levels (fun vs H Q E h => ?_) (fun cdv A outer s H vs Q E hr h => ?_)
    · obtain ⟨_, _, _, rfl, _⟩ := h
      rfl
    · obtain ⟨v, s, M, rfl, hR, hM, hd, q⟩ := h
      refine ⟨_, (pss_cons (ps_set (i := 1) sc_levels.nd rfl (Or.inl rfl) pe_int)
      (pss_cons (ps_for PassesOwn.never rfl (pi_tupK (K := K) rfl (pe_call G_inner_shapes (hr.mono (by omega)) (by rfl) T.g_inner_shapes T.F_inner_shapes.kp T.b_inner_shapes .nil pass0 (pa_cons (pv 0) pa_nil))) (pg_name (i := 2) sc_levels.nd rfl (Or.inl rfl)) (pss_cons (ps_set (i := 3) sc_levels.nd rfl (Or.inl rfl) (pe_call G_levels (hr.mono (by omega)) (by rfl) T.g_levels T.F_levels.kp T.b_levels .nil pass0 (pa_cons (pv 2) pa_nil)))
      (pss_one (ps_if (pt_cmpR op_gt (pv 3) (pv 1) (nomark _)) (pss_one (ps_set (i := 1) sc_levels.nd rfl (Or.inl rfl) (pv 3))) pss_nil))))
      (pss_one (ps_ret (pe_op op_add (pv 1) pe_int))))), ?_⟩
      walk_at "g"
      refine ⟨v, s, M, rfl, hR, hM, fun v2 H2 d s2 rv hd2 => ?_⟩
      subst hd2
      obtain ⟨t, ts, rfl, nt, ht, rts⟩ := Rp.tupX rv
      have lts : ts.length = s.inner.length := by have := rts.length; rw [List.length_map] at this; exact this
      refine ⟨t, rfl, ⟨_, SqT.of ht⟩, ?_⟩
      refine for_tup (K := K) (a := t) (xs := ts) (fun i σ H' => (∃ y2 y3, σ = [some v, some (.int (Sh.depAll (s.inner.take i) : Nat)), y2, y3]) ∧ Same H2 H') ⟨⟨_, _, by rw [List.take_zero, Sh.depAll]; rfl⟩, Same.refl _⟩ (fun i σ H' _ p => SqT.of (p.2 _ _ ht)) (fun i x σ H' hx p => ?_) (fun σ H' p => ?_)
      · obtain ⟨⟨y2, y3, rfl⟩, sm⟩ := p
        have hi : i < s.inner.length := by rw [← lts]; exact (List.getElem?_eq_some_iff.mp hx).1
        obtain ⟨d, hd3, rd⟩ := rts.get hx
        rw [List.getElem?_map, List.getElem?_eq_getElem hi] at hd3
        cases hd3
        have hp : s.inner[i] ∈ s.inner := List.getElem_mem hi
        have e1 : Sh.depAll (s.inner.take (i + 1)) = Nat.max (Sh.depAll (s.inner.take i)) s.inner[i].dep := by
          rw [List.take_add_one, List.getElem?_eq_getElem hi, Option.toList_some, depAll_snoc]
        rw [e1]
        walk_at "g"
        refine ⟨x, s.inner[i], M, rfl, rd.sx (Sx.same sm), (hM.gr (Gr.same s2)).gr (Gr.same sm), by have := dep_inner hp; omega, fun H4 s4 => ?_⟩
        walk_at "g"
        walk_at "if"
        · rename_i c
          have c' := of_decide_eq_true c
          walk_at "g"
          refine ⟨⟨some x, some (.int (s.inner[i].dep : Nat)), ?_⟩, sm.trans s4⟩
          rw [show Nat.max (Sh.depAll (s.inner.take i)) s.inner[i].dep = s.inner[i].dep from Nat.max_eq_right (by omega)]
          rfl
        · rename_i c
          have c' : ¬ ((Sh.depAll (s.inner.take i) : Nat) : Int) < (s.inner[i].dep : Nat) := fun z => c (decide_eq_true z)
          walk_at "g"
          refine ⟨⟨some x, some (.int (s.inner[i].dep : Nat)), ?_⟩, sm.trans s4⟩
          rw [show Nat.max (Sh.depAll (s.inner.take i)) s.inner[i].dep = Sh.depAll (s.inner.take i) from Nat.max_eq_left (by omega)]
          rfl
      · obtain ⟨⟨y2, y3, rfl⟩, sm⟩ := p
        rw [List.take_of_length_le (by omega)]
        walk_at "g"
        have e : ((Sh.depAll s.inner : Nat) : Int) + 1 = (s.dep : Nat) := by rw [dep_eq s]; omega
        have q' := q _ (s2.trans sm)
        rw [← e] at q'
        exact q'
theorem ok_high (T : Txt K mg) : ∀ n, FnOk P w K mg base CX0 (n + 2) T.f__law_high T.d__law_high ["_law_shape"] (sp_lev n) := by
  have G__law_parts := okl_parts (P := P) (w := w) (base := base) T
  intro n
  induction n with
  | zero =>
    refine T.F__law_high.ok sc__law_high (fun vs H Q E h => ?_) (fun cdv A outer s H vs Q E hr h => ?_)
    · obtain ⟨_, _, _, rfl, _⟩ := h
      rfl
    · obtain ⟨v, s, M, rfl, _, _, hd, _⟩ := h
      exact absurd (dep_pos s) (by omega)
  | succ n ih =>
    have G__law_high := ih
    refine T.F__law_high.ok sc__law_high (fun vs H Q E h => ?_) (fun cdv A outer s H vs Q E hr h => ?_)
    · obtain ⟨_, _, _, rfl, _⟩ := h
      rfl
    · obtain ⟨v, s, M, rfl, hR, hM, hd, q⟩ := h
      refine ⟨_, (pss_cons (ps_set (i := 1) sc__law_high.nd rfl (Or.inl rfl) pe_int)
      (pss_cons (ps_for PassesOwn.never rfl (pi_listK (K := K) rfl (pe_call G__law_parts (hr.mono (by omega)) (by rfl) T.g__law_parts T.F__law_parts.kp T.b__law_parts .nil pass0 (pa_cons (pv 0) pa_nil))) (pg_name (i := 2) sc__law_high.nd rfl (Or.inl rfl)) (pss_cons (ps_set (i := 3) sc__law_high.nd rfl (Or.inl rfl) (pe_call G__law_high (hr.mono (by omega)) (by rfl) T.g__law_high T.F__law_high.kp T.b__law_high .nil pass0 (pa_cons (pv 2) pa_nil)))
      (pss_one (ps_if (pt_cmpR op_gt (pv 3) (pv 1) (nomark _)) (pss_one (ps_set (i := 1) sc__law_high.nd rfl (Or.inl rfl) (pv 3))) pss_nil))))
      (pss_one (ps_ret (pe_op op_add (pv 1) pe_int))))), ?_⟩
      walk_at "g"
      refine ⟨v, s, M, rfl, hR, hM, fun H2 t ts s2 t0 ht rts => ?_⟩
      have lts : ts.length = s.inner.length := by have := rts.length; rw [List.length_map] at this; exact this
      refine ⟨t, rfl, ⟨_, SqL.of ht⟩, ?_⟩
      refine for_list (K := K) (a := t) (xs := ts) (fun i σ H' => (∃ y2 y3, σ = [some v, some (.int (Sh.depAll (s.inner.take i) : Nat)), y2, y3]) ∧ Same H2 H') ⟨⟨_, _, by rw [List.take_zero, Sh.depAll]; rfl⟩, Same.refl _⟩ (fun i σ H' _ p => SqL.of (p.2 _ _ ht)) (fun i x σ H' hx p => ?_) (fun σ H' p => ?_)
      · obtain ⟨⟨y2, y3, rfl⟩, sm⟩ := p
        have hi : i < s.inner.length := by rw [← lts]; exact (List.getElem?_eq_some_iff.mp hx).1
        obtain ⟨d, hd3, rd⟩ := rts.get hx
        rw [List.getElem?_map, List.getElem?_eq_getElem hi] at hd3
        cases hd3
        have hp : s.inner[i] ∈ s.inner := List.getElem_mem hi
        have e1 : Sh.depAll (s.inner.take (i + 1)) = Nat.max (Sh.depAll (s.inner.take i)) s.inner[i].dep := by
          rw [List.take_add_one, List.getElem?_eq_getElem hi, Option.toList_some, depAll_snoc]
        rw [e1]
        walk_at "g"
        refine ⟨x, s.inner[i], M, rfl, rd.sx (Sx.same sm), (hM.gr (Gr.same s2)).gr (Gr.same sm), by have := dep_inner hp; omega, fun H4 s4 => ?_⟩
        walk_at "g"
        walk_at "if"
        · rename_i c
          have c' := of_decide_eq_true c
          walk_at "g"
          refine ⟨⟨some x, some (.int (s.inner[i].dep : Nat)), ?_⟩, sm.trans s4⟩
          rw [show Nat.max (Sh.depAll (s.inner.take i)) s.inner[i].dep = s.inner[i].dep from Nat.max_eq_right (by omega)]
          rfl
        · rename_i c
          have c' : ¬ ((Sh.depAll (s.inner.take i) : Nat) : Int) < (s.inner[i].dep : Nat) := fun z => c (decide_eq_true z)
          walk_at "g"
          refine ⟨⟨some x, some (.int (s.inner[i].dep : Nat)), ?_⟩, sm.trans s4⟩
          rw [show Nat.max (Sh.depAll (s.inner.take i)) s.inner[i].dep = Sh.depAll (s.inner.take i) from Nat.max_eq_left (by omega)]
          rfl
      · obtain ⟨⟨y2, y3, rfl⟩, sm⟩ := p
        rw [List.take_of_length_le (by omega)]
        walk_at "g"
        have e : ((Sh.depAll s.inner : Nat) : Int) + 1 = (s.dep : Nat) := by rw [dep_eq s]; omega
        have q' := q _ (s2.trans sm)
        rw [← e] at q'
        exact q'
/-! ### shapes made -/
def sp_row (b : Bool) : Sp := fun vs H Q _ => ∃ (v : V) (ds : List PyData) (M : Ms), vs = [v] ∧ Rp M H v (.tuple ds) ∧ Mk M H ∧ Pu M H (fun d => d = .tuple [.str (sLine b), .tuple ds]) Q
theorem star_row {b : Bool} {M : Ms} {H : Hp} {rest : List V} {ds : List PyData} {Q : VK} {E : XK} (hM : Mk M H) (hl : rest.length ≤ 1000) (rx : RpAll M H rest ds) (q : Pu M H (fun d => d = .tuple [.str (sLine b), .tuple ds]) Q) : spStar 0 (sp_row b) rest H Q E :=
  ⟨[], rest, rfl, rfl, Nat.le_of_lt (small1000 hl), fun p hp => ⟨.ref p, ds, M, rfl, Rp.newT hM hp rx, hM.gr Gr.upd, fun v H' d s r e => q v H' d ((same_new hp).trans s) r e⟩⟩
theorem ok_row_shape (T : Txt K mg) : FnR P w K mg base CX0 1 T.f_row_shape (spStar 0 (sp_row true)) := by
  refine Fun.okS (ps := []) (pv := "parts") (sp := sp_row true) T.F_row_shape sc_row_shape (fun _ _ _ _ _ _ us rest hu => ?_) (fun cdv A outer s H vs Q E hr h => ?_)
  · cases us with
    | cons _ _ => cases hu
    | nil => cases rest <;> rfl
  · obtain ⟨v, ds, M, rfl, hR, hM, q⟩ := h
    refine ⟨_, (pss_one (ps_ret (pe_tup (pa_cons pe_str (pa_cons (pv 0) pa_nil))))), ?_⟩
    walk_at "g"
    refine ⟨szK rfl, fun p hp => ?_⟩
    exact q _ _ _ (same_new hp) (Rp.newT hM hp (.cons (.str _) (.one hR))) rfl
theorem ok_col_shape (T : Txt K mg) : FnR P w K mg base CX0 1 T.f_col_shape (spStar 0 (sp_row false)) := by
  refine Fun.okS (ps := []) (pv := "parts") (sp := sp_row false) T.F_col_shape sc_col_shape (fun _ _ _ _ _ _ us rest hu => ?_) (fun cdv A outer s H vs Q E hr h => ?_)
  · cases us with
    | cons _ _ => cases hu
    | nil => cases rest <;> rfl
  · obtain ⟨v, ds, M, rfl, hR, hM, q⟩ := h
    refine ⟨_, (pss_one (ps_ret (pe_tup (pa_cons pe_str (pa_cons (pv 0) pa_nil))))), ?_⟩
    walk_at "g"
    refine ⟨szK rfl, fun p hp => ?_⟩
    exact q _ _ _ (same_new hp) (Rp.newT hM hp (.cons (.str _) (.one hR))) rfl
def sp_put : Sp := fun vs H Q _ => ∃ (c v : V) (d : PyData) (ds : List PyData) (M : Ms), vs = [c, v] ∧ Rp M H c d ∧ Rp M H v (.tuple ds) ∧ Mk M H ∧ Pu M H (fun e => e = .tuple [.str sPut, d, .tuple ds]) Q
theorem star_put {M : Ms} {H : Hp} {c : V} {d : PyData} {rest : List V} {ds : List PyData} {Q : VK} {E : XK} (hM : Mk M H) (hl : rest.length ≤ 1000) (hc : Rp M H c d) (rx : RpAll M H rest ds) (q : Pu M H (fun e => e = .tuple [.str sPut, d, .tuple ds]) Q) : spStar 1 sp_put (c :: rest) H Q E :=
  ⟨[c], rest, rfl, rfl, Nat.le_of_lt (small1000 hl), fun p hp => ⟨c, .ref p, d, ds, M, rfl, hc.sx (Sx.new hp), Rp.newT hM hp rx, hM.gr Gr.upd, fun v H' e s r z => q v H' e ((same_new hp).trans s) r z⟩⟩
theorem ok_put_shape (T : Txt K mg) : FnR P w K mg base CX0 1 T.f_put_shape (spStar 1 sp_put) := by
  refine Fun.okS (ps := ["component"]) (pv := "forms") (sp := sp_put) T.F_put_shape sc_put_shape (fun _ _ _ _ _ _ us rest hu => ?_) (fun cdv A outer s H vs Q E hr h => ?_)
  · match us, hu with
    | [a], _ => cases rest <;> rfl
  · obtain ⟨c, v, d, ds, M, rfl, hc, hR, hM, q⟩ := h
    refine ⟨_, (pss_one (ps_ret (pe_tup (pa_cons pe_str (pa_cons (pv 0) (pa_cons (pv 1) pa_nil)))))), ?_⟩
    walk_at "g"
    refine ⟨szK rfl, fun p hp => ?_⟩
    exact q _ _ _ (same_new hp) (Rp.newT hM hp (.cons (.str _) (.cons hc (.one hR)))) rfl
def sp_each : Sp := fun vs H Q _ => ∃ (f m k c v : V) (df dm dk dc : PyData) (ds : List PyData) (M : Ms), vs = [f, m, k, c, v] ∧ Rp M H f df ∧ Rp M H m dm ∧ Rp M H k dk ∧ Rp M H c dc ∧ Rp M H v (.tuple ds) ∧ Mk M H ∧ Pu M H (fun e => e = .tuple [.str sEach, df, dm, dk, dc, .tuple ds]) Q
theorem star_each {M : Ms} {H : Hp} {f m k c : V} {df dm dk dc : PyData} {rest : List V} {ds : List PyData} {Q : VK} {E : XK} (hM : Mk M H) (hl : rest.length ≤ 1000) (hf : Rp M H f df) (hm : Rp M H m dm) (hk : Rp M H k dk) (hc : Rp M H c dc) (rx : RpAll M H rest ds) (q : Pu M H (fun e => e = .tuple [.str sEach, df, dm, dk, dc, .tuple ds]) Q) : spStar 4 sp_each (f :: m :: k :: c :: rest) H Q E :=
  ⟨[f, m, k, c], rest, rfl, rfl, Nat.le_of_lt (small1000 hl), fun p hp => ⟨f, m, k, c, .ref p, df, dm, dk, dc, ds, M, rfl, hf.sx (Sx.new hp), hm.sx (Sx.new hp), hk.sx (Sx.new hp), hc.sx (Sx.new hp), Rp.newT hM hp rx, hM.gr Gr.upd, fun v H' e s r z => q v H' e ((same_new hp).trans s) r z⟩⟩
theorem ok_each_shape (T : Txt K mg) : FnR P w K mg base CX0 1 T.f_each_shape (spStar 4 sp_each) := by
  refine Fun.okS (ps := ["form", "menu", "key", "component"]) (pv := "forms") (sp := sp_each) T.F_each_shape sc_each_shape (fun _ _ _ _ _ _ us rest hu => ?_) (fun cdv A outer s H vs Q E hr h => ?_)
  · match us, hu with
    | [a, b, c, d], _ => cases rest <;> rfl
  · obtain ⟨f, m, k, c, v, df, dm, dk, dc, ds, M, rfl, hf, hm, hk, hc, hR, hM, q⟩ := h
    refine ⟨_, (pss_one (ps_ret (pe_tup (pa_cons pe_str (pa_cons (pv 0) (pa_cons (pv 1) (pa_cons (pv 2) (pa_cons (pv 3) (pa_cons (pv 4) pa_nil))))))))), ?_⟩
    walk_at "g"
    refine ⟨szK rfl, fun p hp => ?_⟩
    exact q _ _ _ (same_new hp) (Rp.newT hM hp (.cons (.str _) (.cons hf (.cons hm (.cons hk (.cons hc (.one hR))))))) rfl
def sp_one (z : Str) : Sp := fun vs H Q _ => ∃ (v : V) (d : PyData) (M : Ms), vs = [v] ∧ Rp M H v d ∧ Mk M H ∧ Pu M H (fun e => e = .tuple [.str z, d]) Q
theorem ok_text_shape (T : Txt K mg) : FnOk P w K mg base CX0 1 T.f_text_shape T.d_text_shape ["form"] (sp_one sText) := by
  refine T.F_text_shape.ok sc_text_shape (fun vs H Q E h => ?_) (fun cdv A outer s H vs Q E hr h => ?_)
  · obtain ⟨_, _, _, rfl, _⟩ := h
    rfl
  · obtain ⟨v, d, M, rfl, hR, hM, q⟩ := h
    refine ⟨_, (pss_one (ps_ret (pe_tup (pa_cons pe_str (pa_cons (pv 0) pa_nil))))), ?_⟩
    walk_at "g"
    refine ⟨szK rfl, fun p hp => ?_⟩
    exact q _ _ _ (same_new hp) (Rp.newT hM hp (.cons (.str _) (.one hR))) rfl
theorem ok_button_shape (T : Txt K mg) : FnOk P w K mg base CX0 1 T.f_button_shape T.d_button_shape ["word"] (sp_one sButton) := by
  refine T.F_button_shape.ok sc_button_shape (fun vs H Q E h => ?_) (fun cdv A outer s H vs Q E hr h => ?_)
  · obtain ⟨_, _, _, rfl, _⟩ := h
    rfl
  · obtain ⟨v, d, M, rfl, hR, hM, q⟩ := h
    refine ⟨_, (pss_one (ps_ret (pe_tup (pa_cons pe_str (pa_cons (pv 0) pa_nil))))), ?_⟩
    walk_at "g"
    refine ⟨szK rfl, fun p hp => ?_⟩
    exact q _ _ _ (same_new hp) (Rp.newT hM hp (.cons (.str _) (.one hR))) rfl
def sp_when : Sp := fun vs H Q _ => ∃ (f a b : V) (df da db : PyData) (M : Ms), vs = [f, a, b] ∧ Rp M H f df ∧ Rp M H a da ∧ Rp M H b db ∧ Mk M H ∧ Pu M H (fun e => e = .tuple [.str sWhen, df, da, db]) Q
theorem ok_when_shape (T : Txt K mg) : FnOk P w K mg base CX0 1 T.f_when_shape T.d_when_shape ["form", "first", "second"] sp_when := by
  refine T.F_when_shape.ok sc_when_shape (fun vs H Q E h => ?_) (fun cdv A outer s H vs Q E hr h => ?_)
  · obtain ⟨_, _, _, _, _, _, _, rfl, _⟩ := h
    rfl
  · obtain ⟨f, a, b, df, da, db, M, rfl, hf, ha, hb, hM, q⟩ := h
    refine ⟨_, (pss_one (ps_ret (pe_tup (pa_cons pe_str (pa_cons (pv 0) (pa_cons (pv 1) (pa_cons (pv 2) pa_nil))))))), ?_⟩
    walk_at "g"
    refine ⟨szK rfl, fun p hp => ?_⟩
    exact q _ _ _ (same_new hp) (Rp.newT hM hp (.cons (.str _) (.cons hf (.cons ha (.one hb))))) rfl
def sp_lined : Sp := fun vs H Q _ => ∃ (b : Bool) (a : Addr) (xs : List V) (ds : List PyData) (M : Ms), vs = [.str (sLine b), .ref a] ∧ H a = some (.lst xs) ∧ RpAll M H xs ds ∧ Mk M H ∧ okLen xs.length ∧ Pu M H (fun d => d = .tuple [.str (sLine b), .tuple ds]) Q
theorem ok_lined (T : Txt K mg) : FnOk P w K mg base CX0 2 T.f__law_lined T.d__law_lined ["_law_word", "_law_p"] sp_lined := by
  have R_row_shape := ok_row_shape (P := P) (w := w) (base := base) T
  have R_col_shape := ok_col_shape (P := P) (w := w) (base := base) T
  refine T.F__law_lined.ok sc__law_lined (fun vs H Q E h => ?_) (fun cdv A outer s H vs Q E hr h => ?_)
  · obtain ⟨_, _, _, _, _, rfl, _⟩ := h
    rfl
  · obtain ⟨b, a, xs, ds, M, rfl, ha, rx, hM, hl, q⟩ := h
    refine ⟨_, (pss_cons (ps_if (pt_cmpR op_eq (pe_callB (call_lenK (K := K) rfl) (by rfl) T.m_len PySem.boot_len (pa_cons (pv 1) pa_nil)) pe_int (nomark _)) (pss_one (ps_ret (pe_ifExp (pt_cmpR op_eq (pv 0) pe_str (nomark _)) (pe_callR0 R_row_shape (hr.mono (by omega)) (by rfl) T.g_row_shape T.F_row_shape.kp pass0) (pe_callR0 R_col_shape (hr.mono (by omega)) (by rfl) T.g_col_shape T.F_col_shape.kp pass0)))) pss_nil)
      (pss_cons (ps_if (pt_cmpR op_eq (pe_callB (call_lenK (K := K) rfl) (by rfl) T.m_len PySem.boot_len (pa_cons (pv 1) pa_nil)) pe_int (nomark _)) (pss_one (ps_ret (pe_ifExp (pt_cmpR op_eq (pv 0) pe_str (nomark _)) (pe_callR R_row_shape (hr.mono (by omega)) (by rfl) T.g_row_shape T.F_row_shape.kp pass0 (pa_cons (pe_ix (ix_listK (K := K) rfl) (pv 1) pe_int (fun _ _ => rfl)) pa_nil)) (pe_callR R_col_shape (hr.mono (by omega)) (by rfl) T.g_col_shape T.F_col_shape.kp pass0 (pa_cons (pe_ix (ix_listK (K := K) rfl) (pv 1) pe_int (fun _ _ => rfl)) pa_nil))))) pss_nil)
      (pss_cons (ps_if (pt_cmpR op_eq (pe_callB (call_lenK (K := K) rfl) (by rfl) T.m_len PySem.boot_len (pa_cons (pv 1) pa_nil)) pe_int (nomark _)) (pss_one (ps_ret (pe_ifExp (pt_cmpR op_eq (pv 0) pe_str (nomark _)) (pe_callR R_row_shape (hr.mono (by omega)) (by rfl) T.g_row_shape T.F_row_shape.kp pass0 (pa_cons (pe_ix (ix_listK (K := K) rfl) (pv 1) pe_int (fun _ _ => rfl)) (pa_cons (pe_ix (ix_listK (K := K) rfl) (pv 1) pe_int (fun _ _ => rfl)) pa_nil))) (pe_callR R_col_shape (hr.mono (by omega)) (by rfl) T.g_col_shape T.F_col_shape.kp pass0 (pa_cons (pe_ix (ix_listK (K := K) rfl) (pv 1) pe_int (fun _ _ => rfl)) (pa_cons (pe_ix (ix_listK (K := K) rfl) (pv 1) pe_int (fun _ _ => rfl)) pa_nil)))))) pss_nil)
      (pss_cons (ps_if (pt_cmpR op_eq (pe_callB (call_lenK (K := K) rfl) (by rfl) T.m_len PySem.boot_len (pa_cons (pv 1) pa_nil)) pe_int (nomark _)) (pss_one (ps_ret (pe_ifExp (pt_cmpR op_eq (pv 0) pe_str (nomark _)) (pe_callR R_row_shape (hr.mono (by omega)) (by rfl) T.g_row_shape T.F_row_shape.kp pass0 (pa_cons (pe_ix (ix_listK (K := K) rfl) (pv 1) pe_int (fun _ _ => rfl)) (pa_cons (pe_ix (ix_listK (K := K) rfl) (pv 1) pe_int (fun _ _ => rfl)) (pa_cons (pe_ix (ix_listK (K := K) rfl) (pv 1) pe_int (fun _ _ => rfl)) pa_nil)))) (pe_callR R_col_shape (hr.mono (by omega)) (by rfl) T.g_col_shape T.F_col_shape.kp pass0 (pa_cons (pe_ix (ix_listK (K := K) rfl) (pv 1) pe_int (fun _ _ => rfl)) (pa_cons (pe_ix (ix_listK (K := K) rfl) (pv 1) pe_int (fun _ _ => rfl)) (pa_cons (pe_ix (ix_listK (K := K) rfl) (pv 1) pe_int (fun _ _ => rfl)) pa_nil))))))) pss_nil)
      (pss_cons (ps_if (pt_cmpR op_eq (pe_callB (call_lenK (K := K) rfl) (by rfl) T.m_len PySem.boot_len (pa_cons (pv 1) pa_nil)) pe_int (nomark _)) (pss_one (ps_ret (pe_ifExp (pt_cmpR op_eq (pv 0) pe_str (nomark _)) (pe_callR R_row_shape (hr.mono (by omega)) (by rfl) T.g_row_shape T.F_row_shape.kp pass0 (pa_cons (pe_ix (ix_listK (K := K) rfl) (pv 1) pe_int (fun _ _ => rfl)) (pa_cons (pe_ix (ix_listK (K := K) rfl) (pv 1) pe_int (fun _ _ => rfl)) (pa_cons (pe_ix (ix_listK (K := K) rfl) (pv 1) pe_int (fun _ _ => rfl)) (pa_cons (pe_ix (ix_listK (K := K) rfl) (pv 1) pe_int (fun _ _ => rfl)) pa_nil))))) (pe_callR R_col_shape (hr.mono (by omega)) (by rfl) T.g_col_shape T.F_col_shape.kp pass0 (pa_cons (pe_ix (ix_listK (K := K) rfl) (pv 1) pe_int (fun _ _ => rfl)) (pa_cons (pe_ix (ix_listK (K := K) rfl) (pv 1) pe_int (fun _ _ => rfl)) (pa_cons (pe_ix (ix_listK (K := K) rfl) (pv 1) pe_int (fun _ _ => rfl)) (pa_cons (pe_ix (ix_listK (K := K) rfl) (pv 1) pe_int (fun _ _ => rfl)) pa_nil)))))))) pss_nil)
      (pss_cons (ps_if (pt_cmpR op_eq (pe_callB (call_lenK (K := K) rfl) (by rfl) T.m_len PySem.boot_len (pa_cons (pv 1) pa_nil)) pe_int (nomark _)) (pss_cons (ps_if (pt_cmpR op_eq (pv 0) pe_str (nomark _)) (pss_one (ps_ret (pe_callR R_row_shape (hr.mono (by omega)) (by rfl) T.g_row_shape T.F_row_shape.kp pass0 (pa_cons (pe_ix (ix_listK (K := K) rfl) (pv 1) pe_int (fun _ _ => rfl)) (pa_cons (pe_ix (ix_listK (K := K) rfl) (pv 1) pe_int (fun _ _ => rfl)) (pa_cons (pe_ix (ix_listK (K := K) rfl) (pv 1) pe_int (fun _ _ => rfl)) (pa_cons (pe_ix (ix_listK (K := K) rfl) (pv 1) pe_int (fun _ _ => rfl)) (pa_cons (pe_ix (ix_listK (K := K) rfl) (pv 1) pe_int (fun _ _ => rfl)) pa_nil)))))))) pss_nil)
      (pss_one (ps_ret (pe_callR R_col_shape (hr.mono (by omega)) (by rfl) T.g_col_shape T.F_col_shape.kp pass0 (pa_cons (pe_ix (ix_listK (K := K) rfl) (pv 1) pe_int (fun _ _ => rfl)) (pa_cons (pe_ix (ix_listK (K := K) rfl) (pv 1) pe_int (fun _ _ => rfl)) (pa_cons (pe_ix (ix_listK (K := K) rfl) (pv 1) pe_int (fun _ _ => rfl)) (pa_cons (pe_ix (ix_listK (K := K) rfl) (pv 1) pe_int (fun _ _ => rfl)) (pa_cons (pe_ix (ix_listK (K := K) rfl) (pv 1) pe_int (fun _ _ => rfl)) pa_nil))))))))) pss_nil)
      (pss_cons (ps_if (pt_cmpR op_eq (pe_callB (call_lenK (K := K) rfl) (by rfl) T.m_len PySem.boot_len (pa_cons (pv 1) pa_nil)) pe_int (nomark _)) (pss_cons (ps_if (pt_cmpR op_eq (pv 0) pe_str (nomark _)) (pss_one (ps_ret (pe_callR R_row_shape (hr.mono (by omega)) (by rfl) T.g_row_shape T.F_row_shape.kp pass0 (pa_cons (pe_ix (ix_listK (K := K) rfl) (pv 1) pe_int (fun _ _ => rfl)) (pa_cons (pe_ix (ix_listK (K := K) rfl) (pv 1) pe_int (fun _ _ => rfl)) (pa_cons (pe_ix (ix_listK (K := K) rfl) (pv 1) pe_int (fun _ _ => rfl)) (pa_cons (pe_ix (ix_listK (K := K) rfl) (pv 1) pe_int (fun _ _ => rfl)) (pa_cons (pe_ix (ix_listK (K := K) rfl) (pv 1) pe_int (fun _ _ => rfl)) (pa_cons (pe_ix (ix_listK (K := K) rfl) (pv 1) pe_int (fun _ _ => rfl)) pa_nil))))))))) pss_nil)
      (pss_one (ps_ret (pe_callR R_col_shape (hr.mono (by omega)) (by rfl) T.g_col_shape T.F_col_shape.kp pass0 (pa_cons (pe_ix (ix_listK (K := K) rfl) (pv 1) pe_int (fun _ _ => rfl)) (pa_cons (pe_ix (ix_listK (K := K) rfl) (pv 1) pe_int (fun _ _ => rfl)) (pa_cons (pe_ix (ix_listK (K := K) rfl) (pv 1) pe_int (fun _ _ => rfl)) (pa_cons (pe_ix (ix_listK (K := K) rfl) (pv 1) pe_int (fun _ _ => rfl)) (pa_cons (pe_ix (ix_listK (K := K) rfl) (pv 1) pe_int (fun _ _ => rfl)) (pa_cons (pe_ix (ix_listK (K := K) rfl) (pv 1) pe_int (fun _ _ => rfl)) pa_nil)))))))))) pss_nil)
      (pss_cons (ps_if (pt_cmpR op_eq (pe_callB (call_lenK (K := K) rfl) (by rfl) T.m_len PySem.boot_len (pa_cons (pv 1) pa_nil)) pe_int (nomark _)) (pss_cons (ps_if (pt_cmpR op_eq (pv 0) pe_str (nomark _)) (pss_one (ps_ret (pe_callR R_row_shape (hr.mono (by omega)) (by rfl) T.g_row_shape T.F_row_shape.kp pass0 (pa_cons (pe_ix (ix_listK (K := K) rfl) (pv 1) pe_int (fun _ _ => rfl)) (pa_cons (pe_ix (ix_listK (K := K) rfl) (pv 1) pe_int (fun _ _ => rfl)) (pa_cons (pe_ix (ix_listK (K := K) rfl) (pv 1) pe_int (fun _ _ => rfl)) (pa_cons (pe_ix (ix_listK (K := K) rfl) (pv 1) pe_int (fun _ _ => rfl)) (pa_cons (pe_ix (ix_listK (K := K) rfl) (pv 1) pe_int (fun _ _ => rfl)) (pa_cons (pe_ix (ix_listK (K := K) rfl) (pv 1) pe_int (fun _ _ => rfl)) (pa_cons (pe_ix (ix_listK (K := K) rfl) (pv 1) pe_int (fun _ _ => rfl)) pa_nil)))))))))) pss_nil)
      (pss_one (ps_ret (pe_callR R_col_shape (hr.mono (by omega)) (by rfl) T.g_col_shape T.F_col_shape.kp pass0 (pa_cons (pe_ix (ix_listK (K := K) rfl) (pv 1) pe_int (fun _ _ => rfl)) (pa_cons (pe_ix (ix_listK (K := K) rfl) (pv 1) pe_int (fun _ _ => rfl)) (pa_cons (pe_ix (ix_listK (K := K) rfl) (pv 1) pe_int (fun _ _ => rfl)) (pa_cons (pe_ix (ix_listK (K := K) rfl) (pv 1) pe_int (fun _ _ => rfl)) (pa_cons (pe_ix (ix_listK (K := K) rfl) (pv 1) pe_int (fun _ _ => rfl)) (pa_cons (pe_ix (ix_listK (K := K) rfl) (pv 1) pe_int (fun _ _ => rfl)) (pa_cons (pe_ix (ix_listK (K := K) rfl) (pv 1) pe_int (fun _ _ => rfl)) pa_nil))))))))))) pss_nil)
      (pss_cons (ps_if (pt_cmpR op_eq (pe_callB (call_lenK (K := K) rfl) (by rfl) T.m_len PySem.boot_len (pa_cons (pv 1) pa_nil)) pe_int (nomark _)) (pss_cons (ps_if (pt_cmpR op_eq (pv 0) pe_str (nomark _)) (pss_one (ps_ret (pe_callR R_row_shape (hr.mono (by omega)) (by rfl) T.g_row_shape T.F_row_shape.kp pass0 (pa_cons (pe_ix (ix_listK (K := K) rfl) (pv 1) pe_int (fun _ _ => rfl)) (pa_cons (pe_ix (ix_listK (K := K) rfl) (pv 1) pe_int (fun _ _ => rfl)) (pa_cons (pe_ix (ix_listK (K := K) rfl) (pv 1) pe_int (fun _ _ => rfl)) (pa_cons (pe_ix (ix_listK (K := K) rfl) (pv 1) pe_int (fun _ _ => rfl)) (pa_cons (pe_ix (ix_listK (K := K) rfl) (pv 1) pe_int (fun _ _ => rfl)) (pa_cons (pe_ix (ix_listK (K := K) rfl) (pv 1) pe_int (fun _ _ => rfl)) (pa_cons (pe_ix (ix_listK (K := K) rfl) (pv 1) pe_int (fun _ _ => rfl)) (pa_cons (pe_ix (ix_listK (K := K) rfl) (pv 1) pe_int (fun _ _ => rfl)) pa_nil))))))))))) pss_nil)
      (pss_one (ps_ret (pe_callR R_col_shape (hr.mono (by omega)) (by rfl) T.g_col_shape T.F_col_shape.kp pass0 (pa_cons (pe_ix (ix_listK (K := K) rfl) (pv 1) pe_int (fun _ _ => rfl)) (pa_cons (pe_ix (ix_listK (K := K) rfl) (pv 1) pe_int (fun _ _ => rfl)) (pa_cons (pe_ix (ix_listK (K := K) rfl) (pv 1) pe_int (fun _ _ => rfl)) (pa_cons (pe_ix (ix_listK (K := K) rfl) (pv 1) pe_int (fun _ _ => rfl)) (pa_cons (pe_ix (ix_listK (K := K) rfl) (pv 1) pe_int (fun _ _ => rfl)) (pa_cons (pe_ix (ix_listK (K := K) rfl) (pv 1) pe_int (fun _ _ => rfl)) (pa_cons (pe_ix (ix_listK (K := K) rfl) (pv 1) pe_int (fun _ _ => rfl)) (pa_cons (pe_ix (ix_listK (K := K) rfl) (pv 1) pe_int (fun _ _ => rfl)) pa_nil)))))))))))) pss_nil)
      (pss_cons (ps_if (pt_cmpR op_eq (pv 0) pe_str (nomark _)) (pss_one (ps_ret (pe_callR R_row_shape (hr.mono (by omega)) (by rfl) T.g_row_shape T.F_row_shape.kp pass0 (pa_cons (pe_ix (ix_listK (K := K) rfl) (pv 1) pe_int (fun _ _ => rfl)) (pa_cons (pe_ix (ix_listK (K := K) rfl) (pv 1) pe_int (fun _ _ => rfl)) (pa_cons (pe_ix (ix_listK (K := K) rfl) (pv 1) pe_int (fun _ _ => rfl)) (pa_cons (pe_ix (ix_listK (K := K) rfl) (pv 1) pe_int (fun _ _ => rfl)) (pa_cons (pe_ix (ix_listK (K := K) rfl) (pv 1) pe_int (fun _ _ => rfl)) (pa_cons (pe_ix (ix_listK (K := K) rfl) (pv 1) pe_int (fun _ _ => rfl)) (pa_cons (pe_ix (ix_listK (K := K) rfl) (pv 1) pe_int (fun _ _ => rfl)) (pa_cons (pe_ix (ix_listK (K := K) rfl) (pv 1) pe_int (fun _ _ => rfl)) (pa_cons (pe_ix (ix_listK (K := K) rfl) (pv 1) pe_int (fun _ _ => rfl)) (pa_cons (pe_ix (ix_listK (K := K) rfl) (pv 1) pe_int (fun _ _ => rfl)) (pa_cons (pe_ix (ix_listK (K := K) rfl) (pv 1) pe_int (fun _ _ => rfl)) pa_nil)))))))))))))) pss_nil)
      (pss_one (ps_ret (pe_callR R_col_shape (hr.mono (by omega)) (by rfl) T.g_col_shape T.F_col_shape.kp pass0 (pa_cons (pe_ix (ix_listK (K := K) rfl) (pv 1) pe_int (fun _ _ => rfl)) (pa_cons (pe_ix (ix_listK (K := K) rfl) (pv 1) pe_int (fun _ _ => rfl)) (pa_cons (pe_ix (ix_listK (K := K) rfl) (pv 1) pe_int (fun _ _ => rfl)) (pa_cons (pe_ix (ix_listK (K := K) rfl) (pv 1) pe_int (fun _ _ => rfl)) (pa_cons (pe_ix (ix_listK (K := K) rfl) (pv 1) pe_int (fun _ _ => rfl)) (pa_cons (pe_ix (ix_listK (K := K) rfl) (pv 1) pe_int (fun _ _ => rfl)) (pa_cons (pe_ix (ix_listK (K := K) rfl) (pv 1) pe_int (fun _ _ => rfl)) (pa_cons (pe_ix (ix_listK (K := K) rfl) (pv 1) pe_int (fun _ _ => rfl)) (pa_cons (pe_ix (ix_listK (K := K) rfl) (pv 1) pe_int (fun _ _ => rfl)) (pa_cons (pe_ix (ix_listK (K := K) rfl) (pv 1) pe_int (fun _ _ => rfl)) (pa_cons (pe_ix (ix_listK (K := K) rfl) (pv 1) pe_int (fun _ _ => rfl)) pa_nil)))))))))))))))))))))))), ?_⟩
    have hlen : xs.length ≤ 1000 := by rcases hl with z | z <;> omega
    match xs, ha, rx, hl, hlen with
    | [], ha, rx, hl, hlen =>
      cases b with
      | true =>
        walk_at "g"
        cases rx
        exact ⟨Nat.zero_le _, fun p hp => ⟨.ref p, [], M, rfl, Rp.newT hM hp .nil, hM.gr Gr.upd, fun v H' d s r e => q v H' d ((same_new hp).trans s) r e⟩⟩
      | false =>
        walk_at "g"
        cases rx
        exact ⟨Nat.zero_le _, fun p hp => ⟨.ref p, [], M, rfl, Rp.newT hM hp .nil, hM.gr Gr.upd, fun v H' d s r e => q v H' d ((same_new hp).trans s) r e⟩⟩
    | [x0], ha, rx, hl, hlen =>
      cases b with
      | true =>
        walk_at "g"
        exact star_row hM hlen rx q
      | false =>
        walk_at "g"
        exact star_row hM hlen rx q
    | [x0, x1], ha, rx, hl, hlen =>
      cases b with
      | true =>
        walk_at "g"
        exact star_row hM hlen rx q
      | false =>
        walk_at "g"
        exact star_row hM hlen rx q
    | [x0, x1, x2], ha, rx, hl, hlen =>
      cases b with
      | true =>
        walk_at "g"
        exact star_row hM hlen rx q
      | false =>
        walk_at "g"
        exact star_row hM hlen rx q
    | [x0, x1, x2, x3], ha, rx, hl, hlen =>
      cases b with
      | true =>
        walk_at "g"
        exact star_row hM hlen rx q
      | false =>
        walk_at "g"
        exact star_row hM hlen rx q
    | [x0, x1, x2, x3, x4], ha, rx, hl, hlen =>
      cases b with
      | true =>
        walk_at "g"
        exact star_row hM hlen rx q
      | false =>
        walk_at "g"
        exact star_row hM hlen rx q
    | [x0, x1, x2, x3, x4, x5], ha, rx, hl, hlen =>
      cases b with
      | true =>
        walk_at "g"
        exact star_row hM hlen rx q
      | false =>
        walk_at "g"
        exact star_row hM hlen rx q
    | [x0, x1, x2, x3, x4, x5, x6], ha, rx, hl, hlen =>
      cases b with
      | true =>
        walk_at "g"
        exact star_row hM hlen rx q
      | false =>
        walk_at "g"
        exact star_row hM hlen rx q
    | [x0, x1, x2, x3, x4, x5, x6, x7], ha, rx, hl, hlen =>
      cases b with
      | true =>
        walk_at "g"
        exact star_row hM hlen rx q
      | false =>
        walk_at "g"
        exact star_row hM hlen rx q
    | [x0, x1, x2, x3, x4, x5, x6, x7, x8, x9, x10], ha, rx, hl, hlen =>
      cases b with
      | true =>
        walk_at "g"
        exact star_row hM hlen rx q
      | false =>
        walk_at "g"
        exact star_row hM hlen rx q
    | [_, _, _, _, _, _, _, _, _], _, _, hl, _ => exact absurd hl (by simp [okLen])
    | [_, _, _, _, _, _, _, _, _, _], _, _, hl, _ => exact absurd hl (by simp [okLen])
    | _ :: _ :: _ :: _ :: _ :: _ :: _ :: _ :: _ :: _ :: _ :: _ :: r, _, _, hl, _ => exact absurd hl (by unfold okLen; simp only [List.length_cons]; omega)
end
end D

namespace D
open PySem PySem.Spec PyProof.Rows L2
local macro_rules | `(tactic| walk_at "st") => `(tactic| first | exact SqT.of (by assumption) | exact Or.inl (by assumption) | exact SqT.of upd_same | fail "st")
local macro_rules | `(tactic| walk_at "ixt") => `(tactic| refine ⟨_, _, _, _, rfl, rfl, (by walk_at "st" : SqT _ _ _ _), by rfl, ?_⟩)
local macro_rules | `(tactic| walk_at "sq") => `(tactic| first | exact SqL.of (by assumption) | assumption | exact Or.inl (by assumption) | exact SqL.of upd_same | fail "sq")
local macro_rules | `(tactic| walk_at "ix") => `(tactic| refine ⟨_, _, _, _, rfl, rfl, (by walk_at "sq" : SqL _ _ _ _), by rfl, ?_⟩)
local macro_rules | `(tactic| walk_at "set") => `(tactic| refine ⟨_, _, _, _, rfl, rfl, by first | assumption | exact upd_same, by rfl, ?_⟩)
local macro_rules | `(tactic| walk_at "len") => `(tactic| refine ⟨_, _, rfl, Or.inl (by walk_at "sq" : SqL _ _ _ _), ?_⟩)
local macro_rules | `(tactic| walk_at "g") => `(tactic| repeat (first | refine ⟨_, rfl, ?_⟩ | refine ⟨_, _, rfl, rfl, ?_⟩ | refine ⟨Or.inr (by decide), ?_⟩ | refine ⟨Or.inl (by decide), ?_⟩ | refine ⟨(by decide : (0 : Int) < _), ?_⟩ | refine ⟨(⟨by decide, by decide⟩ : CDiv _ _), ?_⟩ | refine ⟨(⟨by decide, by decide, by decide⟩ : CPow _ _), ?_⟩ | refine Or.inl ⟨_, rfl, ?_⟩ | refine ⟨rfl, ?_⟩ | walk_at "ix" | walk_at "ixt" | walk_at "len" | fail "g"))
local macro_rules | `(tactic| walk_at "if") => `(tactic| refine ite2 (fun e => ?_) (fun e => ?_))
section
variable {P : Program} {w : World} {K : PySem.W.Frag} {mg : Str → Option Value} {base : Heap}
local macro_rules | `(tactic| walk_at "len") => `(tactic| first | refine ⟨_, _, rfl, Or.inl (by walk_at "sq" : SqL _ _ _ _), ?_⟩ | refine ⟨_, _, rfl, Or.inr (by walk_at "st" : SqT _ _ _ _), ?_⟩)
def sp_sown : Sp := fun vs H Q _ => ∃ (c : V) (a : Addr) (d : PyData) (xs : List V) (ds : List PyData) (M : Ms), vs = [c, .ref a] ∧ Rp M H c d ∧ H a = some (.tup xs) ∧ RpAll M H xs ds ∧ Mk M H ∧ xs.length ≤ 3 ∧ Pu M H (fun e => e = .tuple [.str sPut, d, .tuple ds]) Q
theorem ok_sown (T : Txt K mg) : FnOk P w K mg base CX0 2 T.f__law_sown T.d__law_sown ["_law_called", "_law_f"] sp_sown := by
  have R_put_shape := ok_put_shape (P := P) (w := w) (base := base) T
  refine T.F__law_sown.ok sc__law_sown (fun vs H Q E h => ?_) (fun cdv A outer s H vs Q E hr h => ?_)
  · obtain ⟨_, _, _, _, _, _, rfl, _⟩ := h
    rfl
  · obtain ⟨c, a, d, xs, ds, M, rfl, hc, ha, rx, hM, hl, q⟩ := h
    refine ⟨_, (pss_cons (ps_if (pt_cmpR op_eq (pe_callB (call_lenK (K := K) rfl) (by rfl) T.m_len PySem.boot_len (pa_cons (pv 1) pa_nil)) pe_int (nomark _)) (pss_one (ps_ret (pe_callR R_put_shape (hr.mono (by omega)) (by rfl) T.g_put_shape T.F_put_shape.kp pass0 (pa_cons (pv 0) pa_nil)))) pss_nil)
      (pss_cons (ps_if (pt_cmpR op_eq (pe_callB (call_lenK (K := K) rfl) (by rfl) T.m_len PySem.boot_len (pa_cons (pv 1) pa_nil)) pe_int (nomark _)) (pss_one (ps_ret (pe_callR R_put_shape (hr.mono (by omega)) (by rfl) T.g_put_shape T.F_put_shape.kp pass0 (pa_cons (pv 0) (pa_cons (pe_ix (ix_tupK (K := K) rfl) (pv 1) pe_int (fun _ _ => rfl)) pa_nil))))) pss_nil)
      (pss_cons (ps_if (pt_cmpR op_eq (pe_callB (call_lenK (K := K) rfl) (by rfl) T.m_len PySem.boot_len (pa_cons (pv 1) pa_nil)) pe_int (nomark _)) (pss_one (ps_ret (pe_callR R_put_shape (hr.mono (by omega)) (by rfl) T.g_put_shape T.F_put_shape.kp pass0 (pa_cons (pv 0) (pa_cons (pe_ix (ix_tupK (K := K) rfl) (pv 1) pe_int (fun _ _ => rfl)) (pa_cons (pe_ix (ix_tupK (K := K) rfl) (pv 1) pe_int (fun _ _ => rfl)) pa_nil)))))) pss_nil)
      (pss_one (ps_ret (pe_callR R_put_shape (hr.mono (by omega)) (by rfl) T.g_put_shape T.F_put_shape.kp pass0 (pa_cons (pv 0) (pa_cons (pe_ix (ix_tupK (K := K) rfl) (pv 1) pe_int (fun _ _ => rfl)) (pa_cons (pe_ix (ix_tupK (K := K) rfl) (pv 1) pe_int (fun _ _ => rfl)) (pa_cons (pe_ix (ix_tupK (K := K) rfl) (pv 1) pe_int (fun _ _ => rfl)) pa_nil)))))))))), ?_⟩
    have hlen : xs.length ≤ 1000 := by omega
    match xs, ha, rx, hl, hlen with
    | [], ha, rx, hl, hlen =>
      walk_at "g"
      cases rx
      exact ⟨Nat.zero_le _, fun p hp => ⟨c, .ref p, d, [], M, rfl, hc.sx (Sx.new hp), Rp.newT hM hp .nil, hM.gr Gr.upd, fun v H' e s r z => q v H' e ((same_new hp).trans s) r z⟩⟩
    | [x0], ha, rx, hl, hlen =>
      walk_at "g"
      exact star_put hM hlen hc rx q

    | [x0, x1], ha, rx, hl, hlen =>
      walk_at "g"
      exact star_put hM hlen hc rx q

    | [x0, x1, x2], ha, rx, hl, hlen =>
      walk_at "g"
      exact star_put hM hlen hc rx q

    | _ :: _ :: _ :: _ :: r, _, _, hl, _ => exact absurd hl (by simp only [List.length_cons]; omega)
def sp_listed : Sp := fun vs H Q _ => ∃ (f m k c : V) (a : Addr) (df dm dk dc : PyData) (xs : List V) (ds : List PyData) (M : Ms), vs = [f, m, k, c, .ref a] ∧ Rp M H f df ∧ Rp M H m dm ∧ Rp M H k dk ∧ Rp M H c dc ∧ H a = some (.tup xs) ∧ RpAll M H xs ds ∧ Mk M H ∧ xs.length ≤ 3 ∧ Pu M H (fun e => e = .tuple [.str sEach, df, dm, dk, dc, .tuple ds]) Q
theorem ok_listed (T : Txt K mg) : FnOk P w K mg base CX0 2 T.f__law_listed T.d__law_listed ["_law_test", "_law_menu", "_law_key", "_law_called", "_law_f"] sp_listed := by
  have R_each_shape := ok_each_shape (P := P) (w := w) (base := base) T
  refine T.F__law_listed.ok sc__law_listed (fun vs H Q E h => ?_) (fun cdv A outer s H vs Q E hr h => ?_)
  · obtain ⟨_, _, _, _, _, _, _, _, _, _, _, _, rfl, _⟩ := h
    rfl
  · obtain ⟨f, m, k, c, a, df, dm, dk, dc, xs, ds, M, rfl, hf, hm, hk, hc, ha, rx, hM, hl, q⟩ := h
    refine ⟨_, (pss_cons (ps_if (pt_cmpR op_eq (pe_callB (call_lenK (K := K) rfl) (by rfl) T.m_len PySem.boot_len (pa_cons (pv 4) pa_nil)) pe_int (nomark _)) (pss_one (ps_ret (pe_callR R_each_shape (hr.mono (by omega)) (by rfl) T.g_each_shape T.F_each_shape.kp pass0 (pa_cons (pv 0) (pa_cons (pv 1) (pa_cons (pv 2) (pa_cons (pv 3) pa_nil))))))) pss_nil)
      (pss_cons (ps_if (pt_cmpR op_eq (pe_callB (call_lenK (K := K) rfl) (by rfl) T.m_len PySem.boot_len (pa_cons (pv 4) pa_nil)) pe_int (nomark _)) (pss_one (ps_ret (pe_callR R_each_shape (hr.mono (by omega)) (by rfl) T.g_each_shape T.F_each_shape.kp pass0 (pa_cons (pv 0) (pa_cons (pv 1) (pa_cons (pv 2) (pa_cons (pv 3) (pa_cons (pe_ix (ix_tupK (K := K) rfl) (pv 4) pe_int (fun _ _ => rfl)) pa_nil)))))))) pss_nil)
      (pss_cons (ps_if (pt_cmpR op_eq (pe_callB (call_lenK (K := K) rfl) (by rfl) T.m_len PySem.boot_len (pa_cons (pv 4) pa_nil)) pe_int (nomark _)) (pss_one (ps_ret (pe_callR R_each_shape (hr.mono (by omega)) (by rfl) T.g_each_shape T.F_each_shape.kp pass0 (pa_cons (pv 0) (pa_cons (pv 1) (pa_cons (pv 2) (pa_cons (pv 3) (pa_cons (pe_ix (ix_tupK (K := K) rfl) (pv 4) pe_int (fun _ _ => rfl)) (pa_cons (pe_ix (ix_tupK (K := K) rfl) (pv 4) pe_int (fun _ _ => rfl)) pa_nil))))))))) pss_nil)
      (pss_one (ps_ret (pe_callR R_each_shape (hr.mono (by omega)) (by rfl) T.g_each_shape T.F_each_shape.kp pass0 (pa_cons (pv 0) (pa_cons (pv 1) (pa_cons (pv 2) (pa_cons (pv 3) (pa_cons (pe_ix (ix_tupK (K := K) rfl) (pv 4) pe_int (fun _ _ => rfl)) (pa_cons (pe_ix (ix_tupK (K := K) rfl) (pv 4) pe_int (fun _ _ => rfl)) (pa_cons (pe_ix (ix_tupK (K := K) rfl) (pv 4) pe_int (fun _ _ => rfl)) pa_nil))))))))))))), ?_⟩
    have hlen : xs.length ≤ 1000 := by omega
    match xs, ha, rx, hl, hlen with
    | [], ha, rx, hl, hlen =>
      walk_at "g"
      cases rx
      exact ⟨Nat.zero_le _, fun p hp => ⟨f, m, k, c, .ref p, df, dm, dk, dc, [], M, rfl, hf.sx (Sx.new hp), hm.sx (Sx.new hp), hk.sx (Sx.new hp), hc.sx (Sx.new hp), Rp.newT hM hp .nil, hM.gr Gr.upd, fun v H' e s r z => q v H' e ((same_new hp).trans s) r z⟩⟩
    | [x0], ha, rx, hl, hlen =>
      walk_at "g"
      exact star_each hM hlen hf hm hk hc rx q

    | [x0, x1], ha, rx, hl, hlen =>
      walk_at "g"
      exact star_each hM hlen hf hm hk hc rx q

    | [x0, x1, x2], ha, rx, hl, hlen =>
      walk_at "g"
      exact star_each hM hlen hf hm hk hc rx q

    | _ :: _ :: _ :: _ :: r, _, _, hl, _ => exact absurd hl (by simp only [List.length_cons]; omega)
def sp_built (n : Nat) : Sp := fun vs H Q _ => ∃ (v : V) (s : Sh) (M : Ms), vs = [v] ∧ Rp M H v s.enc ∧ Mk M H ∧ s.dep ≤ n ∧ s.ok ∧ Pu M H (fun d => d = s.enc) Q
theorem ok_built (T : Txt K mg) : ∀ n, FnOk P w K mg base CX0 (n + 3) T.f__law_built T.d__law_built ["_law_shape"] (sp_built n) := by
  have G_text_shape := ok_text_shape (P := P) (w := w) (base := base) T
  have G_button_shape := ok_button_shape (P := P) (w := w) (base := base) T
  have G_when_shape := ok_when_shape (P := P) (w := w) (base := base) T
  have G__law_sown := ok_sown (P := P) (w := w) (base := base) T
  have G__law_listed := ok_listed (P := P) (w := w) (base := base) T
  have G__law_lined := ok_lined (P := P) (w := w) (base := base) T
  intro n
  induction n with
  | zero =>
    refine T.F__law_built.ok sc__law_built (fun vs H Q E h => ?_) (fun cdv A outer s H vs Q E hr h => ?_)
    · obtain ⟨_, _, _, rfl, _⟩ := h
      rfl
    · obtain ⟨v, s, M, rfl, _, _, hd, _⟩ := h
      exact absurd (dep_pos s) (by omega)
  | succ n ih =>
    have G__law_built := ih
    refine T.F__law_built.ok sc__law_built (fun vs H Q E h => ?_) (fun cdv A outer s H vs Q E hr h => ?_)
    · obtain ⟨_, _, _, rfl, _⟩ := h
      rfl
    · obtain ⟨v, s, M, rfl, hR, hM, hd, ho, q⟩ := h
      obtain ⟨a, ys, rfl, na, ha, ry⟩ := hR.shX
      refine ⟨_, (pss_cons (ps_set (i := 1) sc__law_built.nd rfl (Or.inl rfl) (pe_ix (ix_tupK (K := K) rfl) (pv 0) pe_int (fun _ _ => rfl)))
      (pss_cons (ps_if (pt_cmpR op_eq (pv 1) pe_str (nomark _)) (pss_one (ps_ret (pe_call G_text_shape (hr.mono (by omega)) (by rfl) T.g_text_shape T.F_text_shape.kp T.b_text_shape .nil pass0 (pa_cons (pe_ix (ix_tupK (K := K) rfl) (pv 0) pe_int (fun _ _ => rfl)) pa_nil)))) pss_nil)
      (pss_cons (ps_if (pt_cmpR op_eq (pv 1) pe_str (nomark _)) (pss_one (ps_ret (pe_call G_button_shape (hr.mono (by omega)) (by rfl) T.g_button_shape T.F_button_shape.kp T.b_button_shape .nil pass0 (pa_cons (pe_ix (ix_tupK (K := K) rfl) (pv 0) pe_int (fun _ _ => rfl)) pa_nil)))) pss_nil)
      (pss_cons (ps_if (pt_cmpR op_eq (pv 1) pe_str (nomark _)) (pss_one (ps_ret (pe_call G__law_sown (hr.mono (by omega)) (by rfl) T.g__law_sown T.F__law_sown.kp T.b__law_sown .nil pass0 (pa_cons (pe_ix (ix_tupK (K := K) rfl) (pv 0) pe_int (fun _ _ => rfl)) (pa_cons (pe_ix (ix_tupK (K := K) rfl) (pv 0) pe_int (fun _ _ => rfl)) pa_nil))))) pss_nil)
      (pss_cons (ps_if (pt_cmpR op_eq (pv 1) pe_str (nomark _)) (pss_one (ps_ret (pe_call G__law_listed (hr.mono (by omega)) (by rfl) T.g__law_listed T.F__law_listed.kp T.b__law_listed .nil pass0 (pa_cons (pe_ix (ix_tupK (K := K) rfl) (pv 0) pe_int (fun _ _ => rfl)) (pa_cons (pe_ix (ix_tupK (K := K) rfl) (pv 0) pe_int (fun _ _ => rfl)) (pa_cons (pe_ix (ix_tupK (K := K) rfl) (pv 0) pe_int (fun _ _ => rfl)) (pa_cons (pe_ix (ix_tupK (K := K) rfl) (pv 0) pe_int (fun _ _ => rfl)) (pa_cons (pe_ix (ix_tupK (K := K) rfl) (pv 0) pe_int (fun _ _ => rfl)) pa_nil)))))))) pss_nil)
      (pss_cons (ps_if (pt_cmpR op_eq (pv 1) pe_str (nomark _)) (pss_one (ps_ret (pe_call G_when_shape (hr.mono (by omega)) (by rfl) T.g_when_shape T.F_when_shape.kp T.b_when_shape .nil pass0 (pa_cons (pe_ix (ix_tupK (K := K) rfl) (pv 0) pe_int (fun _ _ => rfl)) (pa_cons (pe_call G__law_built (hr.mono (by omega)) (by rfl) T.g__law_built T.F__law_built.kp T.b__law_built .nil pass0 (pa_cons (pe_ix (ix_tupK (K := K) rfl) (pv 0) pe_int (fun _ _ => rfl)) pa_nil)) (pa_cons (pe_call G__law_built (hr.mono (by omega)) (by rfl) T.g__law_built T.F__law_built.kp T.b__law_built .nil pass0 (pa_cons (pe_ix (ix_tupK (K := K) rfl) (pv 0) pe_int (fun _ _ => rfl)) pa_nil)) pa_nil)))))) pss_nil)
      (pss_one (ps_ret (pe_call G__law_lined (hr.mono (by omega)) (by rfl) T.g__law_lined T.F__law_lined.kp T.b__law_lined .nil pass0 (pa_cons (pv 1) (pa_cons (pe_lc (own := [("_law_part", 2)]) (g := gName 2) (tt := tYes) (by rfl) sc__law_built.nd (pi_tupK (K := K) rfl (pe_ix (ix_tupK (K := K) rfl) (pv 0) pe_int (fun _ _ => rfl))) (blkOk_by (own := [("_law_part", 2)]) (N := ["_law_shape", "_law_word", "_law_part"]) (sc := defScope s__law_built) (by decide +kernel)) (fun _ _ _ _ _ => (pg_name (i := 2) sc__law_built.nd rfl (Or.inl rfl))) (fun _ _ _ _ _ => pts_nil) (fun _ _ _ _ _ => (pe_call G__law_built (hr.mono (by omega)) (by rfl) T.g__law_built T.F__law_built.kp T.b__law_built .nil pass0 (pa_cons (pv 2) pa_nil)))) pa_nil))))))))))), ?_⟩
      have q' : Pu M H (fun d => d = .tuple (.str s.tag :: s.rest)) Q := fun v H' d s2 r e => q v H' d s2 r (by rw [e, enc_eq])
      clear q
      cases s with
      | leaf l =>
        rw [Sh.ok] at ho
        cases l with
        | text f =>
          obtain ⟨y, r, rfl, hy, h3⟩ := RpAll.consX ry
          cases h3
          walk_at "g"
          exact ⟨y, f, M, rfl, hy, hM, q'⟩
        | button f =>
          obtain ⟨y, r, rfl, hy, h3⟩ := RpAll.consX ry
          cases h3
          walk_at "g"
          exact ⟨y, f, M, rfl, hy, hM, q'⟩
        | put c fs =>
          obtain ⟨y, r, rfl, hy, h3⟩ := RpAll.consX ry
          obtain ⟨y2, r2, rfl, hy2, h3⟩ := RpAll.consX h3
          cases h3
          obtain ⟨t, xs, rfl, nt, ht, rx⟩ := Rp.tupX hy2
          have lx := rx.length
          walk_at "g"
          exact ⟨y, t, c, xs, fs, M, rfl, hy, ht, rx, hM, by have := ho.2.1; omega, q'⟩
        | each f m k c fs =>
          obtain ⟨y1, r1, rfl, hy1, h3⟩ := RpAll.consX ry
          obtain ⟨y2, r2, rfl, hy2, h3⟩ := RpAll.consX h3
          obtain ⟨y3, r3, rfl, hy3, h3⟩ := RpAll.consX h3
          obtain ⟨y4, r4, rfl, hy4, h3⟩ := RpAll.consX h3
          obtain ⟨y5, r5, rfl, hy5, h3⟩ := RpAll.consX h3
          cases h3
          obtain ⟨t, xs, rfl, nt, ht, rx⟩ := Rp.tupX hy5
          have lx := rx.length
          walk_at "g"
          exact ⟨y1, y2, y3, y4, t, f, m, k, c, xs, fs, M, rfl, hy1, hy2, hy3, hy4, ht, rx, hM, by have := ho.2.2.2.2.1; omega, q'⟩
      | whn f x z =>
        rw [Sh.ok] at ho
        obtain ⟨y, r, rfl, hy, h3⟩ := RpAll.consX ry
        obtain ⟨y2, r2, rfl, hy2, h3⟩ := RpAll.consX h3
        obtain ⟨y3, r3, rfl, hy3, h3⟩ := RpAll.consX h3
        cases h3
        have dx := dep_inner (s := .whn f x z) (p := x) (by simp [Sh.inner])
        have dz := dep_inner (s := .whn f x z) (p := z) (by simp [Sh.inner])
        walk_at "g"
        refine ⟨y2, x, M, rfl, hy2, hM, by omega, ho.2.1, fun v1 H1 d1 s1 r1 e1 => ?_⟩
        subst e1
        have ha1 := s1 _ _ ha
        walk_at "g"
        refine ⟨y3, z, M, rfl, hy3.sx (Sx.same s1), hM.gr (Gr.same s1), by omega, ho.2.2, fun v2 H2 d2 s2 r2 e2 => ?_⟩
        subst e2
        walk_at "g"
        exact ⟨y, v1, v2, f, x.enc, z.enc, M, rfl, hy.sx (Sx.same (s1.trans s2)), r1.sx (Sx.same s2), r2, (hM.gr (Gr.same s1)).gr (Gr.same s2), fun v H' d s3 r3 e3 => q' v H' d (s1.trans (s2.trans s3)) r3 e3⟩
      | line b ps =>
        rw [Sh.ok, okAll_iff] at ho
        obtain ⟨y, r, rfl, hy, h3⟩ := RpAll.consX ry
        cases h3
        obtain ⟨t, ts, rfl, nt, ht, rts⟩ := Rp.tupX hy
        have lts : ts.length = ps.length := by have := rts.length; rw [List.length_map] at this; exact this
        cases b with
        | true =>
          walk_at "g"
          refine ⟨⟨_, SqT.of ht⟩, fun D hD => ?_⟩
          refine tup_loop (K := K) (a := t) (xs := ts) (fun i H' => Same H H' ∧ ∃ xs, H' D = some (.lst xs) ∧ xs.length = i ∧ RpAll (also M D) H' xs ((ps.take i).map Sh.enc)) ⟨same_new hD, [], upd_same, rfl, .nil⟩ (fun i H' _ p => SqT.of (p.1 _ _ ht)) (fun i x H' hx p => ?_) (fun H' p => ?_)
          · obtain ⟨sm, xs, eD, lxs, rx⟩ := p
            have hi : i < ps.length := by rw [← lts]; exact (List.getElem?_eq_some_iff.mp hx).1
            obtain ⟨d, hd3, rd⟩ := rts.get hx
            rw [List.getElem?_map, List.getElem?_eq_getElem hi] at hd3
            cases hd3
            have hp : ps[i] ∈ ps := List.getElem_mem hi
            have dp := dep_inner (s := .line true ps) (p := ps[i]) hp
            have hl11 : ps.length ≤ 11 := by rcases ho.1 with z | z <;> omega
            refine ⟨rfl, ?_⟩
            walk_at "g"
            refine ⟨x, ps[i], also M D, rfl, (rd.fresh hD).sx (Sx.same sm), (hM.gr (Gr.same sm)).also (ne_none eD), by omega, ho.2 _ hp, fun v1 H1 d1 s1 r1 e1 => ?_⟩
            subst e1
            refine ⟨xs, s1 _ _ eD, small1000 (by omega), same_put (sm.trans s1) hD, xs ++ [v1], upd_same, by rw [List.length_append, lxs]; rfl, ?_⟩
            rw [List.take_add_one, List.getElem?_eq_getElem hi, Option.toList_some, List.map_append]
            exact ((rx.sx (Sx.same s1)).append (.one r1)).sx (Sx.put (.inr rfl))
          · obtain ⟨sm, xs, eD, lxs, rx⟩ := p
            rw [List.take_of_length_le (by omega)] at rx
            have hl2 : okLen xs.length := by rw [lxs, lts]; exact ho.1
            walk_at "g"
            exact ⟨true, D, xs, ps.map Sh.enc, M, rfl, eD, rx.less also_le, hM.gr (Gr.same sm), hl2, fun v H1 d s r e => q' v H1 d (sm.trans s) r e⟩
        | false =>
          walk_at "g"
          refine ⟨⟨_, SqT.of ht⟩, fun D hD => ?_⟩
          refine tup_loop (K := K) (a := t) (xs := ts) (fun i H' => Same H H' ∧ ∃ xs, H' D = some (.lst xs) ∧ xs.length = i ∧ RpAll (also M D) H' xs ((ps.take i).map Sh.enc)) ⟨same_new hD, [], upd_same, rfl, .nil⟩ (fun i H' _ p => SqT.of (p.1 _ _ ht)) (fun i x H' hx p => ?_) (fun H' p => ?_)
          · obtain ⟨sm, xs, eD, lxs, rx⟩ := p
            have hi : i < ps.length := by rw [← lts]; exact (List.getElem?_eq_some_iff.mp hx).1
            obtain ⟨d, hd3, rd⟩ := rts.get hx
            rw [List.getElem?_map, List.getElem?_eq_getElem hi] at hd3
            cases hd3
            have hp : ps[i] ∈ ps := List.getElem_mem hi
            have dp := dep_inner (s := .line false ps) (p := ps[i]) hp
            have hl11 : ps.length ≤ 11 := by rcases ho.1 with z | z <;> omega
            refine ⟨rfl, ?_⟩
            walk_at "g"
            refine ⟨x, ps[i], also M D, rfl, (rd.fresh hD).sx (Sx.same sm), (hM.gr (Gr.same sm)).also (ne_none eD), by omega, ho.2 _ hp, fun v1 H1 d1 s1 r1 e1 => ?_⟩
            subst e1
            refine ⟨xs, s1 _ _ eD, small1000 (by omega), same_put (sm.trans s1) hD, xs ++ [v1], upd_same, by rw [List.length_append, lxs]; rfl, ?_⟩
            rw [List.take_add_one, List.getElem?_eq_getElem hi, Option.toList_some, List.map_append]
            exact ((rx.sx (Sx.same s1)).append (.one r1)).sx (Sx.put (.inr rfl))
          · obtain ⟨sm, xs, eD, lxs, rx⟩ := p
            rw [List.take_of_length_le (by omega)] at rx
            have hl2 : okLen xs.length := by rw [lxs, lts]; exact ho.1
            walk_at "g"
            exact ⟨false, D, xs, ps.map Sh.enc, M, rfl, eD, rx.less also_le, hM.gr (Gr.same sm), hl2, fun v H1 d s r e => q' v H1 d (sm.trans s) r e⟩
end
end D

namespace D
open PySem PySem.Spec PyProof.Rows L2
local macro_rules | `(tactic| walk_at "st") => `(tactic| first | exact SqT.of (by assumption) | exact Or.inl (by assumption) | exact SqT.of upd_same | fail "st")
local macro_rules | `(tactic| walk_at "ixt") => `(tactic| refine ⟨_, _, _, _, rfl, rfl, (by walk_at "st" : SqT _ _ _ _), by rfl, ?_⟩)
local macro_rules | `(tactic| walk_at "sq") => `(tactic| first | exact SqL.of (by assumption) | assumption | exact Or.inl (by assumption) | exact SqL.of upd_same | fail "sq")
local macro_rules | `(tactic| walk_at "ix") => `(tactic| refine ⟨_, _, _, _, rfl, rfl, (by walk_at "sq" : SqL _ _ _ _), by rfl, ?_⟩)
local macro_rules | `(tactic| walk_at "set") => `(tactic| refine ⟨_, _, _, _, rfl, rfl, by first | assumption | exact upd_same, by rfl, ?_⟩)
local macro_rules | `(tactic| walk_at "len") => `(tactic| refine ⟨_, _, rfl, Or.inl (by walk_at "sq" : SqL _ _ _ _), ?_⟩)
local macro_rules | `(tactic| walk_at "g") => `(tactic| repeat (first | refine ⟨_, rfl, ?_⟩ | refine ⟨_, _, rfl, rfl, ?_⟩ | refine ⟨Or.inr (by decide), ?_⟩ | refine ⟨Or.inl (by decide), ?_⟩ | refine ⟨(by decide : (0 : Int) < _), ?_⟩ | refine ⟨(⟨by decide, by decide⟩ : CDiv _ _), ?_⟩ | refine ⟨(⟨by decide, by decide, by decide⟩ : CPow _ _), ?_⟩ | refine Or.inl ⟨_, rfl, ?_⟩ | refine ⟨rfl, ?_⟩ | walk_at "ix" | walk_at "ixt" | walk_at "len" | fail "g"))
local macro_rules | `(tactic| walk_at "if") => `(tactic| refine ite2 (fun e => ?_) (fun e => ?_))
section
variable {P : Program} {w : World} {K : PySem.W.Frag} {mg : Str → Option Value} {base : Heap}
/-- a list is mingled -/
def sp_mingled (K : PySem.W.Frag) : Sp := fun vs H Q _ => ∃ (b : Addr) (a : V) (ds : List PyData) (M : Ms), vs = [.ref b, a] ∧ Bag K M H b ∧ Mk M H ∧ Rp M H a (.list ds) ∧ ds.length < 1000000 ∧
  Dr K M b H (fun d => ∃ es, d = .list es ∧ es.Perm ds) Q
theorem erase_perm {α : Type} : ∀ (l : List α) (j : Nat) (d : α), l[j]? = some d → (d :: l.eraseIdx j).Perm l
  | [], j, d, h => by simp at h
  | x :: r, 0, d, h => by
    have e := Option.some.inj h
    subst e
    exact .refl _
  | x :: r, j + 1, d, h => by
    have ih := erase_perm r j d h
    show (d :: x :: r.eraseIdx j).Perm (x :: r)
    exact (List.Perm.swap x d _).trans (ih.cons x)
theorem ok_mingled (T : Txt K mg) : FnOk P w K mg base CX0 3 T.f__law_mingled T.d__law_mingled ["_law_bag_here", "_law_things"] (sp_mingled K) := by
  have G__law_pick := ok_pick (P := P) (w := w) (base := base) T
  refine T.F__law_mingled.ok sc__law_mingled (fun vs H Q E h => ?_) (fun cdv A outer s H vs Q E hr h => ?_)
  · obtain ⟨_, _, _, _, rfl, _⟩ := h
    rfl
  · obtain ⟨b, a, ds, M, rfl, hB, hM, hR, hl, q⟩ := h
    cases hR with
    | @lst a xs _ na hS hA =>
    have el := hA.length
    refine ⟨_, (pss_cons (ps_set (i := 2) sc__law_mingled.nd rfl (Or.inl rfl) (pe_callTy (call_listK (K := K) rfl) (by rfl) T.m_list (by decide +kernel) (pa_cons (pv 1) pa_nil)))
      (pss_cons (ps_set (i := 3) sc__law_mingled.nd rfl (Or.inl rfl) (pe_lst pa_nil))
      (pss_cons (ps_for PassesOwn.never rfl (pi_range1 (by rfl) T.m_range (pa_cons (pe_callB (call_lenK (K := K) rfl) (by rfl) T.m_len PySem.boot_len (pa_cons (pv 1) pa_nil)) pa_nil)) (pg_name (i := 4) sc__law_mingled.nd rfl (Or.inl rfl)) (pss_one (ps_expr (pe_bmK2 (K := K) rfl PySem.F.plainAttrs_list PySem.F.slot_list_append PySem.F.type_list_append mt_append (pv 3) (pa_cons (pe_bmK2 (K := K) rfl PySem.F.plainAttrs_list PySem.F.slot_list_pop PySem.F.type_list_pop mt_popAt (pv 2) (pa_cons (pe_call G__law_pick (hr.mono (by omega)) (by rfl) T.g__law_pick T.F__law_pick.kp T.b__law_pick .nil pass0 (pa_cons (pv 0) (pa_cons (pe_callB (call_lenK (K := K) rfl) (by rfl) T.m_len PySem.boot_len (pa_cons (pv 2) pa_nil)) pa_nil))) pa_nil)) pa_nil)))))
      (pss_one (ps_ret (pv 3)))))), ?_⟩
    refine ⟨.ref a, rfl, a, xs, rfl, .inl (.inl hS), fun l nl => ?_⟩
    refine ⟨by show 0 ≤ sizeLine; exact Nat.zero_le _, fun o no => ?_⟩
    have lo : l ≠ o := ne_of_none upd_same no
    have Rl := hA.fresh nl
    generalize e1 : upd (upd H l _) o _ = H1
    have s1 : Same H H1 := fun c u e => by rw [← e1]; exact same_new no c u (same_new nl c u e)
    have l1 : H1 l = some (.lst xs) := by rw [← e1, upd_ne lo, upd_same]
    have o1 : H1 o = some (.lst []) := by rw [← e1, upd_same]
    have no0 : H o = none := by
      rw [upd_ne lo.symm] at no
      exact no
    clear e1
    refine ⟨.ref a, rfl, a, xs, rfl, .inl (s1.seq (.inl hS)), ?_⟩
    refine ⟨_, rfl, by omega, by omega, ?_⟩
    have hbl : b ≠ l := fun z => hB.there (by rw [z]; exact nl)
    have hbo : b ≠ o := fun z => hB.there (by rw [z]; exact no0)
    let N : Ms := also (also M l) o
    let F : Ms := also (also (one b) l) o
    have FN : ∀ c, F c → N c := fun c z => z.elim (fun z => z.elim (fun z => .inl (.inl (one_le hB.w c z))) fun z => .inl (.inr z)) .inr
    have hB1 : Bag K N H1 b := by
      have h1 := (hB.more nl).more no0
      exact h1.keep (N := fun _ => False) (fun c u _ e => s1 c u e) (fun z => z) (fun _ z => z.elim)
    have R1 : RpAll N H1 xs ds := (Rl.fresh no0).sx (Sx.same s1)
    refine for_range (lo := 0) (n := (xs.length : Int).toNat) (fun i σ H2 => (∃ y4, σ = [some (.ref b), some (.ref a), some (.ref l), some (.ref o), y4]) ∧ Sx F H H2 ∧ Gr H H2 ∧ Bag K N H2 b ∧
      ∃ ls os es fs, H2 l = some (.lst ls) ∧ H2 o = some (.lst os) ∧ RpAll N H2 ls es ∧ RpAll N H2 os fs ∧ ls.length + i = xs.length ∧ os.length = i ∧ (es ++ fs).Perm ds) ?_ (fun i σ H2 hi p => ?_) (fun σ H2 p => ?_)
    · exact ⟨⟨_, rfl⟩, Sx.same s1, Gr.same s1, hB1, xs, [], ds, [], l1, o1, R1, .nil, by omega, rfl, by rw [List.append_nil]⟩
    · obtain ⟨⟨y4, rfl⟩, s2, g2, hB2, ls, os, es, fs, l2, o2, Re, Rf, e1, e2, m1⟩ := p
      have hls : 0 < ls.length := by omega
      refine ⟨.ref o, rfl, .inl ⟨rfl, _, SqL.of o2⟩, .ref l, rfl, .inl ⟨rfl, _, SqL.of l2⟩, ?_⟩
      walk_at "g"
      refine ⟨b, _, N, rfl, hB2, by omega, by omega, fun w H3 h0 h1 hA3 hB3 => ?_⟩
      have l3 : H3 l = some (.lst ls) := (hA3 l hbl.symm).trans l2
      have o3 : H3 o = some (.lst os) := (hA3 o hbo.symm).trans o2
      obtain ⟨j, rfl⟩ : ∃ j : Nat, w = (j : Int) := ⟨w.toNat, by omega⟩
      have hj : j < ls.length := by omega
      have s3 : Sx F H2 H3 := hA3.sx.le fun c z => .inl (.inl z)
      have Re3 := Re.sx (s3.le FN)
      obtain ⟨d, hd, Rd⟩ := Re3.get (List.getElem?_eq_getElem hj)
      refine ⟨l, ls, (j : Int), j, ls[j], rfl, rfl, l3, by omega, by omega, ?_, List.getElem?_eq_getElem hj, ?_⟩
      · exact seqIx hj
      · have lno : o ≠ l := lo.symm
        have o4 : upd H3 l (.lst (ls.eraseIdx j)) o = some (.lst os) := by rw [upd_ne lno]; exact o3
        refine ⟨o, os, ls[j], rfl, rfl, o4, small1000000 (by omega), ?_⟩
        have s4 : Sx F H3 (upd (upd H3 l (.lst (ls.eraseIdx j))) o (.lst (os ++ [ls[j]]))) := (Sx.put (show F l from .inl (.inr rfl))).trans (Sx.put (show F o from .inr rfl))
        have em := Re3.length
        refine ⟨⟨_, rfl⟩, s2.trans (s3.trans s4), g2.trans ((At.gr hA3 hB3.there).trans (Gr.upd.trans Gr.upd)), ?_, ls.eraseIdx j, os ++ [ls[j]], es.eraseIdx j, fs ++ [d], ?_, upd_same, (Re3.eraseIdx j).sx (s4.le FN), ((Rf.sx (s3.le FN)).append (.one Rd)).sx (s4.le FN), ?_, ?_, ?_⟩
        · exact (hB3.keep (N := one l) (Sx.put rfl) hbl (fun c z => by rw [show c = l from z]; exact .inl (.inr rfl))).keep (N := one o) (Sx.put rfl) hbo (fun c z => by rw [show c = o from z]; exact .inr rfl)
        · rw [upd_ne lo, upd_same]
        · rw [List.length_eraseIdx_of_lt hj]
          omega
        · rw [List.length_append, e2]
          rfl
        · refine List.Perm.trans ?_ m1
          rw [← List.append_assoc]
          refine (List.perm_append_comm).trans ?_
          exact (List.Perm.append_right fs (erase_perm es j d hd))
    · obtain ⟨⟨y4, rfl⟩, s2, g2, hB2, ls, os, es, fs, l2, o2, Re, Rf, e1, e2, m1⟩ := p
      refine ⟨.ref o, rfl, q _ _ (.list fs) ((s2.cut no0).cut nl) g2 (hB2.less hB.w fun c z => .inl (.inl z)) (.lst (hM.out no0) (.inl o2) (Rf.less fun c z => .inl (.inl z))) ⟨fs, rfl, ?_⟩⟩
      have el0 := Re.length
      have z : es = [] := List.length_eq_zero_iff.mp (by omega)
      rw [z] at m1
      exact m1
theorem none_gr {H H' : Hp} {p : Addr} (g : Gr H H') (h : H' p = none) : H p = none := by
  cases e : H p with
  | none => rfl
  | some o => exact absurd h (g _ (ne_none e))
def sp_lrow (K : PySem.W.Frag) : Sp := fun vs H Q _ => ∃ (b : Addr) (M : Ms), vs = [.ref b, .int 5] ∧ Bag K M H b ∧ Mk M H ∧ Dr K M b H (fun d => Gd 5 1 d) Q
theorem ok_lrow (T : Txt K mg) : FnOk P w K mg base CX0 4 T.f__law_row T.d__law_row ["_law_bag_here", "_law_most"] (sp_lrow K) := by
  have G__law_pick := ok_pick (P := P) (w := w) (base := base) T
  have G__law_mingled := ok_mingled (P := P) (w := w) (base := base) T
  refine T.F__law_row.ok sc__law_row (fun vs H Q E h => ?_) (fun cdv A outer s H vs Q E hr h => ?_)
  · obtain ⟨_, _, rfl, _⟩ := h
    rfl
  · obtain ⟨b, M, rfl, hB, hM, q⟩ := h
    refine ⟨_, (pss_cons (ps_set (i := 2) sc__law_row.nd rfl (Or.inl rfl) (pe_call G__law_mingled (hr.mono (by omega)) (by rfl) T.g__law_mingled T.F__law_mingled.kp T.b__law_mingled .nil pass0 (pa_cons (pv 0) (pa_cons (pe_slice (sl_listK (K := K) rfl) (pe_lst (pa_cons pe_int (pa_cons pe_int (pa_cons pe_int (pa_cons pe_int (pa_cons pe_int (pa_cons pe_int (pa_cons pe_int (pa_cons pe_int (pa_cons pe_int (pa_cons pe_int pa_nil))))))))))) po_none (po_some (pe_op op_add pe_int (pe_call G__law_pick (hr.mono (by omega)) (by rfl) T.g__law_pick T.F__law_pick.kp T.b__law_pick .nil pass0 (pa_cons (pv 0) (pa_cons pe_int pa_nil)))))) pa_nil))))
      (pss_one (ps_ret (pe_callTy (call_tupleK (K := K) rfl) (by rfl) T.m_tuple (by decide +kernel) (pa_cons (pe_slice (sl_listK (K := K) rfl) (pv 2) po_none (po_some (pe_call G__law_pick (hr.mono (by omega)) (by rfl) T.g__law_pick T.F__law_pick.kp T.b__law_pick .nil pass0 (pa_cons (pv 0) (pa_cons (pe_op op_add (pv 1) pe_int) pa_nil))))) pa_nil))))), ?_⟩
    walk_at "g"
    refine ⟨szK rfl, fun p1 hp1 => ?_⟩
    walk_at "g"
    have hB1 : Bag K M (upd H p1 (.lst (ten.map V.int))) b := hB.same (same_new hp1)
    refine ⟨b, _, M, rfl, hB1, by omega, by omega, fun w1 H1 h0 h1 hA1 hB1 => ?_⟩
    walk_at "g"
    have hb1 : p1 ≠ b := fun z => hB.there (by rw [← z]; exact hp1)
    have e1 : H1 p1 = some (.lst (ten.map V.int)) := (hA1 p1 hb1).trans upd_same
    refine ⟨p1, _, rfl, SqL.of e1, fun p2 hp2 => ?_⟩
    obtain ⟨j, rfl⟩ : ∃ j : Nat, w1 = (j : Int) := ⟨w1.toNat, by omega⟩
    have ec : cutV (ten.map V.int) none (some (2 + (j : Int))) = (ten.take (2 + j)).map V.int := by
      rw [show (2 : Int) + (j : Int) = ((2 + j : Nat) : Int) by omega, cut_hi, List.map_take]
    have g1 : Gr H H1 := (Gr.upd (o := .lst (ten.map V.int))).trans (At.gr hA1 hB1.there)
    have hM1 := hM.gr g1
    have sH1 : Sx (one b) H H1 := (Sx.new hp1).trans hA1.sx
    have r2 : Rp M (upd H1 p2 (.lst (cutV (ten.map V.int) none (some (2 + (j : Int)))))) (.ref p2) (.list ((ten.take (2 + j)).map PyData.int)) := by
      rw [ec]
      exact Rp.newL hM1 hp2 (RpAll.ints _)
    refine ⟨b, .ref p2, _, M, rfl, hB1.same (same_new hp2), hM1.new, r2, by rw [List.length_map, List.length_take]; have : ten.length = 10 := rfl; omega, fun v H2 d s2 g2 hB2 hR2 hd => ?_⟩
    obtain ⟨es, rfl, hper⟩ := hd
    obtain ⟨ns, hns, rfl⟩ := perm_ints hper
    obtain ⟨a, xs, rfl, na, ha, rx⟩ := Rp.lstN hR2
    have ex := rx.ofInts
    subst ex
    walk_at "g"
    refine ⟨b, _, M, rfl, hB2, by omega, by omega, fun w2 H3 k0 k1 hA3 hB3 => ?_⟩
    obtain ⟨j2, rfl⟩ : ∃ j2 : Nat, w2 = (j2 : Int) := ⟨w2.toNat, by omega⟩
    have hab : a ≠ b := fun z => na (by rw [z]; exact hB.w)
    have hS3 : SqL K H3 a (ns.map V.int) := sx_l hA3.sx (fun z : a = b => hab z) (.inl ha)
    have g3 : Gr H H3 := g1.trans (Gr.upd.trans (g2.trans (At.gr hA3 hB3.there)))
    have s3 : Sx (one b) H H3 := sH1.trans ((Sx.new hp2).trans (s2.trans hA3.sx))
    walk_at "g"
    refine ⟨a, _, rfl, hS3, fun p3 hp3 => ?_⟩
    refine ⟨p3, _, rfl, .inl ⟨SqL.of upd_same, fun p4 hp4 => ?_⟩⟩
    have ec2 : cutV (ns.map V.int) none (some (j2 : Int)) = (ns.take j2).map V.int := by rw [cut_hi, List.map_take]
    rw [ec2] at hp4 ⊢
    have nd := ten_take (2 + j)
    refine q _ _ (.tuple ((ns.take j2).map PyData.int)) (s3.trans ((Sx.new hp3).trans (Sx.new hp4))) (g3.trans (Gr.upd.trans Gr.upd)) ((hB3.same (same_new hp3)).same (same_new hp4)) (Rp.newT (hM.gr (g3.trans Gr.upd)) hp4 (RpAll.ints _)) ?_
    have gi : ∀ d ∈ (ns.take j2).map PyData.int, Gd 0 0 d := fun d hd => by
      obtain ⟨n, hn, rfl⟩ := List.mem_map.mp hd
      have := nd.2 n (hns.mem_iff.mp (List.mem_of_mem_take hn))
      exact Gd.int (by omega)
    refine ((GdAll.all gi).tup).le ?_ (Nat.le_refl _)
    rw [List.length_map, List.length_take]
    omega
def bnd : Nat → Nat
  | 0 => 0
  | 1 => 13
  | n + 2 => 5 + 3 * (bnd (n + 1) + 1)
theorem bnd_lo : ∀ n, 1 ≤ n → 13 ≤ bnd n
  | 1, _ => Nat.le_refl _
  | n + 2, _ => by
    have := bnd_lo (n + 1) (by omega)
    show 13 ≤ 5 + 3 * (bnd (n + 1) + 1)
    omega
def okW (ws : List Str) : Prop := 1 ≤ ws.length ∧ ws.length ≤ 1000 ∧ ∀ z ∈ ws, Gd 8 0 (.str z)
def sp_simple (K : PySem.W.Frag) (n : Nat) : Sp := fun vs H Q _ => ∃ (b u : Addr) (ws : List Str) (M : Ms), vs = [.ref b, .ref u, .int (n : Nat)] ∧ Bag K M H b ∧ Mk M H ∧ 1 ≤ n ∧ ¬ M u ∧ H u = some (.lst (ws.map V.str)) ∧ okW ws ∧ Dr K M b H (fun d => Gd (bnd n) n d) Q
theorem ok_simple (T : Txt K mg) : ∀ n, FnOk P w K mg base CX0 (n + 4) T.f__law_simple T.d__law_simple ["_law_bag_here", "_law_readable", "_law_deep"] (sp_simple K n) := by
  have G__law_pick := ok_pick (P := P) (w := w) (base := base) T
  have G__law_choice := ok_choice (P := P) (w := w) (base := base) T
  intro n
  induction n with
  | zero =>
    refine T.F__law_simple.ok sc__law_simple (fun vs H Q E h => ?_) (fun cdv A outer s H vs Q E hr h => ?_)
    · obtain ⟨_, _, _, _, rfl, _⟩ := h
      rfl
    · obtain ⟨_, _, _, _, rfl, _, _, h0, _⟩ := h
      omega
  | succ n ih =>
    have G__law_simple := ih
    refine T.F__law_simple.ok sc__law_simple (fun vs H Q E h => ?_) (fun cdv A outer s H vs Q E hr h => ?_)
    · obtain ⟨_, _, _, _, rfl, _⟩ := h
      rfl
    · obtain ⟨b, u, ws, M, rfl, hB, hM, h1, nu, hu, hw, q⟩ := h
      refine ⟨_, (pss_cons (ps_set (i := 3) sc__law_simple.nd rfl (Or.inl rfl) (pe_call G__law_pick (hr.mono (by omega)) (by rfl) T.g__law_pick T.F__law_pick.kp T.b__law_pick .nil pass0 (pa_cons (pv 0) (pa_cons pe_int pa_nil))))
      (pss_cons (ps_if (PW.pt (pw_or (pt_cmpR op_le (pv 2) pe_int (nomark _)) (pw_or1 (pt_cmpR op_lt (pv 3) pe_int (nomark _))))) (pss_one (ps_ret (pe_ix (ix_listK (K := K) rfl) (pe_lst (pa_cons (pe_tup (pa_cons pe_str (pa_cons (pe_call G__law_pick (hr.mono (by omega)) (by rfl) T.g__law_pick T.F__law_pick.kp T.b__law_pick .nil pass0 (pa_cons (pv 0) (pa_cons pe_int pa_nil))) pa_nil))) (pa_cons (pe_tup (pa_cons pe_str (pa_cons (pe_call G__law_choice (hr.mono (by omega)) (by rfl) T.g__law_choice T.F__law_choice.kp T.b__law_choice .nil pass0 (pa_cons (pv 0) (pa_cons (pv 1) pa_nil))) pa_nil))) pa_nil))) (pe_call G__law_pick (hr.mono (by omega)) (by rfl) T.g__law_pick T.F__law_pick.kp T.b__law_pick .nil pass0 (pa_cons (pv 0) (pa_cons pe_int pa_nil))) (fun _ _ => rfl)))) pss_nil)
      (pss_cons (ps_if (pt_cmpR op_lt (pv 3) pe_int (nomark _)) (pss_cons (ps_set (i := 4) sc__law_simple.nd rfl (Or.inl rfl) (pe_ix (ix_listK (K := K) rfl) (pe_lst (pa_cons pe_str (pa_cons pe_str pa_nil))) (pe_op op_sub (pv 3) pe_int) (fun _ _ => rfl)))
      (pss_one (ps_ret (pe_tup (pa_cons (pv 4) (pa_cons (pe_call G__law_simple (hr.mono (by omega)) (by rfl) T.g__law_simple T.F__law_simple.kp T.b__law_simple .nil pass0 (pa_cons (pv 0) (pa_cons (pv 1) (pa_cons (pe_op op_sub (pv 2) pe_int) pa_nil)))) (pa_cons (pe_call G__law_simple (hr.mono (by omega)) (by rfl) T.g__law_simple T.F__law_simple.kp T.b__law_simple .nil pass0 (pa_cons (pv 0) (pa_cons (pv 1) (pa_cons (pe_op op_sub (pv 2) pe_int) pa_nil)))) pa_nil))))))) pss_nil)
      (pss_cons (ps_set (i := 5) sc__law_simple.nd rfl (Or.inl rfl) (pe_call G__law_simple (hr.mono (by omega)) (by rfl) T.g__law_simple T.F__law_simple.kp T.b__law_simple .nil pass0 (pa_cons (pv 0) (pa_cons (pv 1) (pa_cons (pe_op op_sub (pv 2) pe_int) pa_nil)))))
      (pss_one (ps_ret (pe_tup (pa_cons pe_str (pa_cons (pv 5) (pa_cons (pe_call G__law_simple (hr.mono (by omega)) (by rfl) T.g__law_simple T.F__law_simple.kp T.b__law_simple .nil pass0 (pa_cons (pv 0) (pa_cons (pv 1) (pa_cons (pe_op op_sub (pv 2) pe_int) pa_nil)))) (pa_cons (pe_call G__law_simple (hr.mono (by omega)) (by rfl) T.g__law_simple T.F__law_simple.kp T.b__law_simple .nil pass0 (pa_cons (pv 0) (pa_cons (pv 1) (pa_cons (pe_op op_sub (pv 2) pe_int) pa_nil)))) pa_nil))))))))))), ?_⟩
      have mb := hB.w
      have ub : u ≠ b := fun z => nu (by rw [z]; exact mb)
      walk_at "g"
      refine ⟨b, 6, M, rfl, hB, by omega, by omega, fun w1 H1 a0 a1 hA1 hB1 => ?_⟩
      have s1 : Sx (one b) H H1 := hA1.sx
      have g1 : Gr H H1 := At.gr hA1 hB1.there
      have hu1 := s1 _ _ (show ¬ one b u from ub) hu
      obtain ⟨hw1, hw2, -⟩ := id hw
      walk_at "g"
      by_cases c1 : ((n + 1 : Nat) : Int) ≤ 1
      · rw [decide_eq_true c1]
        walk_at "g"
        refine ⟨b, 10, M, rfl, hB1, by omega, by omega, fun w2 H2 b0 b1 hA2 hB2 => ?_⟩
        have s2 := s1.trans hA2.sx
        have g2 := g1.trans (At.gr hA2 hB2.there)
        walk_at "g"
        refine ⟨szK rfl, fun p3 hp3 => ?_⟩
        have r3 : Rp M (upd H2 p3 (.tup [.str (Str.ofString "is"), .int w2])) (.ref p3) (.tuple [.str (Str.ofString "is"), .int w2]) := Rp.newT (hM.gr g2) hp3 (.cons (.str _) (.one (.int _)))
        have t3 : Same H2 (upd H2 p3 (.tup [.str (Str.ofString "is"), .int w2])) := same_new hp3
        generalize upd H2 p3 (.tup [.str (Str.ofString "is"), .int w2]) = H3 at r3 t3
        have hB3 := hB2.same t3
        have s3 := s2.trans (Sx.same t3)
        have g3 := g2.trans (Gr.same t3)
        have hu3 := s3 _ _ (show ¬ one b u from ub) hu
        walk_at "g"
        refine ⟨b, u, _, M, rfl, hB3, SqL.of hu3, ub, by rw [List.length_map]; omega, by rw [List.length_map]; omega, fun vc H4 hvc hA4 hB4 => ?_⟩
        obtain ⟨z, hz, rfl⟩ := List.mem_map.mp hvc
        have gz := hw.2.2 z hz
        have s4 := s3.trans hA4.sx
        have g4 := g3.trans (At.gr hA4 hB4.there)
        have r34 := r3.sx (hA4.sx.le (one_le mb))
        walk_at "g"
        refine ⟨szK rfl, fun p5 hp5 => ?_⟩
        have r5 : Rp M (upd H4 p5 (.tup [.str (Str.ofString "get"), .str z])) (.ref p5) (.tuple [.str (Str.ofString "get"), .str z]) := Rp.newT (hM.gr g4) hp5 (.cons (.str _) (.one (.str _)))
        have t5 : Same H4 (upd H4 p5 (.tup [.str (Str.ofString "get"), .str z])) := same_new hp5
        generalize upd H4 p5 (.tup [.str (Str.ofString "get"), .str z]) = H5 at r5 t5
        have r35 := r34.sx (Sx.same (M := M) t5)
        walk_at "g"
        refine ⟨szK rfl, fun p6 hp6 => ?_⟩
        have t6 : Same H5 (upd H5 p6 (.lst [.ref p3, .ref p5])) := same_new hp6
        have e6 : upd H5 p6 (.lst [.ref p3, .ref p5]) p6 = some (.lst [.ref p3, .ref p5]) := upd_same
        generalize upd H5 p6 (.lst [.ref p3, .ref p5]) = H6 at t6 e6
        have t56 := t5.trans t6
        have hB6 := hB4.same t56
        have p6b : p6 ≠ b := fun z => (hB4.same t5).there (by rw [← z]; exact hp6)
        walk_at "g"
        refine ⟨b, 2, M, rfl, hB6, by omega, by omega, fun w7 H7 c0 c1 hA7 hB7 => ?_⟩
        have s7 := s4.trans ((Sx.same t56).trans hA7.sx)
        have g7 := g4.trans ((Gr.same t56).trans (At.gr hA7 hB7.there))
        have sM : Sx M H5 H7 := (Sx.same t6).trans (hA7.sx.le (one_le mb))
        have e7 := (hA7 p6 p6b).trans e6
        have lb : 13 ≤ bnd (n + 1) := bnd_lo _ (by omega)
        have w01 : w7 = 0 ∨ w7 = 1 := by omega
        rcases w01 with rfl | rfl
        · refine ⟨_, _, _, _, rfl, rfl, SqL.of e7, rfl, ?_⟩
          exact q _ _ _ s7 g7 hB7 (r35.sx sM) ((((GdAll.nil.cons (Gd.int (by omega))).cons (gstr "is" 2 (by decide +kernel) (by decide +kernel))).tup).le (by omega) (by omega))
        · refine ⟨_, _, _, _, rfl, rfl, SqL.of e7, rfl, ?_⟩
          exact q _ _ _ s7 g7 hB7 (r5.sx sM) ((((GdAll.nil.cons gz).cons (gstr "get" 3 (by decide +kernel) (by decide +kernel))).tup).le (by omega) (by omega))
      rw [decide_eq_false c1]
      walk_at "g"
      by_cases c2 : w1 < 2
      · rw [decide_eq_true c2]
        walk_at "g"
        refine ⟨b, 10, M, rfl, hB1, by omega, by omega, fun w2 H2 b0 b1 hA2 hB2 => ?_⟩
        have s2 := s1.trans hA2.sx
        have g2 := g1.trans (At.gr hA2 hB2.there)
        walk_at "g"
        refine ⟨szK rfl, fun p3 hp3 => ?_⟩
        have r3 : Rp M (upd H2 p3 (.tup [.str (Str.ofString "is"), .int w2])) (.ref p3) (.tuple [.str (Str.ofString "is"), .int w2]) := Rp.newT (hM.gr g2) hp3 (.cons (.str _) (.one (.int _)))
        have t3 : Same H2 (upd H2 p3 (.tup [.str (Str.ofString "is"), .int w2])) := same_new hp3
        generalize upd H2 p3 (.tup [.str (Str.ofString "is"), .int w2]) = H3 at r3 t3
        have hB3 := hB2.same t3
        have s3 := s2.trans (Sx.same t3)
        have g3 := g2.trans (Gr.same t3)
        have hu3 := s3 _ _ (show ¬ one b u from ub) hu
        walk_at "g"
        refine ⟨b, u, _, M, rfl, hB3, SqL.of hu3, ub, by rw [List.length_map]; omega, by rw [List.length_map]; omega, fun vc H4 hvc hA4 hB4 => ?_⟩
        obtain ⟨z, hz, rfl⟩ := List.mem_map.mp hvc
        have gz := hw.2.2 z hz
        have s4 := s3.trans hA4.sx
        have g4 := g3.trans (At.gr hA4 hB4.there)
        have r34 := r3.sx (hA4.sx.le (one_le mb))
        walk_at "g"
        refine ⟨szK rfl, fun p5 hp5 => ?_⟩
        have r5 : Rp M (upd H4 p5 (.tup [.str (Str.ofString "get"), .str z])) (.ref p5) (.tuple [.str (Str.ofString "get"), .str z]) := Rp.newT (hM.gr g4) hp5 (.cons (.str _) (.one (.str _)))
        have t5 : Same H4 (upd H4 p5 (.tup [.str (Str.ofString "get"), .str z])) := same_new hp5
        generalize upd H4 p5 (.tup [.str (Str.ofString "get"), .str z]) = H5 at r5 t5
        have r35 := r34.sx (Sx.same (M := M) t5)
        walk_at "g"
        refine ⟨szK rfl, fun p6 hp6 => ?_⟩
        have t6 : Same H5 (upd H5 p6 (.lst [.ref p3, .ref p5])) := same_new hp6
        have e6 : upd H5 p6 (.lst [.ref p3, .ref p5]) p6 = some (.lst [.ref p3, .ref p5]) := upd_same
        generalize upd H5 p6 (.lst [.ref p3, .ref p5]) = H6 at t6 e6
        have t56 := t5.trans t6
        have hB6 := hB4.same t56
        have p6b : p6 ≠ b := fun z => (hB4.same t5).there (by rw [← z]; exact hp6)
        walk_at "g"
        refine ⟨b, 2, M, rfl, hB6, by omega, by omega, fun w7 H7 c0 c1 hA7 hB7 => ?_⟩
        have s7 := s4.trans ((Sx.same t56).trans hA7.sx)
        have g7 := g4.trans ((Gr.same t56).trans (At.gr hA7 hB7.there))
        have sM : Sx M H5 H7 := (Sx.same t6).trans (hA7.sx.le (one_le mb))
        have e7 := (hA7 p6 p6b).trans e6
        have lb : 13 ≤ bnd (n + 1) := bnd_lo _ (by omega)
        have w01 : w7 = 0 ∨ w7 = 1 := by omega
        rcases w01 with rfl | rfl
        · refine ⟨_, _, _, _, rfl, rfl, SqL.of e7, rfl, ?_⟩
          exact q _ _ _ s7 g7 hB7 (r35.sx sM) ((((GdAll.nil.cons (Gd.int (by omega))).cons (gstr "is" 2 (by decide +kernel) (by decide +kernel))).tup).le (by omega) (by omega))
        · refine ⟨_, _, _, _, rfl, rfl, SqL.of e7, rfl, ?_⟩
          exact q _ _ _ s7 g7 hB7 (r5.sx sM) ((((GdAll.nil.cons gz).cons (gstr "get" 3 (by decide +kernel) (by decide +kernel))).tup).le (by omega) (by omega))
      rw [decide_eq_false c2]
      have hn : 1 ≤ n := by omega
      have ec : ((n + 1 : Nat) : Int) - 1 = (n : Nat) := by omega
      walk_at "g"
      by_cases c3 : w1 < 4
      · rw [decide_eq_true c3]
        walk_at "g"
        refine ⟨szK rfl, fun p2 hp2 => ?_⟩
        have t2 : Same H1 (upd H1 p2 (.lst [.str (Str.ofString "sum"), .str (Str.ofString "same")])) := same_new hp2
        have e2 : upd H1 p2 (.lst [.str (Str.ofString "sum"), .str (Str.ofString "same")]) p2 = some (.lst [.str (Str.ofString "sum"), .str (Str.ofString "same")]) := upd_same
        generalize upd H1 p2 (.lst [.str (Str.ofString "sum"), .str (Str.ofString "same")]) = H2 at t2 e2
        obtain ⟨wd, hwd, gwd⟩ : ∃ wd : Str, atI [V.str (Str.ofString "sum"), .str (Str.ofString "same")] (w1 - 2) = some (.str wd) ∧ Gd 4 0 (.str wd) := by
          have : w1 - 2 = 0 ∨ w1 - 2 = 1 := by omega
          rcases this with z | z
          · rw [z]
            exact ⟨_, rfl, gstr "sum" 4 (by decide +kernel) (by decide +kernel)⟩
          · rw [z]
            exact ⟨_, rfl, gstr "same" 4 (by decide +kernel) (by decide +kernel)⟩
        have hB2 := hB1.same t2
        have s2 := s1.trans (Sx.same t2)
        have g2 := g1.trans (Gr.same t2)
        walk_at "g"
        refine ⟨_, _, _, _, rfl, rfl, SqL.of e2, hwd, ?_⟩
        walk_at "g"
        refine ⟨b, u, ws, M, (by rw [← ec]; rfl), hB2, hM.gr g2, hn, nu, s2 _ _ (show ¬ one b u from ub) hu, hw, fun v3 H3 d3 s3 g3 hB3 r3 gd3 => ?_⟩
        have s3' := s2.trans s3
        have g3' := g2.trans g3
        walk_at "g"
        refine ⟨b, u, ws, M, (by rw [← ec]; rfl), hB3, hM.gr g3', hn, nu, s3' _ _ (show ¬ one b u from ub) hu, hw, fun v4 H4 d4 s4 g4 hB4 r4 gd4 => ?_⟩
        have s4' := s3'.trans s4
        have g4' := g3'.trans g4
        have r34 := r3.sx (s4.le (one_le mb))
        walk_at "g"
        refine ⟨szK rfl, fun p5 hp5 => ?_⟩
        refine q _ _ _ (s4'.trans (Sx.new hp5)) (g4'.trans Gr.upd) (hB4.same (same_new hp5)) (Rp.newT (hM.gr g4') hp5 (.cons (.str wd) (.cons r34 (.one r4)))) ?_
        obtain ⟨m, rfl⟩ : ∃ m, n = m + 1 := ⟨n - 1, by omega⟩
        exact ((((GdAll.nil.cons gd4).cons gd3).cons gwd.up).tup).le (by show _ ≤ 5 + 3 * (bnd (m + 1) + 1); omega) (Nat.le_refl _)
      · rw [decide_eq_false c3]
        walk_at "g"
        refine ⟨b, u, ws, M, (by rw [← ec]; rfl), hB1, hM.gr g1, hn, nu, hu1, hw, fun v3 H3 d3 s3 g3 hB3 r3 gd3 => ?_⟩
        have s3' := s1.trans s3
        have g3' := g1.trans g3
        walk_at "g"
        refine ⟨b, u, ws, M, (by rw [← ec]; rfl), hB3, hM.gr g3', hn, nu, s3' _ _ (show ¬ one b u from ub) hu, hw, fun v4 H4 d4 s4 g4 hB4 r4 gd4 => ?_⟩
        have s4' := s3'.trans s4
        have g4' := g3'.trans g4
        walk_at "g"
        refine ⟨b, u, ws, M, (by rw [← ec]; rfl), hB4, hM.gr g4', hn, nu, s4' _ _ (show ¬ one b u from ub) hu, hw, fun v5 H5 d5 s5 g5 hB5 r5 gd5 => ?_⟩
        have s5' := s4'.trans s5
        have g5' := g4'.trans g5
        have r45 := r4.sx (s5.le (one_le mb))
        have r35 := (r3.sx (s4.le (one_le mb))).sx (s5.le (one_le mb))
        walk_at "g"
        refine ⟨szK rfl, fun p6 hp6 => ?_⟩
        refine q _ _ _ (s5'.trans (Sx.new hp6)) (g5'.trans Gr.upd) (hB5.same (same_new hp6)) (Rp.newT (hM.gr g5') hp6 (.cons (.str _) (.cons r35 (.cons r45 (.one r5))))) ?_
        obtain ⟨m, rfl⟩ : ∃ m, n = m + 1 := ⟨n - 1, by omega⟩
        exact (((((GdAll.nil.cons gd5).cons gd4).cons gd3).cons (gstr "pick" 4 (by decide +kernel) (by decide +kernel)).up).tup).le (by show _ ≤ 5 + 3 * (bnd (m + 1) + 1); omega) (Nat.le_refl _)
end
end D

namespace D
open PySem PySem.Spec PyProof.Rows L2
local macro_rules | `(tactic| walk_at "st") => `(tactic| first | exact SqT.of (by assumption) | exact Or.inl (by assumption) | exact SqT.of upd_same | fail "st")
local macro_rules | `(tactic| walk_at "ixt") => `(tactic| refine ⟨_, _, _, _, rfl, rfl, (by walk_at "st" : SqT _ _ _ _), by rfl, ?_⟩)
local macro_rules | `(tactic| walk_at "sq") => `(tactic| first | exact SqL.of (by assumption) | assumption | exact Or.inl (by assumption) | exact SqL.of upd_same | fail "sq")
local macro_rules | `(tactic| walk_at "ix") => `(tactic| refine ⟨_, _, _, _, rfl, rfl, (by walk_at "sq" : SqL _ _ _ _), by rfl, ?_⟩)
local macro_rules | `(tactic| walk_at "set") => `(tactic| refine ⟨_, _, _, _, rfl, rfl, by first | assumption | exact upd_same, by rfl, ?_⟩)
local macro_rules | `(tactic| walk_at "len") => `(tactic| refine ⟨_, _, rfl, Or.inl (by walk_at "sq" : SqL _ _ _ _), ?_⟩)
local macro_rules | `(tactic| walk_at "g") => `(tactic| repeat (first | refine ⟨_, rfl, ?_⟩ | refine ⟨_, _, rfl, rfl, ?_⟩ | refine ⟨Or.inr (by decide), ?_⟩ | refine ⟨Or.inl (by decide), ?_⟩ | refine ⟨(by decide : (0 : Int) < _), ?_⟩ | refine ⟨(⟨by decide, by decide⟩ : CDiv _ _), ?_⟩ | refine ⟨(⟨by decide, by decide, by decide⟩ : CPow _ _), ?_⟩ | refine Or.inl ⟨_, rfl, ?_⟩ | refine ⟨rfl, ?_⟩ | walk_at "ix" | walk_at "ixt" | walk_at "len" | fail "g"))
local macro_rules | `(tactic| walk_at "if") => `(tactic| refine ite2 (fun e => ?_) (fun e => ?_))
section
variable {P : Program} {w : World} {K : PySem.W.Frag} {mg : Str → Option Value} {base : Heap}
def sp_simples (K : PySem.W.Frag) : Sp := fun vs H Q E => ∃ n, n ≤ 3 ∧ sp_simple K n vs H Q E
theorem ok_simples (T : Txt K mg) : FnOk P w K mg base CX0 7 T.f__law_simple T.d__law_simple ["_law_bag_here", "_law_readable", "_law_deep"] (sp_simples K) :=
  ⟨fun vs H Q E ⟨n, _, h⟩ => (ok_simple (P := P) (w := w) (base := base) T n).len vs H Q E h, fun A o s H args us vs Q E hr he hb hv ⟨n, hn, h⟩ => ((ok_simple (P := P) (w := w) (base := base) T n).mono (by omega)).run A o s H args us vs Q E hr he hb hv h⟩
def sp_leaf (K : PySem.W.Frag) : Sp := fun vs H Q _ => ∃ (b uu ur : Addr) (wu wr : List Str) (M : Ms), vs = [.ref b, .ref uu, .ref ur] ∧ Bag K M H b ∧ Mk M H ∧ ¬ M uu ∧ H uu = some (.lst (wu.map V.str)) ∧ okW wu ∧ ¬ M ur ∧ H ur = some (.lst (wr.map V.str)) ∧ okW wr ∧ wr.length ≤ 900 ∧ Dr K M b H (fun d => ∃ l : Lf, d = l.enc ∧ l.ok) Q
theorem ok_leaf (T : Txt K mg) : FnOk P w K mg base CX0 8 T.f__law_leaf T.d__law_leaf ["_law_bag_here", "_law_used", "_law_readable"] (sp_leaf K) := by
  have G__law_pick := ok_pick (P := P) (w := w) (base := base) T
  have G__law_choice := ok_choice (P := P) (w := w) (base := base) T
  have G__law_simple := ok_simples (P := P) (w := w) (base := base) T
  have G__law_row := ok_lrow (P := P) (w := w) (base := base) T
  refine T.F__law_leaf.ok sc__law_leaf (fun vs H Q E h => ?_) (fun cdv A outer s H vs Q E hr h => ?_)
  · obtain ⟨_, _, _, _, _, _, rfl, _⟩ := h
    rfl
  · obtain ⟨b, uu, ur, wu, wr, M, rfl, hB, hM, nuu, huu, hwu, nur, hur, hwr, lwr, q⟩ := h
    refine ⟨_, (pss_cons (ps_set (i := 3) sc__law_leaf.nd rfl (Or.inl rfl) (pe_call G__law_pick (hr.mono (by omega)) (by rfl) T.g__law_pick T.F__law_pick.kp T.b__law_pick .nil pass0 (pa_cons (pv 0) (pa_cons pe_int pa_nil))))
      (pss_cons (ps_if (pt_cmpR op_lt (pv 3) pe_int (nomark _)) (pss_one (ps_ret (pe_tup (pa_cons pe_str (pa_cons (pe_call G__law_simple (hr.mono (by omega)) (by rfl) T.g__law_simple T.F__law_simple.kp T.b__law_simple .nil pass0 (pa_cons (pv 0) (pa_cons (pv 2) (pa_cons pe_int pa_nil)))) pa_nil))))) pss_nil)
      (pss_cons (ps_if (pt_cmpR op_eq (pv 3) pe_int (nomark _)) (pss_one (ps_ret (pe_tup (pa_cons pe_str (pa_cons (pe_call G__law_choice (hr.mono (by omega)) (by rfl) T.g__law_choice T.F__law_choice.kp T.b__law_choice .nil pass0 (pa_cons (pv 0) (pa_cons (pv 1) pa_nil))) pa_nil))))) pss_nil)
      (pss_cons (ps_set (i := 4) sc__law_leaf.nd rfl (Or.inr rfl) (pe_ifExp (pt_cmpR op_eq (pv 3) pe_int (nomark _)) (pe_op op_cat (pv 2) (pe_lst (pa_cons pe_str (pa_cons pe_str pa_nil)))) (pv 2)))
      (pss_cons (ps_set (i := 5) sc__law_leaf.nd rfl (Or.inl rfl) (pe_callTy (call_tupleK (K := K) rfl) (by rfl) T.m_tuple (by decide +kernel) (pa_cons (pe_lc (own := [("_law_step", 7)]) (g := gName 7) (tt := tYes) (by rfl) sc__law_leaf.nd (pi_range1 (by rfl) T.m_range (pa_cons (pe_call G__law_pick (hr.mono (by omega)) (by rfl) T.g__law_pick T.F__law_pick.kp T.b__law_pick .nil pass0 (pa_cons (pv 0) (pa_cons pe_int pa_nil))) pa_nil)) (blkOk_by (own := [("_law_step", 7)]) (N := ["_law_bag_here", "_law_used", "_law_readable", "_law_way", "_law_inner", "_law_forms", "_law_menu", "_law_step"]) (sc := defScope s__law_leaf) (by decide +kernel)) (fun _ _ _ _ _ => (pg_name (i := 7) sc__law_leaf.nd rfl (Or.inl rfl))) (fun _ _ _ _ _ => pts_nil) (fun _ _ _ _ _ => (pe_call G__law_simple (hr.mono (by omega)) (by rfl) T.g__law_simple T.F__law_simple.kp T.b__law_simple .nil pass0 (pa_cons (pv 0) (pa_cons (pv 4) (pa_cons pe_int pa_nil)))))) pa_nil)))
      (pss_cons (ps_if (pt_cmpR op_eq (pv 3) pe_int (nomark _)) (pss_one (ps_ret (pe_tup (pa_cons pe_str (pa_cons (pe_call G__law_choice (hr.mono (by omega)) (by rfl) T.g__law_choice T.F__law_choice.kp T.b__law_choice .nil pass0 (pa_cons (pv 0) (pa_cons (pv 1) pa_nil))) (pa_cons (pv 5) pa_nil)))))) pss_nil)
      (pss_cons (ps_set (i := 6) sc__law_leaf.nd rfl (Or.inl rfl) (pe_callTy (call_tupleK (K := K) rfl) (by rfl) T.m_tuple (by decide +kernel) (pa_cons (pe_lc (own := [("_law_step", 7)]) (g := gName 7) (tt := tYes) (by rfl) sc__law_leaf.nd (pi_range1 (by rfl) T.m_range (pa_cons (pe_op op_add pe_int (pe_call G__law_pick (hr.mono (by omega)) (by rfl) T.g__law_pick T.F__law_pick.kp T.b__law_pick .nil pass0 (pa_cons (pv 0) (pa_cons pe_int pa_nil)))) pa_nil)) (blkOk_by (own := [("_law_step", 7)]) (N := ["_law_bag_here", "_law_used", "_law_readable", "_law_way", "_law_inner", "_law_forms", "_law_menu", "_law_step"]) (sc := defScope s__law_leaf) (by decide +kernel)) (fun _ _ _ _ _ => (pg_name (i := 7) sc__law_leaf.nd rfl (Or.inl rfl))) (fun _ _ _ _ _ => pts_nil) (fun _ _ _ _ _ => (pe_call G__law_row (hr.mono (by omega)) (by rfl) T.g__law_row T.F__law_row.kp T.b__law_row .nil pass0 (pa_cons (pv 0) (pa_cons pe_int pa_nil))))) pa_nil)))
      (pss_one (ps_ret (pe_tup (pa_cons pe_str (pa_cons (pe_call G__law_simple (hr.mono (by omega)) (by rfl) T.g__law_simple T.F__law_simple.kp T.b__law_simple .nil pass0 (pa_cons (pv 0) (pa_cons (pv 2) (pa_cons pe_int pa_nil)))) (pa_cons (pv 6) (pa_cons (pe_call G__law_simple (hr.mono (by omega)) (by rfl) T.g__law_simple T.F__law_simple.kp T.b__law_simple .nil pass0 (pa_cons (pv 0) (pa_cons (pe_lst (pa_cons pe_str (pa_cons pe_str pa_nil))) (pa_cons pe_int pa_nil)))) (pa_cons (pe_call G__law_choice (hr.mono (by omega)) (by rfl) T.g__law_choice T.F__law_choice.kp T.b__law_choice .nil pass0 (pa_cons (pv 0) (pa_cons (pv 1) pa_nil))) (pa_cons (pv 5) pa_nil)))))))))))))))), ?_⟩
    have mb := hB.w
    have uub : uu ≠ b := fun z => nuu (by rw [z]; exact mb)
    have urb : ur ≠ b := fun z => nur (by rw [z]; exact mb)
    walk_at "g"
    refine ⟨b, 5, M, rfl, hB, by omega, by omega, fun w1 H1 a0 a1 hA1 hB1 => ?_⟩
    have s1 : Sx (one b) H H1 := hA1.sx
    have g1 : Gr H H1 := At.gr hA1 hB1.there
    have huu1 := s1 _ _ (show ¬ one b uu from uub) huu
    have hur1 := s1 _ _ (show ¬ one b ur from urb) hur
    obtain ⟨lu1, lu2, gu⟩ := id hwu
    walk_at "g"
    by_cases c1 : w1 < 2
    · rw [decide_eq_true c1]
      walk_at "g"
      refine ⟨3, by omega, b, ur, wr, M, rfl, hB1, hM.gr g1, by omega, nur, hur1, hwr, fun v2 H2 d s2 g2 hB2 r2 gd => ?_⟩
      walk_at "g"
      refine ⟨szK rfl, fun p hp => ?_⟩
      exact q _ _ _ (s1.trans (s2.trans (Sx.new hp))) (g1.trans (g2.trans Gr.upd)) (hB2.same (same_new hp)) (Rp.newT ((hM.gr g1).gr g2) hp (.cons (.str _) (.one r2))) ⟨.text d, rfl, gd.le (by decide) (Nat.le_refl _)⟩
    rw [decide_eq_false c1]
    walk_at "g"
    by_cases c2 : w1 = 2
    · subst c2
      walk_at "g"
      refine ⟨b, uu, _, M, rfl, hB1, SqL.of huu1, uub, by rw [List.length_map]; omega, by rw [List.length_map]; omega, fun vc H2 hvc hA2 hB2 => ?_⟩
      obtain ⟨z, hz, rfl⟩ := List.mem_map.mp hvc
      walk_at "g"
      refine ⟨szK rfl, fun p hp => ?_⟩
      have g2 := g1.trans (At.gr hA2 hB2.there)
      exact q _ _ _ (s1.trans (hA2.sx.trans (Sx.new hp))) (g2.trans Gr.upd) (hB2.same (same_new hp)) (Rp.newT (hM.gr g2) hp (.cons (.str _) (.one (.str z)))) ⟨.button (.str z), rfl, gu z hz⟩
    rw [decide_eq_false (show ¬ V.int w1 = V.int 2 from fun z => c2 (by injection z))]
    walk_at "g"
    by_cases c4 : w1 = 4
    · subst c4
      walk_at "g"
      refine ⟨szK rfl, fun p2 hp2 => ?_⟩
      have t2 : Same H1 (upd H1 p2 (.lst [.str (Str.ofString "item"), .str (Str.ofString "at")])) := same_new hp2
      have e2 : upd H1 p2 (.lst [.str (Str.ofString "item"), .str (Str.ofString "at")]) p2 = some (.lst [.str (Str.ofString "item"), .str (Str.ofString "at")]) := upd_same
      generalize upd H1 p2 (.lst [.str (Str.ofString "item"), .str (Str.ofString "at")]) = H2 at t2 e2
      refine ⟨ur, p2, _, _, rfl, rfl, t2 _ _ hur1, e2, by rw [List.length_map, sizeLine_eq]; show wr.length + 2 ≤ _; omega, fun ui hui0 => ?_⟩
      obtain ⟨wi, ewi⟩ : ∃ wi : List Str, wi = wr ++ [Str.ofString "item", Str.ofString "at"] := ⟨_, rfl⟩
      have ecat : wr.map V.str ++ [V.str (Str.ofString "item"), V.str (Str.ofString "at")] = wi.map V.str := by rw [ewi, List.map_append]; rfl
      rw [ecat]
      have gi : Gd 8 0 (.str (Str.ofString "item")) := gstr "item" 8 (by decide +kernel) (by decide +kernel)
      have ga : Gd 8 0 (.str (Str.ofString "at")) := gstr "at" 8 (by decide +kernel) (by decide +kernel)
      have hwi : okW wi := by
        rw [ewi]
        refine ⟨by rw [List.length_append]; show 1 ≤ wr.length + 2; omega, by rw [List.length_append]; show wr.length + 2 ≤ 1000; omega, fun z hz => ?_⟩
        rcases List.mem_append.mp hz with h | h
        · exact hwr.2.2 z h
        · simp only [List.mem_cons, List.not_mem_nil, or_false] at h
          rcases h with rfl | rfl
          · exact gi
          · exact ga
      have t3 : Same H2 (upd H2 ui (.lst (wi.map V.str))) := same_new hui0
      have hui : upd H2 ui (.lst (wi.map V.str)) ui = some (.lst (wi.map V.str)) := upd_same
      generalize upd H2 ui (.lst (wi.map V.str)) = H3 at t3 hui
      have t23 := t2.trans t3
      have nui : ¬ M ui := ((hM.gr g1).gr (Gr.same t2)).out hui0
      have uib : ui ≠ b := fun z => nui (by rw [z]; exact mb)
      have s3 := s1.trans (Sx.same t23)
      have g3 := g1.trans (Gr.same t23)
      have hB3 := hB1.same t23
      walk_at "g"
      refine ⟨b, 4, M, rfl, hB3, by omega, by omega, fun n4 H4 b0 b1 hA4 hB4 => ?_⟩
      have s4 := s3.trans hA4.sx
      have g4 := g3.trans (At.gr hA4 hB4.there)
      have hui4 := hA4.sx _ _ (show ¬ one b ui from uib) hui
      walk_at "g"
      refine ⟨by omega, by omega, fun Df hDf => ?_⟩
      have Dfb : Df ≠ b := fun z => hB4.there (by rw [← z]; exact hDf)
      have hwf : also M Df b := .inl mb
      refine rng_loop (lo := 0) (n := n4.toNat) (fun i H' => Sx (one b) H4 H' ∧ Gr H4 H' ∧ Bag K (also M Df) H' b ∧ ∃ xs ds, H' Df = some (.lst xs) ∧ RpAll (also M Df) H' xs ds ∧ ds.length = i ∧ ∀ d ∈ ds, Gd 47 2 d) ⟨Sx.new hDf, Gr.upd, (hB4.more hDf).same (same_new hDf), [], [], upd_same, .nil, rfl, fun d hd => (nomatch hd)⟩ (fun i H' hi z => ?_) (fun Hf z => ?_)
      · obtain ⟨sx, gx, hBx, xs, ds, eD, rx, ld, hd⟩ := z
        have lx := rx.length
        have hMx : Mk (also M Df) H' := ((hM.gr g4).gr gx).also (ne_none eD)
        refine ⟨rfl, ?_⟩
        walk_at "g"
        refine ⟨2, by omega, b, ui, wi, also M Df, rfl, hBx, hMx, by omega, (fun z => z.elim nui fun z => by have y := hui4; rw [show ui = Df from z, hDf] at y; cases y), sx _ _ (show ¬ one b ui from uib) hui4, hwi, fun vy Hy dy sy gy hBy ry gdy => ?_⟩
        have eD2 := sy _ _ Dfb eD
        have sP : Sx (also M Df) Hy (upd Hy Df (.lst (xs ++ [vy]))) := Sx.put (.inr rfl)
        refine ⟨xs, eD2, small1000 (by omega), fun c u n e => ?_, gx.trans (gy.trans Gr.upd), hBy.keep (N := one Df) (Sx.put rfl) (Ne.symm Dfb) (one_le (.inr rfl)), xs ++ [vy], ds ++ [dy], upd_same, ((rx.sx (sy.le (one_le hwf))).sx sP).append (.one (ry.sx sP)), by rw [List.length_append, ld]; rfl, fun d hd2 => ?_⟩
        · rw [upd_ne (fun z => by rw [z, hDf] at e; cases e)]
          exact sy c u n (sx c u n e)
        · rcases List.mem_append.mp hd2 with z | z
          · exact hd d z
          · rw [List.mem_singleton.mp z]; exact gdy
      obtain ⟨sxf, gxf, hBxf, xsf, dsf, eDf, rxf, ldf, hdf⟩ := z
      have hBxf := hBxf.less (N := M) mb also_le
      have rxf := rxf.less (N := M) also_le
      have sf := s4.trans sxf
      have gf := g4.trans gxf
      walk_at "g"
      refine ⟨Df, xsf, rfl, .inl ⟨SqL.of eDf, fun tf htf => ?_⟩⟩
      have rtf : Rp M (upd Hf tf (.tup xsf)) (.ref tf) (.tuple dsf) := Rp.newT (hM.gr gf) htf rxf
      have stf : Same Hf (upd Hf tf (.tup xsf)) := same_new htf
      have hBtf := hBxf.same stf
      generalize upd Hf tf (.tup xsf) = Htf at rtf stf hBtf
      have sf := sf.trans (Sx.same stf)
      have gf := gf.trans (Gr.same stf)
      walk_at "g"
      refine ⟨b, 4, M, rfl, hBtf, by omega, by omega, fun n5 H5 c0 c1 hA5 hB5 => ?_⟩
      have s5 := sf.trans hA5.sx
      have g5 := gf.trans (At.gr hA5 hB5.there)
      have rf5 := rtf.sx (hA5.sx.le (one_le mb))
      walk_at "g"
      refine ⟨by omega, by omega, fun Dm hDm => ?_⟩
      have Dmb : Dm ≠ b := fun z => hB5.there (by rw [← z]; exact hDm)
      have hwm : also M Dm b := .inl mb
      refine rng_loop (lo := 0) (n := (1 + n5).toNat) (fun i H' => Sx (one b) H5 H' ∧ Gr H5 H' ∧ Bag K (also M Dm) H' b ∧ ∃ xs ds, H' Dm = some (.lst xs) ∧ RpAll (also M Dm) H' xs ds ∧ ds.length = i ∧ ∀ d ∈ ds, Gd 5 1 d) ⟨Sx.new hDm, Gr.upd, (hB5.more hDm).same (same_new hDm), [], [], upd_same, .nil, rfl, fun d hd => (nomatch hd)⟩ (fun i H' hi z => ?_) (fun Hm z => ?_)
      · obtain ⟨sx, gx, hBx, xs, ds, eD, rx, ld, hd⟩ := z
        have lx := rx.length
        have hMx : Mk (also M Dm) H' := ((hM.gr g5).gr gx).also (ne_none eD)
        refine ⟨rfl, ?_⟩
        walk_at "g"
        refine ⟨b, also M Dm, rfl, hBx, hMx, fun vy Hy dy sy gy hBy ry gdy => ?_⟩
        have eD2 := sy _ _ Dmb eD
        have sP : Sx (also M Dm) Hy (upd Hy Dm (.lst (xs ++ [vy]))) := Sx.put (.inr rfl)
        refine ⟨xs, eD2, small1000 (by omega), fun c u n e => ?_, gx.trans (gy.trans Gr.upd), hBy.keep (N := one Dm) (Sx.put rfl) (Ne.symm Dmb) (one_le (.inr rfl)), xs ++ [vy], ds ++ [dy], upd_same, ((rx.sx (sy.le (one_le hwm))).sx sP).append (.one (ry.sx sP)), by rw [List.length_append, ld]; rfl, fun d hd2 => ?_⟩
        · rw [upd_ne (fun z => by rw [z, hDm] at e; cases e)]
          exact sy c u n (sx c u n e)
        · rcases List.mem_append.mp hd2 with z | z
          · exact hd d z
          · rw [List.mem_singleton.mp z]; exact gdy
      obtain ⟨sxm, gxm, hBxm, xsm, dsm, eDm, rxm, ldm, hdm⟩ := z
      have hBxm := hBxm.less (N := M) mb also_le
      have rxm := rxm.less (N := M) also_le
      have sm := s5.trans sxm
      have gm := g5.trans gxm
      walk_at "g"
      refine ⟨Dm, xsm, rfl, .inl ⟨SqL.of eDm, fun tm htm => ?_⟩⟩
      have rtm : Rp M (upd Hm tm (.tup xsm)) (.ref tm) (.tuple dsm) := Rp.newT (hM.gr gm) htm rxm
      have stm : Same Hm (upd Hm tm (.tup xsm)) := same_new htm
      have hBtm := hBxm.same stm
      generalize upd Hm tm (.tup xsm) = Htm at rtm stm hBtm
      have sm := sm.trans (Sx.same stm)
      have gm := gm.trans (Gr.same stm)
      have s5m : Sx (one b) H5 Htm := sxm.trans (Sx.same stm)
      have rf6 := rf5.sx (s5m.le (one_le mb))
      have hur6 := sm _ _ (show ¬ one b ur from urb) hur
      walk_at "g"
      refine ⟨2, by omega, b, ur, wr, M, rfl, hBtm, hM.gr gm, by omega, nur, hur6, hwr, fun v7 H7 d7 s7 g7 hB7 r7 gd7 => ?_⟩
      have rf7 := rf6.sx (s7.le (one_le mb))
      have rm7 := rtm.sx (s7.le (one_le mb))
      have s7' := sm.trans s7
      have g7' := gm.trans g7
      walk_at "g"
      refine ⟨szK rfl, fun p8 hp8 => ?_⟩
      have t8 : Same H7 (upd H7 p8 (.lst [.str (Str.ofString "item"), .str (Str.ofString "at")])) := same_new hp8
      have e8 : upd H7 p8 (.lst [.str (Str.ofString "item"), .str (Str.ofString "at")]) p8 = some (.lst (([Str.ofString "item", Str.ofString "at"] : List Str).map V.str)) := upd_same
      have np8 : ¬ M p8 := (hM.gr g7').out hp8
      generalize upd H7 p8 (.lst [.str (Str.ofString "item"), .str (Str.ofString "at")]) = H8 at t8 e8
      have g8 := g7'.trans (Gr.same t8)
      have hB8 := hB7.same t8
      have hw8 : okW [Str.ofString "item", Str.ofString "at"] := ⟨by decide, by decide, fun z h => by
        simp only [List.mem_cons, List.not_mem_nil, or_false] at h
        rcases h with rfl | rfl
        · exact gi
        · exact ga⟩
      refine ⟨2, by omega, b, p8, [Str.ofString "item", Str.ofString "at"], M, rfl, hB8, hM.gr g8, by omega, np8, e8, hw8, fun v9 H9 d9 s9 g9 hB9 r9 gd9 => ?_⟩
      have t89 : Sx (one b) H7 H9 := (Sx.same t8).trans s9
      have s9' := s7'.trans t89
      have g9' := g8.trans g9
      have rf9 := rf7.sx (t89.le (one_le mb))
      have rm9 := rm7.sx (t89.le (one_le mb))
      have r79 := r7.sx (t89.le (one_le mb))
      have huu9 := s9' _ _ (show ¬ one b uu from uub) huu
      walk_at "g"
      refine ⟨b, uu, _, M, rfl, hB9, SqL.of huu9, uub, by rw [List.length_map]; omega, by rw [List.length_map]; omega, fun vc H10 hvc hA10 hB10 => ?_⟩
      obtain ⟨z, hz, rfl⟩ := List.mem_map.mp hvc
      have s10 := hA10.sx
      have g10 := g9'.trans (At.gr hA10 hB10.there)
      walk_at "g"
      refine ⟨szK rfl, fun p hp => ?_⟩
      have up := fun {v d} (r : Rp M H9 v d) => r.sx (s10.le (one_le mb))
      refine q _ _ _ (s9'.trans (s10.trans (Sx.new hp))) (g10.trans Gr.upd) (hB10.same (same_new hp)) (Rp.newT (hM.gr g10) hp (.cons (.str _) (.cons (up r79) (.cons (up rm9) (.cons (up r9) (.cons (.str z) (.one (up rf9)))))))) ⟨.each d7 (.tuple dsm) d9 (.str z) dsf, rfl, gd7.le (by decide) (Nat.le_refl _), ((GdAll.all hdm).tup).le (by omega) (Nat.le_refl _), gd9.le (by decide) (Nat.le_refl _), gu z hz, by omega, fun f hf => (hdf f hf).le (by omega) (Nat.le_refl _)⟩
    · rw [decide_eq_false (show ¬ V.int w1 = V.int 4 from fun z => c4 (by injection z))]
      walk_at "g"
      refine ⟨b, 4, M, rfl, hB1, by omega, by omega, fun n2 H2 b0 b1 hA2 hB2 => ?_⟩
      have s2 := s1.trans hA2.sx
      have g2 := g1.trans (At.gr hA2 hB2.there)
      have hur2 := hA2.sx _ _ (show ¬ one b ur from urb) hur1
      walk_at "g"
      refine ⟨by omega, by omega, fun Df hDf => ?_⟩
      have Dfb : Df ≠ b := fun z => hB2.there (by rw [← z]; exact hDf)
      have hwf : also M Df b := .inl mb
      refine rng_loop (lo := 0) (n := n2.toNat) (fun i H' => Sx (one b) H2 H' ∧ Gr H2 H' ∧ Bag K (also M Df) H' b ∧ ∃ xs ds, H' Df = some (.lst xs) ∧ RpAll (also M Df) H' xs ds ∧ ds.length = i ∧ ∀ d ∈ ds, Gd 47 2 d) ⟨Sx.new hDf, Gr.upd, (hB2.more hDf).same (same_new hDf), [], [], upd_same, .nil, rfl, fun d hd => (nomatch hd)⟩ (fun i H' hi z => ?_) (fun Hf z => ?_)
      · obtain ⟨sx, gx, hBx, xs, ds, eD, rx, ld, hd⟩ := z
        have lx := rx.length
        have hMx : Mk (also M Df) H' := ((hM.gr g2).gr gx).also (ne_none eD)
        refine ⟨rfl, ?_⟩
        walk_at "g"
        refine ⟨2, by omega, b, ur, wr, also M Df, rfl, hBx, hMx, by omega, (fun z => z.elim nur fun z => by have y := hur2; rw [show ur = Df from z, hDf] at y; cases y), sx _ _ (show ¬ one b ur from urb) hur2, hwr, fun vy Hy dy sy gy hBy ry gdy => ?_⟩
        have eD2 := sy _ _ Dfb eD
        have sP : Sx (also M Df) Hy (upd Hy Df (.lst (xs ++ [vy]))) := Sx.put (.inr rfl)
        refine ⟨xs, eD2, small1000 (by omega), fun c u n e => ?_, gx.trans (gy.trans Gr.upd), hBy.keep (N := one Df) (Sx.put rfl) (Ne.symm Dfb) (one_le (.inr rfl)), xs ++ [vy], ds ++ [dy], upd_same, ((rx.sx (sy.le (one_le hwf))).sx sP).append (.one (ry.sx sP)), by rw [List.length_append, ld]; rfl, fun d hd2 => ?_⟩
        · rw [upd_ne (fun z => by rw [z, hDf] at e; cases e)]
          exact sy c u n (sx c u n e)
        · rcases List.mem_append.mp hd2 with z | z
          · exact hd d z
          · rw [List.mem_singleton.mp z]; exact gdy
      obtain ⟨sxf, gxf, hBxf, xsf, dsf, eDf, rxf, ldf, hdf⟩ := z
      have hBxf := hBxf.less (N := M) mb also_le
      have rxf := rxf.less (N := M) also_le
      have sf := s2.trans sxf
      have gf := g2.trans gxf
      walk_at "g"
      refine ⟨Df, xsf, rfl, .inl ⟨SqL.of eDf, fun tf htf => ?_⟩⟩
      have rtf : Rp M (upd Hf tf (.tup xsf)) (.ref tf) (.tuple dsf) := Rp.newT (hM.gr gf) htf rxf
      have stf : Same Hf (upd Hf tf (.tup xsf)) := same_new htf
      have hBtf := hBxf.same stf
      generalize upd Hf tf (.tup xsf) = Htf at rtf stf hBtf
      have sf := sf.trans (Sx.same stf)
      have gf := gf.trans (Gr.same stf)
      have huf := sf _ _ (show ¬ one b uu from uub) huu
      obtain rfl : w1 = 3 := by omega
      walk_at "g"
      refine ⟨b, uu, _, M, rfl, hBtf, SqL.of huf, uub, by rw [List.length_map]; omega, by rw [List.length_map]; omega, fun vc H5 hvc hA5 hB5 => ?_⟩
      obtain ⟨z, hz, rfl⟩ := List.mem_map.mp hvc
      have g5 := gf.trans (At.gr hA5 hB5.there)
      walk_at "g"
      refine ⟨szK rfl, fun p hp => ?_⟩
      refine q _ _ _ (sf.trans (hA5.sx.trans (Sx.new hp))) (g5.trans Gr.upd) (hB5.same (same_new hp)) (Rp.newT (hM.gr g5) hp (.cons (.str _) (.cons (.str z) (.one (rtf.sx (hA5.sx.le (one_le mb))))))) ⟨.put (.str z) dsf, rfl, gu z hz, by omega, fun f hf => (hdf f hf).le (by omega) (Nat.le_refl _)⟩
end
end D

namespace D
open PySem PySem.Spec PyProof.Rows L2
local macro_rules | `(tactic| walk_at "st") => `(tactic| first | exact SqT.of (by assumption) | exact Or.inl (by assumption) | exact SqT.of upd_same | fail "st")
local macro_rules | `(tactic| walk_at "ixt") => `(tactic| refine ⟨_, _, _, _, rfl, rfl, (by walk_at "st" : SqT _ _ _ _), by rfl, ?_⟩)
local macro_rules | `(tactic| walk_at "sq") => `(tactic| first | exact SqL.of (by assumption) | assumption | exact Or.inl (by assumption) | exact SqL.of upd_same | fail "sq")
local macro_rules | `(tactic| walk_at "ix") => `(tactic| refine ⟨_, _, _, _, rfl, rfl, (by walk_at "sq" : SqL _ _ _ _), by rfl, ?_⟩)
local macro_rules | `(tactic| walk_at "set") => `(tactic| refine ⟨_, _, _, _, rfl, rfl, by first | assumption | exact upd_same, by rfl, ?_⟩)
local macro_rules | `(tactic| walk_at "len") => `(tactic| refine ⟨_, _, rfl, Or.inl (by walk_at "sq" : SqL _ _ _ _), ?_⟩)
local macro_rules | `(tactic| walk_at "g") => `(tactic| repeat (first | refine ⟨_, rfl, ?_⟩ | refine ⟨_, _, rfl, rfl, ?_⟩ | refine ⟨Or.inr (by decide), ?_⟩ | refine ⟨Or.inl (by decide), ?_⟩ | refine ⟨(by decide : (0 : Int) < _), ?_⟩ | refine ⟨(⟨by decide, by decide⟩ : CDiv _ _), ?_⟩ | refine ⟨(⟨by decide, by decide, by decide⟩ : CPow _ _), ?_⟩ | refine Or.inl ⟨_, rfl, ?_⟩ | refine ⟨rfl, ?_⟩ | walk_at "ix" | walk_at "ixt" | walk_at "len" | fail "g"))
local macro_rules | `(tactic| walk_at "if") => `(tactic| refine ite2 (fun e => ?_) (fun e => ?_))
section
variable {P : Program} {w : World} {K : PySem.W.Frag} {mg : Str → Option Value} {base : Heap}
theorem idxL (w : Int) : ∃ r : Bool, atI [V.str (Str.ofString "row"), .str (Str.ofString "col")] (w % 2) = some (.str (sLine r)) := by
  have : w % 2 = 0 ∨ w % 2 = 1 := by omega
  rcases this with h | h <;> rw [h]
  · exact ⟨true, rfl⟩
  · exact ⟨false, rfl⟩
def sp_grown (K : PySem.W.Frag) (n : Nat) : Sp := fun vs H Q _ => ∃ (b uu ur l : Addr) (lev k : Int) (wu wr : List Str) (M : Ms), vs = [.ref b, .ref uu, .ref ur, .int lev, .ref l] ∧ lev = 6 - (n : Nat) ∧ 1 ≤ n ∧ Bag K M H b ∧ Mk M H ∧ ¬ M uu ∧ H uu = some (.lst (wu.map V.str)) ∧ okW wu ∧ ¬ M ur ∧ H ur = some (.lst (wr.map V.str)) ∧ okW wr ∧ wr.length ≤ 900 ∧ M l ∧ l ≠ b ∧ H l = some (.lst [.int k]) ∧ 0 ≤ k ∧ k ≤ 15 ∧ ∀ v H' (s : Sh) (k' : Int), Sx (also (one b) l) H H' → Gr H H' → Bag K M H' b → H' l = some (.lst [.int k']) → 0 ≤ k' → Rp M H' v s.enc → s.ok → s.dep ≤ n → (s.cnt : Nat) + k' ≤ k + 1 → Q v H'
theorem ok_grown (T : Txt K mg) : ∀ n, n ≤ 5 → FnOk P w K mg base CX0 (n + 8) T.f__law_grown T.d__law_grown ["_law_bag_here", "_law_used", "_law_readable", "_law_level", "_law_left"] (sp_grown K n) := by
  have G__law_pick := ok_pick (P := P) (w := w) (base := base) T
  have G__law_simple := ok_simples (P := P) (w := w) (base := base) T
  have G__law_leaf := ok_leaf (P := P) (w := w) (base := base) T
  intro n
  induction n with
  | zero =>
    intro _
    refine T.F__law_grown.ok sc__law_grown (fun vs H Q E h => ?_) (fun cdv A outer s H vs Q E hr h => ?_)
    · obtain ⟨_, _, _, _, _, _, _, _, _, rfl, _⟩ := h
      rfl
    · obtain ⟨_, _, _, _, _, _, _, _, _, rfl, _, h1, _⟩ := h
      exact absurd h1 (by omega)
  | succ n ih =>
    intro hn5
    have G__law_grown := ih (by omega)
    refine T.F__law_grown.ok sc__law_grown (fun vs H Q E h => ?_) (fun cdv A outer s H vs Q E hr h => ?_)
    · obtain ⟨_, _, _, _, _, _, _, _, _, rfl, _⟩ := h
      rfl
    · obtain ⟨b, uu, ur, l, lev, k, wu, wr, M, rfl, elev, _, hB, hM, nuu, huu, hwu, nur, hur, hwr, lwr, ml, lb, hl, k0, k15, q⟩ := h
      refine ⟨_, (pss_cons (ps_set (i := 5) sc__law_grown.nd rfl (Or.inl rfl) (pe_call G__law_pick (hr.mono (by omega)) (by rfl) T.g__law_pick T.F__law_pick.kp T.b__law_pick .nil pass0 (pa_cons (pv 0) (pa_cons pe_int pa_nil))))
      (pss_cons (ps_if (PW.pt (pw_and (pt_cmpR op_lt (pv 3) pe_int (nomark _)) (pw_and1 (pt_cmpR op_lt (pv 5) pe_int (nomark _))))) (pss_cons (ps_set (i := 6) sc__law_grown.nd rfl (Or.inl rfl) (pe_call G__law_pick (hr.mono (by omega)) (by rfl) T.g__law_pick T.F__law_pick.kp T.b__law_pick .nil pass0 (pa_cons (pv 0) (pa_cons (pe_op op_add pe_int (pe_callB (call_min2 rfl) (by rfl) T.m_min (by decide +kernel) (pa_cons pe_int (pa_cons (pe_ix (ix_listK (K := K) rfl) (pv 4) pe_int (fun _ _ => rfl)) pa_nil)))) pa_nil))))
      (pss_cons (ps_if (PW.pt (pw_and (pt_cmpR op_ge (pe_ix (ix_listK (K := K) rfl) (pv 4) pe_int (fun _ _ => rfl)) pe_int (nomark _)) (pw_and1 (pt_cmpR op_eq (pe_call G__law_pick (hr.mono (by omega)) (by rfl) T.g__law_pick T.F__law_pick.kp T.b__law_pick .nil pass0 (pa_cons (pv 0) (pa_cons pe_int pa_nil))) pe_int (nomark _))))) (pss_one (ps_set (i := 6) sc__law_grown.nd rfl (Or.inl rfl) pe_int)) pss_nil)
      (pss_cons (ps_asg (pe_op op_sub (pe_ix (ix_listK (K := K) rfl) (pv 4) pe_int (fun _ _ => rfl)) (pv 6)) (pg_sub (pv 4) pe_int set_list))
      (pss_cons (ps_set (i := 7) sc__law_grown.nd rfl (Or.inl rfl) (pe_lst pa_nil))
      (pss_cons (ps_for PassesOwn.never rfl (pi_range1 (by rfl) T.m_range (pa_cons (pv 6) pa_nil)) (pg_name (i := 8) sc__law_grown.nd rfl (Or.inl rfl)) (pss_one (ps_expr (pe_bmK2 (K := K) rfl PySem.F.plainAttrs_list PySem.F.slot_list_append PySem.F.type_list_append mt_append (pv 7) (pa_cons (pe_call G__law_grown (hr.mono (by omega)) (by rfl) T.g__law_grown T.F__law_grown.kp T.b__law_grown .nil pass0 (pa_cons (pv 0) (pa_cons (pv 1) (pa_cons (pv 2) (pa_cons (pe_op op_add (pv 3) pe_int) (pa_cons (pv 4) pa_nil)))))) pa_nil)))))
      (pss_one (ps_ret (pe_tup (pa_cons (pe_ix (ix_listK (K := K) rfl) (pe_lst (pa_cons pe_str (pa_cons pe_str pa_nil))) (pe_op op_mod (pe_callTy call_int1 (by rfl) T.m_int (by decide +kernel) (pa_cons (pv 5) pa_nil)) pe_int) (fun _ _ => rfl)) (pa_cons (pe_callTy (call_tupleK (K := K) rfl) (by rfl) T.m_tuple (by decide +kernel) (pa_cons (pv 7) pa_nil)) pa_nil)))))))))) pss_nil)
      (pss_cons (ps_if (PW.pt (pw_and (pt_cmpR op_lt (pv 3) pe_int (nomark _)) (pw_and (pt_cmpR op_eq (pv 5) pe_int (nomark _)) (pw_and1 (pt_cmpR op_ge (pe_ix (ix_listK (K := K) rfl) (pv 4) pe_int (fun _ _ => rfl)) pe_int (nomark _)))))) (pss_cons (ps_asg (pe_op op_sub (pe_ix (ix_listK (K := K) rfl) (pv 4) pe_int (fun _ _ => rfl)) pe_int) (pg_sub (pv 4) pe_int set_list))
      (pss_cons (ps_set (i := 9) sc__law_grown.nd rfl (Or.inl rfl) (pe_call G__law_grown (hr.mono (by omega)) (by rfl) T.g__law_grown T.F__law_grown.kp T.b__law_grown .nil pass0 (pa_cons (pv 0) (pa_cons (pv 1) (pa_cons (pv 2) (pa_cons (pe_op op_add (pv 3) pe_int) (pa_cons (pv 4) pa_nil)))))))
      (pss_cons (ps_set (i := 10) sc__law_grown.nd rfl (Or.inl rfl) (pe_call G__law_grown (hr.mono (by omega)) (by rfl) T.g__law_grown T.F__law_grown.kp T.b__law_grown .nil pass0 (pa_cons (pv 0) (pa_cons (pv 1) (pa_cons (pv 2) (pa_cons (pe_op op_add (pv 3) pe_int) (pa_cons (pv 4) pa_nil)))))))
      (pss_one (ps_ret (pe_tup (pa_cons pe_str (pa_cons (pe_call G__law_simple (hr.mono (by omega)) (by rfl) T.g__law_simple T.F__law_simple.kp T.b__law_simple .nil pass0 (pa_cons (pv 0) (pa_cons (pv 2) (pa_cons pe_int pa_nil)))) (pa_cons (pv 9) (pa_cons (pv 10) pa_nil)))))))))) pss_nil)
      (pss_one (ps_ret (pe_call G__law_leaf (hr.mono (by omega)) (by rfl) T.g__law_leaf T.F__law_leaf.kp T.b__law_leaf .nil pass0 (pa_cons (pv 0) (pa_cons (pv 1) (pa_cons (pv 2) pa_nil))))))))), ?_⟩
      have mb := hB.w
      have uub : uu ≠ b := fun z => nuu (by rw [z]; exact mb)
      have urb : ur ≠ b := fun z => nur (by rw [z]; exact mb)
      have uul : uu ≠ l := fun z => nuu (by rw [z]; exact ml)
      have url : ur ≠ l := fun z => nur (by rw [z]; exact ml)
      have fin : ∀ H1, Sx (also (one b) l) H H1 → Gr H H1 → Bag K M H1 b → H1 l = some (.lst [.int k]) → sp_leaf K [.ref b, .ref uu, .ref ur] H1 Q E := fun H1 s1 g1 hB1 e1 =>
        ⟨b, uu, ur, wu, wr, M, rfl, hB1, hM.gr g1, nuu, s1 _ _ (fun z => z.elim uub uul) huu, hwu, nur, s1 _ _ (fun z => z.elim urb url) hur, hwr, lwr, fun v H2 d s2 g2 hB2 r2 ⟨lf, ed, olf⟩ => by
          subst ed
          refine q v H2 (.leaf lf) k (s1.trans (s2.le (one_le (.inl rfl)))) (g1.trans g2) hB2 (s2 _ _ (show ¬ one b l from lb) e1) k0 (by rw [Sh.enc]; exact r2) (by rw [Sh.ok]; exact olf) (by rw [Sh.dep]; omega) ?_
          have : Sh.cnt (.leaf lf) = 1 := by unfold Sh.cnt; rw [Sh.subs]; rfl
          omega⟩
      walk_at "g"
      refine ⟨b, 7, M, rfl, hB, by omega, by omega, fun w1 H1 a0 a1 hA1 hB1 => ?_⟩
      have s1 : Sx (also (one b) l) H H1 := hA1.sx.le (one_le (.inl rfl))
      have g1 : Gr H H1 := At.gr hA1 hB1.there
      have hl1 := hA1.sx _ _ (show ¬ one b l from lb) hl
      walk_at "g"
      by_cases cn : n = 0
      · subst cn
        have e5 := decide_eq_false (show ¬ lev < 5 by omega)
        rw [e5]
        walk_at "g"
        rw [e5]
        walk_at "g"
        exact fin H1 s1 g1 hB1 hl1
      have e5 := decide_eq_true (show lev < 5 by omega)
      rw [e5]
      walk_at "g"
      by_cases c4 : w1 < 4
      · rw [decide_eq_true c4]
        walk_at "g"
        refine ⟨8, k, rfl, ?_⟩
        have m0 : 0 ≤ (if k < 8 then k else 8) := by split <;> omega
        have m8 : (if k < 8 then k else 8) ≤ 8 := by split <;> omega
        have mk' : (if k < 8 then k else 8) ≤ k := by split <;> omega
        generalize (if k < 8 then k else 8) = m at m0 m8 mk'
        walk_at "g"
        refine ⟨b, 1 + m, M, rfl, hB1, by omega, by omega, fun w2 H2 b0 b1 hA2 hB2 => ?_⟩
        have s2 : Sx (one b) H H2 := hA1.sx.trans hA2.sx
        have g2 : Gr H H2 := g1.trans (At.gr hA2 hB2.there)
        have hl2 := hA2.sx _ _ (show ¬ one b l from lb) hl1
        dsimp only [gName]
        with_reducible refine seq_join (fun σ3 H' => ∃ w3 : Int, σ3 = [some (.ref b), some (.ref uu), some (.ref ur), some (.int lev), some (.ref l), some (.int w1), some (.int w3), none, none, none, none] ∧ 0 ≤ w3 ∧ w3 ≤ k ∧ okLen w3.toNat ∧ Sx (one b) H H' ∧ Gr H H' ∧ Bag K M H' b ∧ H' l = some (.lst [.int k])) (fun hN => ?_) (fun σ H3 c => ?_)
        · walk_at "g"
          by_cases c11 : 11 ≤ k
          · rw [decide_eq_true c11]
            walk_at "g"
            refine ⟨b, 6, M, rfl, hB2, by omega, by omega, fun w3 H3 c0 c1 hA3 hB3 => ?_⟩
            have hl3 := hA3.sx _ _ (show ¬ one b l from lb) hl2
            have g3 := g2.trans (At.gr hA3 hB3.there)
            walk_at "g"
            by_cases c6 : w3 = 0
            · subst c6
              exact hN _ _ ⟨11, rfl, by omega, c11, .inr rfl, s2.trans hA3.sx, g3, hB3, hl3⟩
            · rw [decide_eq_false (show ¬ V.int w3 = V.int 0 from fun z => c6 (by injection z))]
              exact hN _ _ ⟨w2, rfl, by omega, by omega, .inl (by omega), s2.trans hA3.sx, g3, hB3, hl3⟩
          · rw [decide_eq_false c11]
            exact hN _ _ ⟨w2, rfl, by omega, by omega, .inl (by omega), s2, g2, hB2, hl2⟩
        · obtain ⟨m3, rfl, mm0, mmk, mok, s3, g3, hB3, hl3⟩ := c
          walk_at "g"
          walk_at "set"
          generalize e4 : upd H3 l _ = H4
          have hl4 : H4 l = some (.lst [.int (k - m3)]) := by rw [← e4, upd_same]; rfl
          have sl : Sx (one l) H3 H4 := by rw [← e4]; exact Sx.put rfl
          have gl : Gr H3 H4 := by rw [← e4]; exact Gr.upd
          clear e4
          have s4 : Sx (also (one b) l) H H4 := (s3.le fun _ z => .inl z).trans (sl.le fun _ z => .inr z)
          have g4 := g3.trans gl
          have hB4 : Bag K M H4 b := hB3.keep sl (fun z : b = l => lb z.symm) (one_le ml)
          have hM4 := hM.gr g4
          walk_at "g"
          refine ⟨szK rfl, fun D hD => ?_⟩
          have Db : D ≠ b := fun z => hB4.there (by rw [← z]; exact hD)
          have Dl : D ≠ l := fun z => by rw [z, hl4] at hD; cases hD
          walk_at "g"
          refine ⟨by omega, by rcases mok with z | z <;> omega, ?_⟩
          refine for_range (lo := 0) (n := m3.toNat) (fun i σ H' => (∃ y8, σ = [some (.ref b), some (.ref uu), some (.ref ur), some (.int lev), some (.ref l), some (.int w1), some (.int m3), some (.ref D), y8, none, none]) ∧ Sx (also (one b) l) H4 H' ∧ Gr H4 H' ∧ Bag K (also M D) H' b ∧ ∃ (xs : List V) (ps : List Sh) (k2 : Int), H' D = some (.lst xs) ∧ RpAll (also M D) H' xs (ps.map Sh.enc) ∧ ps.length = i ∧ (∀ p ∈ ps, p.ok ∧ p.dep ≤ n) ∧ H' l = some (.lst [.int k2]) ∧ 0 ≤ k2 ∧ ((ps.map Sh.cnt).sum : Nat) + k2 ≤ k - m3 + i) ⟨⟨_, rfl⟩, Sx.new hD, Gr.upd, (hB4.more hD).same (same_new hD), [], [], k - m3, upd_same, .nil, rfl, fun p hp => (nomatch hp), (upd_ne (Ne.symm Dl)).trans hl4, by omega, by simp⟩ (fun i σ H' hi z => ?_) (fun σ H' z => ?_)
          · obtain ⟨⟨y8, rfl⟩, sx, gx, hBx, xs, ps, k2, eD, rx, lp, hp, el, k20, sum⟩ := z
            have lx := rx.length
            rw [List.length_map] at lx
            have hMx : Mk (also M D) H' := (hM4.gr gx).also (ne_none eD)
            walk_at "g"
            refine ⟨.inl ⟨rfl, _, SqL.of eD⟩, ?_⟩
            walk_at "g"
            have nD : ∀ a u, H4 a = some u → a ≠ D := fun a u e z => by rw [z, hD] at e; cases e
            have huu4 := s4 _ _ (fun z => z.elim uub uul) huu
            have hur4 := s4 _ _ (fun z => z.elim urb url) hur
            refine ⟨b, uu, ur, l, lev + 1, k2, wu, wr, also M D, rfl, by omega, by omega, hBx, hMx, (fun z => z.elim nuu (nD _ _ huu4)), sx _ _ (fun z => z.elim uub uul) huu4, hwu, (fun z => z.elim nur (nD _ _ hur4)), sx _ _ (fun z => z.elim urb url) hur4, hwr, lwr, .inl ml, lb, el, k20, by omega, fun v H5 s5 k5 sy gy hBy el5 k50 ry oy dy cy => ?_⟩
            have eD2 := sy _ _ (fun z => z.elim Db Dl) eD
            have sP : Sx (also M D) H5 (upd H5 D (.lst (xs ++ [v]))) := Sx.put (.inr rfl)
            have le2 : ∀ a, also (one b) l a → also M D a := fun a z => .inl (z.elim (one_le mb a) (one_le ml a))
            refine ⟨D, xs, _, rfl, rfl, eD2, small1000 (by rcases mok with z | z <;> omega), ⟨_, rfl⟩, fun c u nn e => ?_, gx.trans (gy.trans Gr.upd), hBy.keep (N := one D) (Sx.put rfl) (Ne.symm Db) (one_le (.inr rfl)), xs ++ [v], ps ++ [s5], k5, upd_same, ?_, by rw [List.length_append, lp]; rfl, fun p hp2 => ?_, (upd_ne (Ne.symm Dl)).trans el5, k50, ?_⟩
            · rw [upd_ne (fun z => by rw [z, hD] at e; cases e)]
              exact sy c u nn (sx c u nn e)
            · rw [List.map_append]
              exact ((rx.sx (sy.le le2)).sx sP).append (.one (ry.sx sP))
            · rcases List.mem_append.mp hp2 with z | z
              · exact hp p z
              · rw [List.mem_singleton.mp z]; exact ⟨oy, dy⟩
            · rw [List.map_append, List.sum_append]
              simp only [List.map_cons, List.map_nil, List.sum_cons, List.sum_nil]
              omega
          · obtain ⟨⟨y8, rfl⟩, sx, gx, hBx, xs, ps, k2, eD, rx, lp, hp, el, k20, sum⟩ := z
            walk_at "g"
            refine ⟨szK rfl, fun p5 hp5 => ?_⟩
            have t5 : Same H' (upd H' p5 (.lst [.str (Str.ofString "row"), .str (Str.ofString "col")])) := same_new hp5
            have e5 : upd H' p5 (.lst [.str (Str.ofString "row"), .str (Str.ofString "col")]) p5 = some (.lst [.str (Str.ofString "row"), .str (Str.ofString "col")]) := upd_same
            generalize upd H' p5 (.lst [.str (Str.ofString "row"), .str (Str.ofString "col")]) = H5 at t5 e5
            walk_at "g"
            obtain ⟨rb, hrb⟩ := idxL w1
            refine ⟨_, _, _, _, rfl, rfl, SqL.of e5, hrb, ?_⟩
            walk_at "g"
            have eD5 := t5 _ _ eD
            refine ⟨D, xs, rfl, .inl ⟨SqL.of eD5, fun p6 hp6 => ?_⟩⟩
            have hM5 : Mk M H5 := (hM4.gr gx).gr (Gr.same t5)
            have r6 : Rp M (upd H5 p6 (.tup xs)) (.ref p6) (.tuple (ps.map Sh.enc)) := Rp.newT hM5 hp6 ((rx.less also_le).sx (Sx.same t5))
            have t6 : Same H5 (upd H5 p6 (.tup xs)) := same_new hp6
            generalize upd H5 p6 (.tup xs) = H6 at r6 t6
            refine ⟨szK rfl, fun p7 hp7 => ?_⟩
            have t56 := t5.trans t6
            have t7 : Same H6 (upd H6 p7 (.tup [.str (sLine rb), .ref p6])) := same_new hp7
            have t57 := t56.trans t7
            have hps : okLen ps.length := by rw [lp]; exact mok
            refine q _ _ (.line rb ps) k2 (s4.trans (sx.trans (Sx.same t57))) (g4.trans (gx.trans (Gr.same t57))) ((hBx.less mb also_le).same t57) (t57 _ _ el) k20 ?_ ?_ ?_ ?_
            · rw [Sh.enc, encAll_map]
              exact Rp.newT (hM5.gr (Gr.same t6)) hp7 (.cons (.str _) (.one r6))
            · rw [Sh.ok, okAll_iff]
              exact ⟨hps, fun p hp1 => (hp p hp1).1⟩
            · rw [Sh.dep]
              have := depAll_le (ps := ps) fun p hp1 => (hp p hp1).2
              omega
            · have e := cnt_eq (.line rb ps)
              simp only [Sh.inner] at e
              omega
      rw [decide_eq_false c4]
      walk_at "g"
      rw [e5]
      walk_at "g"
      by_cases c5 : w1 = 4
      · subst c5
        walk_at "g"
        by_cases c2 : 2 ≤ k
        · rw [decide_eq_true c2]
          walk_at "g"
          walk_at "set"
          generalize e4 : upd H1 l _ = H4
          have hl4 : H4 l = some (.lst [.int (k - 2)]) := by rw [← e4, upd_same]; rfl
          have sl : Sx (one l) H1 H4 := by rw [← e4]; exact Sx.put rfl
          have gl : Gr H1 H4 := by rw [← e4]; exact Gr.upd
          clear e4
          have s4 : Sx (also (one b) l) H H4 := s1.trans (sl.le fun _ z => .inr z)
          have g4 := g1.trans gl
          have hB4 : Bag K M H4 b := hB1.keep sl (fun z : b = l => lb z.symm) (one_le ml)
          have hM4 := hM.gr g4
          have bl : ∀ a, also (one b) l a → M a := fun a z => z.elim (one_le mb a) (one_le ml a)
          have ub : ¬ also (one b) l uu := fun z => z.elim uub uul
          have rb : ¬ also (one b) l ur := fun z => z.elim urb url
          have huu4 := s4 _ _ ub huu
          have hur4 := s4 _ _ rb hur
          walk_at "g"
          refine ⟨b, uu, ur, l, lev + 1, k - 2, wu, wr, M, rfl, by omega, by omega, hB4, hM4, nuu, huu4, hwu, nur, hur4, hwr, lwr, ml, lb, hl4, by omega, by omega, fun v5 H5 x5 k5 s5 g5 hB5 el5 k50 r5 o5 d5 c5 => ?_⟩
          walk_at "g"
          have s5' := s4.trans s5
          have huu5 := s5' _ _ ub huu
          have hur5 := s5' _ _ rb hur
          have xp := cnt_pos x5
          refine ⟨b, uu, ur, l, lev + 1, k5, wu, wr, M, rfl, by omega, by omega, hB5, hM4.gr g5, nuu, huu5, hwu, nur, hur5, hwr, lwr, ml, lb, el5, by omega, by omega, fun v6 H6 x6 k6 s6 g6 hB6 el6 k60 r6 o6 d6 c6 => ?_⟩
          walk_at "g"
          have s6' := s5'.trans s6
          have hur6 := s6' _ _ rb hur
          have g6' := g4.trans (g5.trans g6)
          refine ⟨3, by omega, b, ur, wr, M, rfl, hB6, hM.gr g6', by omega, nur, hur6, hwr, fun v7 H7 d7 s7 g7 hB7 r7 gd7 => ?_⟩
          walk_at "g"
          refine ⟨szK rfl, fun p8 hp8 => ?_⟩
          have s7w : Sx (also (one b) l) H6 H7 := s7.le (one_le (.inl rfl))
          have el7 := s7 _ _ (show ¬ one b l from lb) el6
          have t8 : Same H7 (upd H7 p8 (.tup [.str (Str.ofString "when"), v7, v5, v6])) := same_new hp8
          refine q _ _ (.whn d7 x5 x6) k6 (s6'.trans (s7w.trans (Sx.same t8))) (g6'.trans (g7.trans (Gr.same t8))) (hB7.same t8) (t8 _ _ el7) k60 ?_ ?_ ?_ ?_
          · rw [Sh.enc]
            exact Rp.newT (hM.gr (g6'.trans g7)) hp8 (.cons (.str _) (.cons r7 (.cons ((r5.sx (s6.le bl)).sx (s7w.le bl)) (.one (r6.sx (s7w.le bl))))))
          · rw [Sh.ok]
            exact ⟨gd7.le (by decide) (Nat.le_refl _), o5, o6⟩
          · rw [Sh.dep]
            exact Nat.succ_le_succ (Nat.max_le.mpr ⟨d5, d6⟩)
          · have e := cnt_eq (.whn d7 x5 x6)
            simp only [Sh.inner, List.map_cons, List.map_nil, List.sum_cons, List.sum_nil] at e
            omega
        · rw [decide_eq_false c2]
          walk_at "g"
          exact fin H1 s1 g1 hB1 hl1
      · rw [decide_eq_false (show ¬ V.int w1 = V.int 4 from fun z => c5 (by injection z))]
        walk_at "g"
        exact fin H1 s1 g1 hB1 hl1
end
end D

namespace D
open PySem PySem.Spec PyProof.Rows L2
local macro_rules | `(tactic| walk_at "st") => `(tactic| first | exact SqT.of (by assumption) | exact Or.inl (by assumption) | exact SqT.of upd_same | fail "st")
local macro_rules | `(tactic| walk_at "ixt") => `(tactic| refine ⟨_, _, _, _, rfl, rfl, (by walk_at "st" : SqT _ _ _ _), by rfl, ?_⟩)
local macro_rules | `(tactic| walk_at "sq") => `(tactic| first | exact SqL.of (by assumption) | assumption | exact Or.inl (by assumption) | exact SqL.of upd_same | fail "sq")
local macro_rules | `(tactic| walk_at "ix") => `(tactic| refine ⟨_, _, _, _, rfl, rfl, (by walk_at "sq" : SqL _ _ _ _), by rfl, ?_⟩)
local macro_rules | `(tactic| walk_at "set") => `(tactic| refine ⟨_, _, _, _, rfl, rfl, by first | assumption | exact upd_same, by rfl, ?_⟩)
local macro_rules | `(tactic| walk_at "len") => `(tactic| refine ⟨_, _, rfl, Or.inl (by walk_at "sq" : SqL _ _ _ _), ?_⟩)
local macro_rules | `(tactic| walk_at "g") => `(tactic| repeat (first | refine ⟨_, rfl, ?_⟩ | refine ⟨_, _, rfl, rfl, ?_⟩ | refine ⟨Or.inr (by decide), ?_⟩ | refine ⟨Or.inl (by decide), ?_⟩ | refine ⟨(by decide : (0 : Int) < _), ?_⟩ | refine ⟨(⟨by decide, by decide⟩ : CDiv _ _), ?_⟩ | refine ⟨(⟨by decide, by decide, by decide⟩ : CPow _ _), ?_⟩ | refine Or.inl ⟨_, rfl, ?_⟩ | refine ⟨rfl, ?_⟩ | walk_at "ix" | walk_at "ixt" | walk_at "len" | fail "g"))
local macro_rules | `(tactic| walk_at "if") => `(tactic| refine ite2 (fun e => ?_) (fun e => ?_))
section
variable {P : Program} {w : World} {K : PySem.W.Frag} {mg : Str → Option Value} {base : Heap}
theorem subs_all : ∀ (n : Nat) (s : Sh), s.dep ≤ n → ∀ t ∈ s.subs, t.dep ≤ s.dep ∧ t.cnt ≤ s.cnt ∧ (s.ok → t.ok) := by
  intro n
  induction n with
  | zero => intro s h; exact absurd (dep_pos s) (by omega)
  | succ n ih =>
    intro s hs t ht
    rw [subs_eq s] at ht
    rcases List.mem_cons.mp ht with rfl | ht
    · exact ⟨Nat.le_refl _, Nat.le_refl _, id⟩
    obtain ⟨l, hl, hz⟩ := List.mem_flatten.mp ht
    obtain ⟨p, hp, rfl⟩ := List.mem_map.mp hl
    have d := dep_inner hp
    have c := cnt_mem hp
    obtain ⟨h1, h2, h3⟩ := ih p (by omega) t hz
    exact ⟨by omega, by omega, fun o => h3 (ok_inner o hp)⟩
theorem subs_gd {s t : Sh} (hd : s.dep ≤ 5) (hc : s.cnt ≤ 16) (ho : s.ok) (h : t ∈ s.subs) : Gd 4960 14 t.enc := by
  obtain ⟨h1, h2, h3⟩ := subs_all 5 s hd t h
  exact (Sh.gd 5 t (by omega) (h3 ho)).le (by omega) (by omega)
theorem subs_gds {s : Sh} (hd : s.dep ≤ 5) (hc : s.cnt ≤ 16) (ho : s.ok) : GdAll 79376 14 (s.subs.map Sh.enc) := by
  have g := GdAll.all (B := 4960) (n := 14) (ds := s.subs.map Sh.enc) fun d h => by
    obtain ⟨t, ht, rfl⟩ := List.mem_map.mp h
    exact subs_gd hd hc ho ht
  refine g.le ?_ (Nat.le_refl _)
  rw [List.length_map]
  have : s.subs.length ≤ 16 := hc
  omega
theorem cut_mid (xs : List V) (i n : Nat) (h : i + n ≤ xs.length) : cutV xs (some (i : Int)) (some ((i : Int) + (n : Nat))) = (xs.drop i).take n := by
  unfold cutV
  have e1 : HT.sIx xs.length 0 (some (i : Int)) = i := (HT.sIx_nat _ _ i).trans (by omega)
  have e2 : HT.sIx xs.length xs.length (some ((i + n : Nat) : Int)) = i + n := (HT.sIx_nat _ _ (i + n)).trans (by omega)
  rw [show (i : Int) + (n : Nat) = ((i + n : Nat) : Int) by omega, e1, e2, Nat.add_sub_cancel_left]
theorem RpAll.dropTake {M : Ms} {H : Hp} : ∀ (i n : Nat) {xs : List V} {ds : List PyData}, RpAll M H xs ds → RpAll M H ((xs.drop i).take n) ((ds.drop i).take n)
  | 0, 0, xs, ds, h => by rw [List.take_zero, List.take_zero]; exact .nil
  | 0, n + 1, [], ds, h => by cases h; exact .nil
  | 0, n + 1, x :: xs, ds, h => by
    cases h with
    | cons h1 h2 => exact .cons h1 (RpAll.dropTake 0 n h2)
  | i + 1, n, [], ds, h => by cases h; rw [List.drop_nil, List.drop_nil, List.take_nil, List.take_nil]; exact .nil
  | i + 1, n, x :: xs, ds, h => by
    cases h with
    | cons h1 h2 => exact RpAll.dropTake i n h2
def sp_asked : Sp := fun vs H Q _ => ∃ (v : V) (s : Sh) (M : Ms), vs = [v] ∧ Rp M H v s.enc ∧ Mk M H ∧ s.ok ∧ s.dep ≤ 5 ∧ s.cnt ≤ 16 ∧ ∀ H', Same H H' → Q (.bl true) H'
theorem ok_asked (T : Txt K mg) : FnG P w K mg base CX0 9 T.f__law_asked T.d__law_asked ["_law_shape"] sp_asked := by
  have G__law_numbered := okl_nums (P := P) (w := w) (base := base) T 5
  have G__law_built := ok_built (P := P) (w := w) (base := base) T 5
  have G_numbered := okf_nums (P := P) (w := w) (base := base) T 5
  have G_levels := ok_levels (P := P) (w := w) (base := base) T 5
  have G__law_number := ok_number (P := P) (w := w) (base := base) T
  have G__law_high := ok_high (P := P) (w := w) (base := base) T 5
  refine Fun.okG T.F__law_asked sc__law_asked (fun vs H Q E h => ?_) (fun cdv A outer s H vs Q E gd hr h => ?_)
  · obtain ⟨_, _, _, rfl, _⟩ := h
    rfl
  · obtain ⟨v, s, M, rfl, hR, hM, ho, hd, hc, q⟩ := h
    refine ⟨_, (pss_cons (ps_set (i := 1) sc__law_asked.nd rfl (Or.inl rfl) (pe_call G__law_numbered (hr.mono (by omega)) (by rfl) T.g__law_numbered T.F__law_numbered.kp T.b__law_numbered .nil pass0 (pa_cons (pv 0) pa_nil)))
      (pss_cons (ps_set (i := 2) sc__law_asked.nd rfl (Or.inl rfl) (pe_call G__law_built (hr.mono (by omega)) (by rfl) T.g__law_built T.F__law_built.kp T.b__law_built .nil pass0 (pa_cons (pv 0) pa_nil)))
      (pss_cons (ps_if (PW.pt (pw_or (pt_not (pt_val (pe_callB (call_isi1K (K := K) rfl) (by rfl) T.m_isinstance (by decide +kernel) (pa_cons (pv 2) (pa_cons (pe_bltn (v := .ty "tuple") (u := .type "tuple") (by rfl) T.m_tuple (by decide +kernel) rfl) pa_nil))))) (pw_or (pt_cmpR (op_neDK (K := K) rfl hr.units) (pv 2) (pv 0) (nomark _)) (pw_or1 (pt_cmpR op_ne (pe_callB (call_reprV gd (un200 hr)) (by rfl) T.m_repr (by decide +kernel) (pa_cons (pv 2) pa_nil)) (pe_callB (call_reprV gd (un200 hr)) (by rfl) T.m_repr (by decide +kernel) (pa_cons (pv 0) pa_nil)) (nomark _)))))) (pss_one (ps_ret pe_bl)) pss_nil)
      (pss_cons (ps_set (i := 3) sc__law_asked.nd rfl (Or.inl rfl) (pe_call G_numbered (hr.mono (by omega)) (by rfl) T.g_numbered T.F_numbered.kp T.b_numbered .nil pass0 (pa_cons (pv 2) pa_nil)))
      (pss_cons (ps_if (PW.pt (pw_or (pt_not (pt_val (pe_callB (call_isi1K (K := K) rfl) (by rfl) T.m_isinstance (by decide +kernel) (pa_cons (pv 3) (pa_cons (pe_bltn (v := .ty "tuple") (u := .type "tuple") (by rfl) T.m_tuple (by decide +kernel) rfl) pa_nil))))) (pw_or (pt_cmpR (op_neDK (K := K) rfl hr.units) (pe_callTy (call_listK (K := K) rfl) (by rfl) T.m_list (by decide +kernel) (pa_cons (pv 3) pa_nil)) (pv 1) (nomark _)) (pw_or1 (pt_cmpR op_ne (pe_callB (call_reprV gd (un200 hr)) (by rfl) T.m_repr (by decide +kernel) (pa_cons (pe_callTy (call_listK (K := K) rfl) (by rfl) T.m_list (by decide +kernel) (pa_cons (pv 3) pa_nil)) pa_nil)) (pe_callB (call_reprV gd (un200 hr)) (by rfl) T.m_repr (by decide +kernel) (pa_cons (pv 1) pa_nil)) (nomark _)))))) (pss_one (ps_ret pe_bl)) pss_nil)
      (pss_cons (ps_set (i := 4) sc__law_asked.nd rfl (Or.inl rfl) (pe_call G_levels (hr.mono (by omega)) (by rfl) T.g_levels T.F_levels.kp T.b_levels .nil pass0 (pa_cons (pv 2) pa_nil)))
      (pss_cons (ps_if (PW.pt (pw_or (pt_not (pt_val (pe_call G__law_number (hr.mono (by omega)) (by rfl) T.g__law_number T.F__law_number.kp T.b__law_number .nil pass0 (pa_cons (pv 4) pa_nil)))) (pw_or1 (pt_cmpR op_ne (pv 4) (pe_call G__law_high (hr.mono (by omega)) (by rfl) T.g__law_high T.F__law_high.kp T.b__law_high .nil pass0 (pa_cons (pv 0) pa_nil)) (nomark _))))) (pss_one (ps_ret pe_bl)) pss_nil)
      (pss_cons (ps_for PassesOwn.never rfl (pi_enumK (K := K) rfl (by rfl) T.m_enumerate (pa_cons (pv 1) pa_nil)) (pg_tupK (K := K) rfl rfl (pgs_cons (pg_name (i := 5) sc__law_asked.nd rfl (Or.inl rfl)) (pgs_cons (pg_name (i := 6) sc__law_asked.nd rfl (Or.inl rfl)) pgs_nil))) (pss_one (ps_if (PW.pt (pw_or (pt_cmpR (op_neDK (K := K) rfl hr.units) (pe_call G_numbered (hr.mono (by omega)) (by rfl) T.g_numbered T.F_numbered.kp T.b_numbered .nil pass0 (pa_cons (pv 6) pa_nil)) (pe_callTy (call_tupleK (K := K) rfl) (by rfl) T.m_tuple (by decide +kernel) (pa_cons (pe_slice (sl_listK (K := K) rfl) (pv 1) (po_some (pv 5)) (po_some (pe_op op_add (pv 5) (pe_callB (call_lenK (K := K) rfl) (by rfl) T.m_len PySem.boot_len (pa_cons (pe_call G__law_numbered (hr.mono (by omega)) (by rfl) T.g__law_numbered T.F__law_numbered.kp T.b__law_numbered .nil pass0 (pa_cons (pv 6) pa_nil)) pa_nil))))) pa_nil)) (nomark _)) (pw_or1 (pt_cmpR op_ne (pe_call G_levels (hr.mono (by omega)) (by rfl) T.g_levels T.F_levels.kp T.b_levels .nil pass0 (pa_cons (pv 6) pa_nil)) (pe_call G__law_high (hr.mono (by omega)) (by rfl) T.g__law_high T.F__law_high.kp T.b__law_high .nil pass0 (pa_cons (pv 6) pa_nil)) (nomark _))))) (pss_one (ps_ret pe_bl)) pss_nil)))
      (pss_one (ps_ret (pe_and (pe_cmpR (op_eqDK (K := K) rfl hr.units) (pe_call G_numbered (hr.mono (by omega)) (by rfl) T.g_numbered T.F_numbered.kp T.b_numbered .nil pass0 (pa_cons (pv 2) pa_nil)) (pv 3) (nomark _)) (pe_one (pe_cmpR op_eq (pe_call G_levels (hr.mono (by omega)) (by rfl) T.g_levels T.F_levels.kp T.b_levels .nil pass0 (pa_cons (pv 2) pa_nil)) (pv 4) (nomark _)))))))))))))), ?_⟩
    obtain ⟨a, ys, rfl, na, ha, ry⟩ := hR.shX
    walk_at "g"
    refine ⟨.ref a, s, M, rfl, hR, hM, hd, by omega, fun H1 p1 xs1 s1 hp1 e1 r1 => ?_⟩
    walk_at "g"
    have hR1 := hR.sx (Sx.same s1)
    have hM1 := hM.gr (Gr.same s1)
    refine ⟨.ref a, s, M, rfl, hR1, hM1, hd, ho, fun v2 H2 d2 s2 r2 e2 => ?_⟩
    subst e2
    walk_at "g"
    have hM2 := hM1.gr (Gr.same s2)
    obtain ⟨a2, ys2, rfl, na2, ha2, ry2⟩ := r2.shX
    refine ⟨_, _, _, _, true, rfl, .ty _, rd_ty (.inl ha2), kit_ty (by decide +kernel), ?_⟩
    walk_at "g"
    have g0 := Sh.gd 5 s hd ho
    have hsh := g0.shaped (by omega)
    have hR2 := hR1.sx (Sx.same s2)
    have S := g0.showing (by omega) (by omega)
    refine ⟨s.enc, s.enc, Rp.dp (K := K) _ _ r2, Rp.dp (K := K) _ _ hR2, hsh, hsh, ?_⟩
    rw [g0.refl]
    walk_at "g"
    refine ⟨_, _, rfl, Rp.dp (K := K) _ _ r2, S.1, S.2.1, S.2.2.1, S.2.2.2, ?_⟩
    walk_at "g"
    refine ⟨_, _, rfl, Rp.dp (K := K) _ _ hR2, S.1, S.2.1, S.2.2.1, S.2.2.2, ?_⟩
    walk_at "g"
    rw [decide_eq_true rfl]
    walk_at "g"
    refine ⟨_, s, M, rfl, r2, hM2, hd, by omega, fun v3 H3 d3 s3 r3 e3 => ?_⟩
    subst e3
    have hM3 := hM2.gr (Gr.same s3)
    obtain ⟨a3, xs3, rfl, na3, ha3, rx3⟩ := Rp.tupX r3
    walk_at "g"
    refine ⟨_, _, _, _, true, rfl, .ty _, rd_ty (.inl ha3), kit_ty (by decide +kernel), ?_⟩
    walk_at "g"
    have hx1 : ∀ {Hx : Hp}, Same H1 Hx → Hx p1 = some (.lst xs1) := fun z => z _ _ e1
    have np1 : ¬ M p1 := hM.out hp1
    have R1 : ∀ {Hx : Hp}, Same H1 Hx → Rp M Hx (.ref p1) (.list (s.subs.map Sh.enc)) := fun z => .lst np1 (.inl (hx1 z)) (r1.sx (Sx.same z))
    have gl := (subs_gds hd hc ho).lst
    have hshl := gl.shaped (by omega)
    have L := gl.showing (by omega) (by omega)
    refine ⟨a3, xs3, rfl, .inr (SqT.of ha3), fun p4 hp4 => ?_⟩
    have t4 : Same H3 (upd H3 p4 (.lst xs3)) := same_new hp4
    have r4 : Rp M (upd H3 p4 (.lst xs3)) (.ref p4) (.list (s.subs.map Sh.enc)) := Rp.newL hM3 hp4 rx3
    generalize upd H3 p4 (.lst xs3) = H4 at t4 r4
    have s14 := s2.trans (s3.trans t4)
    walk_at "g"
    refine ⟨_, _, Rp.dp (K := K) _ _ r4, Rp.dp (K := K) _ _ (R1 s14), hshl, hshl, ?_⟩
    rw [gl.refl]
    walk_at "g"
    refine ⟨a3, xs3, rfl, .inr (SqT.of (t4 _ _ ha3)), fun p5 hp5 => ?_⟩
    have t5 : Same H4 (upd H4 p5 (.lst xs3)) := same_new hp5
    have r5 : Rp M (upd H4 p5 (.lst xs3)) (.ref p5) (.list (s.subs.map Sh.enc)) := Rp.newL (hM3.gr (Gr.same t4)) hp5 (rx3.sx (Sx.same t4))
    generalize upd H4 p5 (.lst xs3) = H5 at t5 r5
    have s15 := s14.trans t5
    have s35 := t4.trans t5
    walk_at "g"
    refine ⟨_, _, rfl, Rp.dp (K := K) _ _ r5, L.1, L.2.1, L.2.2.1, L.2.2.2, ?_⟩
    walk_at "g"
    refine ⟨_, _, rfl, Rp.dp (K := K) _ _ (R1 s15), L.1, L.2.1, L.2.2.1, L.2.2.2, ?_⟩
    walk_at "g"
    rw [decide_eq_true rfl]
    walk_at "g"
    have hM5 := hM3.gr (Gr.same s35)
    have r25 : Rp M H5 (.ref a2) s.enc := r2.sx (Sx.same (s3.trans s35))
    refine ⟨_, s, M, rfl, r25, hM5, hd, fun H6 s6 => ?_⟩
    walk_at "g"
    have s16 := s15.trans s6
    refine ⟨_, s, M, rfl, hR1.sx (Sx.same s16), hM5.gr (Gr.same s6), hd, fun H7 s7 => ?_⟩
    walk_at "g"
    rw [decide_eq_true rfl]
    walk_at "g"
    have s17 := s16.trans s7
    have s27 : Same H2 H7 := s3.trans (s35.trans (s6.trans s7))
    have s37 : Same H3 H7 := s35.trans (s6.trans s7)
    have hM7 := hM1.gr (Gr.same s17)
    have lx := r1.length
    rw [List.length_map] at lx
    have lx16 : s.subs.length ≤ 16 := hc
    refine ⟨p1, xs1, rfl, SqL.of (hx1 s17), ?_⟩
    refine for_enum (K := K) (a := p1) (xs := xs1) (fun i σ H' => (∃ y5 y6, σ = [some (.ref a), some (.ref p1), some (.ref a2), some (.ref a3), some (.int (s.dep : Nat)), y5, y6]) ∧ Same H7 H') ⟨⟨_, _, rfl⟩, Same.refl _⟩ (fun i σ H' _ p => SqL.of (hx1 (s17.trans p.2))) (fun i x T' σ H' hx hT p => ?_) (fun σ H' p => ?_)
    · obtain ⟨⟨y5, y6, rfl⟩, sm⟩ := p
      have hi : i < s.subs.length := by rw [← lx]; exact (List.getElem?_eq_some_iff.mp hx).1
      obtain ⟨d, hd3, rd⟩ := r1.get hx
      rw [List.getElem?_map, List.getElem?_eq_getElem hi] at hd3
      cases hd3
      have ht : s.subs[i] ∈ s.subs := List.getElem_mem hi
      have het : s.subs[i]? = some s.subs[i] := List.getElem?_eq_getElem hi
      have hsl := subs_slice 5 s hd i _ het
      generalize s.subs[i] = t at ht hsl rd het
      obtain ⟨td, tc, tok⟩ := subs_all 5 s hd t ht
      have hT2 : Same H' (upd H' T' (.tup [.int (i : Nat), x])) := same_new hT
      refine ⟨T', _, rfl, SqT.of upd_same, rfl, _, _, rfl, _, _, rfl, rfl, ?_⟩
      generalize upd H' T' (.tup [.int (i : Nat), x]) = HT at hT2
      have s7T := sm.trans hT2
      have s1T := s17.trans s7T
      have hMT := hM7.gr (Gr.same s7T)
      have hdT : t.dep ≤ 5 := by omega
      have rdT : Rp M HT x t.enc := rd.sx (Sx.same s1T)
      walk_at "g"
      refine ⟨x, t, M, rfl, rdT, hMT, hdT, by omega, fun v8 H8 d8 s8 r8 e8 => ?_⟩
      subst e8
      have s18 := s1T.trans s8
      have hM8 := hMT.gr (Gr.same s8)
      walk_at "g"
      refine ⟨x, t, M, rfl, rd.sx (Sx.same s18), hM8, hdT, by omega, fun H9 p9 xs9 s9 hp9 e9 r9 => ?_⟩
      have lx9 := r9.length
      rw [List.length_map] at lx9
      have s19 := s18.trans s9
      walk_at "g"
      refine ⟨p1, xs1, rfl, SqL.of (hx1 s19), fun pa hpa => ?_⟩
      have ec : cutV xs1 (some (i : Int)) (some ((i : Int) + (xs9.length : Nat))) = (xs1.drop i).take xs9.length := cut_mid _ _ _ (by
        have h := congrArg List.length hsl
        rw [List.length_take, List.length_drop] at h
        omega)
      rw [ec]
      have ra : RpAll M H9 ((xs1.drop i).take xs9.length) (t.subs.map Sh.enc) := by
        have h := RpAll.dropTake (M := M) i xs9.length (r1.sx (Sx.same s19))
        rw [← List.map_drop, ← List.map_take, lx9, hsl] at h
        rw [lx9]
        exact h
      generalize (xs1.drop i).take xs9.length = ys at ra
      have ta : Same H9 (upd H9 pa (.lst ys)) := same_new hpa
      have ea : upd H9 pa (.lst ys) pa = some (.lst ys) := upd_same
      have ra2 := ra.sx (Sx.same ta)
      have hM9 := hM8.gr (Gr.same s9)
      have hMa := hM9.gr (Gr.same ta)
      generalize upd H9 pa (.lst ys) = Ha at ta ea ra2 hMa
      walk_at "g"
      refine ⟨pa, ys, rfl, .inl ⟨SqL.of ea, fun pb hpb => ?_⟩⟩
      have tb : Same Ha (upd Ha pb (.tup ys)) := same_new hpb
      have rb : Rp M (upd Ha pb (.tup ys)) (.ref pb) (.tuple (t.subs.map Sh.enc)) := Rp.newT hMa hpb ra2
      have hMb := hMa.gr (Gr.same tb)
      generalize upd Ha pb (.tup ys) = Hb at tb rb hMb
      have gt : Gd 79376 15 (.tuple (t.subs.map Sh.enc)) := (subs_gds hdT (by omega) (tok ho)).tup
      have hsht := gt.shaped (by omega)
      have s8b := s9.trans (ta.trans tb)
      refine ⟨_, _, Rp.dp (K := K) _ _ (r8.sx (Sx.same s8b)), Rp.dp (K := K) _ _ rb, hsht, hsht, ?_⟩
      rw [gt.refl]
      walk_at "g"
      have s1b := s18.trans s8b
      refine ⟨x, t, M, rfl, rd.sx (Sx.same s1b), hMb, hdT, fun Hc sc => ?_⟩
      walk_at "g"
      refine ⟨x, t, M, rfl, rd.sx (Sx.same (s1b.trans sc)), hMb.gr (Gr.same sc), hdT, fun Hd sd => ?_⟩
      walk_at "g"
      rw [decide_eq_true rfl]
      walk_at "g"
      exact ⟨⟨_, _, rfl⟩, s7T.trans (s8.trans (s8b.trans (sc.trans sd)))⟩
    · obtain ⟨⟨y5, y6, rfl⟩, sm⟩ := p
      walk_at "g"
      have r2f : Rp M H' (.ref a2) s.enc := r2.sx (Sx.same (s27.trans sm))
      have hMf := hM7.gr (Gr.same sm)
      have gt := (subs_gds hd hc ho).tup
      have hsht := gt.shaped (by omega)
      refine ⟨_, s, M, rfl, r2f, hMf, hd, by omega, fun v8 H8 d8 s8 r8 e8 => ?_⟩
      subst e8
      walk_at "g"
      refine ⟨_, _, Rp.dp (K := K) _ _ r8, Rp.dp (K := K) _ _ (r3.sx (Sx.same (s37.trans (sm.trans s8)))), hsht, hsht, ?_⟩
      rw [gt.refl]
      walk_at "g"
      refine ⟨_, s, M, rfl, r2f.sx (Sx.same s8), hMf.gr (Gr.same s8), hd, fun H9 s9 => ?_⟩
      walk_at "g"
      rw [decide_eq_true rfl]
      exact q _ (s1.trans (s17.trans (sm.trans (s8.trans s9))))
end
end D

namespace D
open PySem PySem.Spec PyProof.Rows L2
local macro_rules | `(tactic| walk_at "st") => `(tactic| first | exact SqT.of (by assumption) | exact Or.inl (by assumption) | exact SqT.of upd_same | fail "st")
local macro_rules | `(tactic| walk_at "ixt") => `(tactic| refine ⟨_, _, _, _, rfl, rfl, (by walk_at "st" : SqT _ _ _ _), by rfl, ?_⟩)
local macro_rules | `(tactic| walk_at "sq") => `(tactic| first | exact SqL.of (by assumption) | assumption | exact Or.inl (by assumption) | exact SqL.of upd_same | fail "sq")
local macro_rules | `(tactic| walk_at "ix") => `(tactic| refine ⟨_, _, _, _, rfl, rfl, (by walk_at "sq" : SqL _ _ _ _), by rfl, ?_⟩)
local macro_rules | `(tactic| walk_at "set") => `(tactic| refine ⟨_, _, _, _, rfl, rfl, by first | assumption | exact upd_same, by rfl, ?_⟩)
local macro_rules | `(tactic| walk_at "len") => `(tactic| refine ⟨_, _, rfl, Or.inl (by walk_at "sq" : SqL _ _ _ _), ?_⟩)
local macro_rules | `(tactic| walk_at "g") => `(tactic| repeat (first | refine ⟨_, rfl, ?_⟩ | refine ⟨_, _, rfl, rfl, ?_⟩ | refine ⟨Or.inr (by decide), ?_⟩ | refine ⟨Or.inl (by decide), ?_⟩ | refine ⟨(by decide : (0 : Int) < _), ?_⟩ | refine ⟨(⟨by decide, by decide⟩ : CDiv _ _), ?_⟩ | refine ⟨(⟨by decide, by decide, by decide⟩ : CPow _ _), ?_⟩ | refine Or.inl ⟨_, rfl, ?_⟩ | refine ⟨rfl, ?_⟩ | walk_at "ix" | walk_at "ixt" | walk_at "len" | fail "g"))
local macro_rules | `(tactic| walk_at "if") => `(tactic| refine ite2 (fun e => ?_) (fun e => ?_))
section
variable {P : Program} {w : World} {K : PySem.W.Frag} {mg : Str → Option Value} {base : Heap}
theorem RpAll.memD {M : Ms} {H : Hp} : ∀ {xs : List V} {ds : List PyData}, RpAll M H xs ds → ∀ v ∈ xs, ∃ d ∈ ds, Rp M H v d
  | _, _, .nil, v, h => (nomatch h)
  | _, _, .cons h1 h2, v, h => by
    rcases List.mem_cons.mp h with rfl | h
    · exact ⟨_, List.mem_cons_self, h1⟩
    · obtain ⟨d, hd, r⟩ := RpAll.memD h2 v h
      exact ⟨d, List.mem_cons_of_mem _ hd, r⟩
def sp_unch (K : PySem.W.Frag) : Sp := fun vs H Q _ => ∃ (b o : Addr) (xs : List V) (ds : List PyData) (M : Ms), vs = [.ref b, .ref o] ∧ Bag K M H b ∧ Mk M H ∧ H o = some (.lst xs) ∧ o ≠ b ∧ RpAll M H xs ds ∧ (∀ d ∈ ds, Gd 100 3 d) ∧ 1 ≤ xs.length ∧ xs.length < 1000000 ∧ ∀ H', Q (.bl true) H'
theorem ok_unch (T : Txt K mg) : FnOk P w K mg base CX0 4 T.f__law_unchecked T.d__law_unchecked ["_law_bag_here", "_law_odd"] (sp_unch K) := by
  have G__law_choice := ok_choice (P := P) (w := w) (base := base) T
  have G_text_shape := ok_text_shape (P := P) (w := w) (base := base) T
  have G_button_shape := ok_button_shape (P := P) (w := w) (base := base) T
  have G_when_shape := ok_when_shape (P := P) (w := w) (base := base) T
  have R_put_shape := ok_put_shape (P := P) (w := w) (base := base) T
  have R_each_shape := ok_each_shape (P := P) (w := w) (base := base) T
  have R_row_shape := ok_row_shape (P := P) (w := w) (base := base) T
  have R_col_shape := ok_col_shape (P := P) (w := w) (base := base) T
  refine T.F__law_unchecked.ok sc__law_unchecked (fun vs H Q E h => ?_) (fun cdv A outer s H vs Q E hr h => ?_)
  · obtain ⟨_, _, _, _, _, rfl, _⟩ := h
    rfl
  · obtain ⟨b, o, xs, ds, M, rfl, hB, hM, ho, ob, rx, hg, l1, l2, q⟩ := h
    refine ⟨_, (pss_cons (ps_set (i := 2) sc__law_unchecked.nd rfl (Or.inl rfl) (pe_call G__law_choice (hr.mono (by omega)) (by rfl) T.g__law_choice T.F__law_choice.kp T.b__law_choice .nil pass0 (pa_cons (pv 0) (pa_cons (pv 1) pa_nil))))
      (pss_cons (ps_set (i := 3) sc__law_unchecked.nd rfl (Or.inl rfl) (pe_call G__law_choice (hr.mono (by omega)) (by rfl) T.g__law_choice T.F__law_choice.kp T.b__law_choice .nil pass0 (pa_cons (pv 0) (pa_cons (pv 1) pa_nil))))
      (pss_cons (ps_set (i := 4) sc__law_unchecked.nd rfl (Or.inl rfl) (pe_call G__law_choice (hr.mono (by omega)) (by rfl) T.g__law_choice T.F__law_choice.kp T.b__law_choice .nil pass0 (pa_cons (pv 0) (pa_cons (pv 1) pa_nil))))
      (pss_cons (ps_if (PW.pt (pw_or (pt_cmpR (op_neDK (K := K) rfl hr.units) (pe_call G_text_shape (hr.mono (by omega)) (by rfl) T.g_text_shape T.F_text_shape.kp T.b_text_shape .nil pass0 (pa_cons (pv 2) pa_nil)) (pe_tup (pa_cons pe_str (pa_cons (pv 2) pa_nil))) (nomark _)) (pw_or1 (pt_cmpR (op_neDK (K := K) rfl hr.units) (pe_call G_button_shape (hr.mono (by omega)) (by rfl) T.g_button_shape T.F_button_shape.kp T.b_button_shape .nil pass0 (pa_cons (pv 3) pa_nil)) (pe_tup (pa_cons pe_str (pa_cons (pv 3) pa_nil))) (nomark _))))) (pss_one (ps_ret pe_bl)) pss_nil)
      (pss_cons (ps_if (pt_cmpR (op_neDK (K := K) rfl hr.units) (pe_call G_when_shape (hr.mono (by omega)) (by rfl) T.g_when_shape T.F_when_shape.kp T.b_when_shape .nil pass0 (pa_cons (pv 2) (pa_cons (pv 3) (pa_cons (pv 4) pa_nil)))) (pe_tup (pa_cons pe_str (pa_cons (pv 2) (pa_cons (pv 3) (pa_cons (pv 4) pa_nil))))) (nomark _)) (pss_one (ps_ret pe_bl)) pss_nil)
      (pss_cons (ps_if (pt_cmpR (op_neDK (K := K) rfl hr.units) (pe_callR R_put_shape (hr.mono (by omega)) (by rfl) T.g_put_shape T.F_put_shape.kp pass0 (pa_cons (pv 2) (pa_cons (pv 3) (pa_cons (pv 4) pa_nil)))) (pe_tup (pa_cons pe_str (pa_cons (pv 2) (pa_cons (pe_tup (pa_cons (pv 3) (pa_cons (pv 4) pa_nil))) pa_nil)))) (nomark _)) (pss_one (ps_ret pe_bl)) pss_nil)
      (pss_cons (ps_if (pt_cmpR (op_neDK (K := K) rfl hr.units) (pe_callR R_each_shape (hr.mono (by omega)) (by rfl) T.g_each_shape T.F_each_shape.kp pass0 (pa_cons (pv 4) (pa_cons (pv 3) (pa_cons (pv 2) (pa_cons (pv 3) (pa_cons (pv 4) pa_nil)))))) (pe_tup (pa_cons pe_str (pa_cons (pv 4) (pa_cons (pv 3) (pa_cons (pv 2) (pa_cons (pv 3) (pa_cons (pe_tup (pa_cons (pv 4) pa_nil)) pa_nil))))))) (nomark _)) (pss_one (ps_ret pe_bl)) pss_nil)
      (pss_one (ps_ret (pe_and (pe_cmpR (op_eqDK (K := K) rfl hr.units) (pe_callR R_row_shape (hr.mono (by omega)) (by rfl) T.g_row_shape T.F_row_shape.kp pass0 (pa_cons (pv 2) (pa_cons (pv 4) pa_nil))) (pe_tup (pa_cons pe_str (pa_cons (pe_tup (pa_cons (pv 2) (pa_cons (pv 4) pa_nil))) pa_nil))) (nomark _)) (pe_one (pe_cmpR (op_eqDK (K := K) rfl hr.units) (pe_callR R_col_shape (hr.mono (by omega)) (by rfl) T.g_col_shape T.F_col_shape.kp pass0 (pa_cons (pv 3) pa_nil)) (pe_tup (pa_cons pe_str (pa_cons (pe_tup (pa_cons (pv 3) pa_nil)) pa_nil))) (nomark _))))))))))))), ?_⟩
    have mb := hB.w
    walk_at "g"
    refine ⟨b, o, xs, M, rfl, hB, SqL.of ho, ob, l1, l2, fun v1 H1 m1 hA1 hB1 => ?_⟩
    obtain ⟨d1, hd1, r1⟩ := rx.memD v1 m1
    have ho1 := hA1.sx _ _ (show ¬ one b o from ob) ho
    walk_at "g"
    refine ⟨b, o, xs, M, rfl, hB1, SqL.of ho1, ob, l1, l2, fun v2 H2 m2 hA2 hB2 => ?_⟩
    obtain ⟨d2, hd2, r2⟩ := rx.memD v2 m2
    have ho2 := hA2.sx _ _ (show ¬ one b o from ob) ho1
    walk_at "g"
    refine ⟨b, o, xs, M, rfl, hB2, SqL.of ho2, ob, l1, l2, fun v3 H3 m3 hA3 hB3 => ?_⟩
    obtain ⟨d3, hd3, r3⟩ := rx.memD v3 m3
    have s3 : Sx M H H3 := (hA1.sx.trans (hA2.sx.trans hA3.sx)).le (one_le mb)
    have hM3 := ((hM.gr (At.gr hA1 hB1.there)).gr (At.gr hA2 hB2.there)).gr (At.gr hA3 hB3.there)
    have r1 := r1.sx s3
    have r2 := r2.sx s3
    have r3 := r3.sx s3
    have g1 := hg _ hd1
    have g2 := hg _ hd2
    have g3 := hg _ hd3
    clear hg rx m1 m2 m3 hd1 hd2 hd3 hA1 hA2 hA3 hB1 hB2 hB3 ho ho1 ho2 s3 hB hM
    have K1 : ∀ {H' v d}, Same H3 H' → Rp M H3 v d → Rp M H' v d := fun s r => r.sx (Sx.same s)
    have KM : ∀ {H'}, Same H3 H' → Mk M H' := fun s => hM3.gr (Gr.same s)
    walk_at "g"
    refine ⟨v1, d1, M, rfl, r1, hM3, fun w4 H4 e4 s4 q4 z4 => ?_⟩
    subst z4
    walk_at "g"
    refine ⟨szK rfl, fun p5 hp5 => ?_⟩
    have t5 : Same H4 (upd H4 p5 (.tup [.str (Str.ofString "text"), v1])) := same_new hp5
    have u5 : Rp M (upd H4 p5 (.tup [.str (Str.ofString "text"), v1])) (.ref p5) (.tuple [.str sText, d1]) := Rp.newT (KM s4) hp5 (.cons (.str _) (.one (K1 s4 r1)))
    generalize upd H4 p5 (.tup [.str (Str.ofString "text"), v1]) = H5 at t5 u5
    have s5 := s4.trans t5
    have ga := ((GdAll.nil.cons g1).cons (gstr "text" 10 (by decide +kernel) (by decide +kernel)).up).tup
    have sa := ga.shaped (by omega)
    walk_at "g"
    refine ⟨_, _, Rp.dp (K := K) _ _ (q4.sx (Sx.same t5)), Rp.dp (K := K) _ _ u5, sa, sa, ?_⟩
    have ea := ga.refl
    rw [show PyData.eqv (.tuple [.str sText, d1]) (.tuple [.str sText, d1]) = true from ea]
    walk_at "g"
    refine ⟨v2, d2, M, rfl, K1 s5 r2, KM s5, fun w6 H6 e6 s6 q6 z6 => ?_⟩
    subst z6
    have s6' := s5.trans s6
    walk_at "g"
    refine ⟨szK rfl, fun p7 hp7 => ?_⟩
    have t7 : Same H6 (upd H6 p7 (.tup [.str (Str.ofString "button"), v2])) := same_new hp7
    have u7 : Rp M (upd H6 p7 (.tup [.str (Str.ofString "button"), v2])) (.ref p7) (.tuple [.str sButton, d2]) := Rp.newT (KM s6') hp7 (.cons (.str _) (.one (K1 s6' r2)))
    generalize upd H6 p7 (.tup [.str (Str.ofString "button"), v2]) = H7 at t7 u7
    have s7 := s6'.trans t7
    have gb := ((GdAll.nil.cons g2).cons (gstr "button" 10 (by decide +kernel) (by decide +kernel)).up).tup
    have sb := gb.shaped (by omega)
    walk_at "g"
    refine ⟨_, _, Rp.dp (K := K) _ _ (q6.sx (Sx.same t7)), Rp.dp (K := K) _ _ u7, sb, sb, ?_⟩
    have eb := gb.refl
    rw [show PyData.eqv (.tuple [.str sButton, d2]) (.tuple [.str sButton, d2]) = true from eb]
    walk_at "g"
    refine ⟨v1, v2, v3, d1, d2, d3, M, rfl, K1 s7 r1, K1 s7 r2, K1 s7 r3, KM s7, fun w8 H8 e8 s8 q8 z8 => ?_⟩
    subst z8
    have s8' := s7.trans s8
    walk_at "g"
    refine ⟨szK rfl, fun p9 hp9 => ?_⟩
    have t9 : Same H8 (upd H8 p9 (.tup [.str (Str.ofString "when"), v1, v2, v3])) := same_new hp9
    have u9 : Rp M (upd H8 p9 (.tup [.str (Str.ofString "when"), v1, v2, v3])) (.ref p9) (.tuple [.str sWhen, d1, d2, d3]) := Rp.newT (KM s8') hp9 (.cons (.str _) (.cons (K1 s8' r1) (.cons (K1 s8' r2) (.one (K1 s8' r3)))))
    generalize upd H8 p9 (.tup [.str (Str.ofString "when"), v1, v2, v3]) = H9 at t9 u9
    have s9 := s8'.trans t9
    have gc := ((((GdAll.nil.cons g3).cons g2).cons g1).cons (gstr "when" 10 (by decide +kernel) (by decide +kernel)).up).tup
    have sc := gc.shaped (by omega)
    walk_at "g"
    refine ⟨_, _, Rp.dp (K := K) _ _ (q8.sx (Sx.same t9)), Rp.dp (K := K) _ _ u9, sc, sc, ?_⟩
    have ec := gc.refl
    rw [show PyData.eqv (.tuple [.str sWhen, d1, d2, d3]) (.tuple [.str sWhen, d1, d2, d3]) = true from ec]
    walk_at "g"
    refine star_put (KM s9) (show 2 ≤ 1000 by omega) (K1 s9 r1) (.cons (K1 s9 r2) (.one (K1 s9 r3))) fun wA HA eA sA qA zA => ?_
    subst zA
    have sA' := s9.trans sA
    walk_at "g"
    refine ⟨szK rfl, fun pB hpB => ?_⟩
    have tB : Same HA (upd HA pB (.tup [v2, v3])) := same_new hpB
    have uB : Rp M (upd HA pB (.tup [v2, v3])) (.ref pB) (.tuple [d2, d3]) := Rp.newT (KM sA') hpB (.cons (K1 sA' r2) (.one (K1 sA' r3)))
    generalize upd HA pB (.tup [v2, v3]) = HB at tB uB
    have sB := sA'.trans tB
    refine ⟨szK rfl, fun pC hpC => ?_⟩
    have tC : Same HB (upd HB pC (.tup [.str (Str.ofString "put"), v1, .ref pB])) := same_new hpC
    have uC : Rp M (upd HB pC (.tup [.str (Str.ofString "put"), v1, .ref pB])) (.ref pC) (.tuple [.str sPut, d1, .tuple [d2, d3]]) := Rp.newT (KM sB) hpC (.cons (.str _) (.cons (K1 sB r1) (.one uB)))
    generalize upd HB pC (.tup [.str (Str.ofString "put"), v1, .ref pB]) = HC at tC uC
    have sC := sB.trans tC
    have gd0 := ((GdAll.nil.cons g3).cons g2).tup
    have gd := (((GdAll.nil.cons gd0).cons (g1.le (Nat.le_refl _) (by omega))).cons (gstr "put" 10 (by decide +kernel) (by decide +kernel)).up).tup
    have sd := gd.shaped (by omega)
    walk_at "g"
    refine ⟨_, _, Rp.dp (K := K) _ _ (qA.sx (Sx.same (tB.trans tC))), Rp.dp (K := K) _ _ uC, sd, sd, ?_⟩
    have ed := gd.refl
    rw [show PyData.eqv (.tuple [.str sPut, d1, .tuple [d2, d3]]) (.tuple [.str sPut, d1, .tuple [d2, d3]]) = true from ed]
    walk_at "g"
    refine star_each (KM sC) (show 1 ≤ 1000 by omega) (K1 sC r3) (K1 sC r2) (K1 sC r1) (K1 sC r2) (.one (K1 sC r3)) fun wD HD eD sD qD zD => ?_
    subst zD
    have sD' := sC.trans sD
    walk_at "g"
    refine ⟨szK rfl, fun pE hpE => ?_⟩
    have tE : Same HD (upd HD pE (.tup [v3])) := same_new hpE
    have uE : Rp M (upd HD pE (.tup [v3])) (.ref pE) (.tuple [d3]) := Rp.newT (KM sD') hpE (.one (K1 sD' r3))
    generalize upd HD pE (.tup [v3]) = HE at tE uE
    have sE := sD'.trans tE
    refine ⟨szK rfl, fun pF hpF => ?_⟩
    have tF : Same HE (upd HE pF (.tup [.str (Str.ofString "each"), v3, v2, v1, v2, .ref pE])) := same_new hpF
    have uF : Rp M (upd HE pF (.tup [.str (Str.ofString "each"), v3, v2, v1, v2, .ref pE])) (.ref pF) (.tuple [.str sEach, d3, d2, d1, d2, .tuple [d3]]) := Rp.newT (KM sE) hpF (.cons (.str _) (.cons (K1 sE r3) (.cons (K1 sE r2) (.cons (K1 sE r1) (.cons (K1 sE r2) (.one uE))))))
    generalize upd HE pF (.tup [.str (Str.ofString "each"), v3, v2, v1, v2, .ref pE]) = HF at tF uF
    have sF := sE.trans tF
    have ge0 := (GdAll.nil.cons g3).tup
    have ge := ((((((GdAll.nil.cons ge0).cons (g2.le (Nat.le_refl _) (by omega))).cons (g1.le (Nat.le_refl _) (by omega))).cons (g2.le (Nat.le_refl _) (by omega))).cons (g3.le (Nat.le_refl _) (by omega))).cons (gstr "each" 10 (by decide +kernel) (by decide +kernel)).up).tup
    have se := ge.shaped (by omega)
    walk_at "g"
    refine ⟨_, _, Rp.dp (K := K) _ _ (qD.sx (Sx.same (tE.trans tF))), Rp.dp (K := K) _ _ uF, se, se, ?_⟩
    have ee := ge.refl
    rw [show PyData.eqv (.tuple [.str sEach, d3, d2, d1, d2, .tuple [d3]]) (.tuple [.str sEach, d3, d2, d1, d2, .tuple [d3]]) = true from ee]
    walk_at "g"
    refine star_row (KM sF) (show 2 ≤ 1000 by omega) (.cons (K1 sF r1) (.one (K1 sF r3))) fun wG HG eG sG qG zG => ?_
    subst zG
    have sG' := sF.trans sG
    walk_at "g"
    refine ⟨szK rfl, fun pH hpH => ?_⟩
    have tH : Same HG (upd HG pH (.tup [v1, v3])) := same_new hpH
    have uH : Rp M (upd HG pH (.tup [v1, v3])) (.ref pH) (.tuple [d1, d3]) := Rp.newT (KM sG') hpH (.cons (K1 sG' r1) (.one (K1 sG' r3)))
    generalize upd HG pH (.tup [v1, v3]) = HH at tH uH
    have sH := sG'.trans tH
    refine ⟨szK rfl, fun pI hpI => ?_⟩
    have tI : Same HH (upd HH pI (.tup [.str (Str.ofString "row"), .ref pH])) := same_new hpI
    have uI : Rp M (upd HH pI (.tup [.str (Str.ofString "row"), .ref pH])) (.ref pI) (.tuple [.str (sLine true), .tuple [d1, d3]]) := Rp.newT (KM sH) hpI (.cons (.str _) (.one uH))
    generalize upd HH pI (.tup [.str (Str.ofString "row"), .ref pH]) = HI at tI uI
    have sI := sH.trans tI
    have gf0 := ((GdAll.nil.cons g3).cons g1).tup
    have gf : Gd _ _ (.tuple [.str (sLine true), .tuple [d1, d3]]) := ((GdAll.nil.cons gf0).cons (gstr "row" 10 (by decide +kernel) (by decide +kernel)).up).tup
    have sf := gf.shaped (by omega)
    walk_at "g"
    refine ⟨_, _, Rp.dp (K := K) _ _ (qG.sx (Sx.same (tH.trans tI))), Rp.dp (K := K) _ _ uI, sf, sf, ?_⟩
    rw [gf.refl]
    walk_at "g"
    refine star_row (KM sI) (show 1 ≤ 1000 by omega) (.one (K1 sI r2)) fun wJ HJ eJ sJ qJ zJ => ?_
    subst zJ
    have sJ' := sI.trans sJ
    walk_at "g"
    refine ⟨szK rfl, fun pK hpK => ?_⟩
    have tK : Same HJ (upd HJ pK (.tup [v2])) := same_new hpK
    have uK : Rp M (upd HJ pK (.tup [v2])) (.ref pK) (.tuple [d2]) := Rp.newT (KM sJ') hpK (.one (K1 sJ' r2))
    generalize upd HJ pK (.tup [v2]) = HK at tK uK
    have sK := sJ'.trans tK
    refine ⟨szK rfl, fun pL hpL => ?_⟩
    have tL : Same HK (upd HK pL (.tup [.str (Str.ofString "col"), .ref pK])) := same_new hpL
    have uL : Rp M (upd HK pL (.tup [.str (Str.ofString "col"), .ref pK])) (.ref pL) (.tuple [.str (sLine false), .tuple [d2]]) := Rp.newT (KM sK) hpL (.cons (.str _) (.one uK))
    generalize upd HK pL (.tup [.str (Str.ofString "col"), .ref pK]) = HL at tL uL
    have gg0 := (GdAll.nil.cons g2).tup
    have gg : Gd _ _ (.tuple [.str (sLine false), .tuple [d2]]) := ((GdAll.nil.cons gg0).cons (gstr "col" 10 (by decide +kernel) (by decide +kernel)).up).tup
    have sg := gg.shaped (by omega)
    walk_at "g"
    refine ⟨_, _, Rp.dp (K := K) _ _ (qJ.sx (Sx.same (tK.trans tL))), Rp.dp (K := K) _ _ uL, sg, sg, ?_⟩
    rw [gg.refl]
    exact q _
end
end D

namespace D
open PySem PySem.Spec PyProof.Rows L2
local macro_rules | `(tactic| walk_at "st") => `(tactic| first | exact SqT.of (by assumption) | exact Or.inl (by assumption) | exact SqT.of upd_same | fail "st")
local macro_rules | `(tactic| walk_at "ixt") => `(tactic| refine ⟨_, _, _, _, rfl, rfl, (by walk_at "st" : SqT _ _ _ _), by rfl, ?_⟩)
local macro_rules | `(tactic| walk_at "sq") => `(tactic| first | exact SqL.of (by assumption) | assumption | exact Or.inl (by assumption) | exact SqL.of upd_same | fail "sq")
local macro_rules | `(tactic| walk_at "ix") => `(tactic| refine ⟨_, _, _, _, rfl, rfl, (by walk_at "sq" : SqL _ _ _ _), by rfl, ?_⟩)
local macro_rules | `(tactic| walk_at "set") => `(tactic| refine ⟨_, _, _, _, rfl, rfl, by first | assumption | exact upd_same, by rfl, ?_⟩)
local macro_rules | `(tactic| walk_at "len") => `(tactic| refine ⟨_, _, rfl, Or.inl (by walk_at "sq" : SqL _ _ _ _), ?_⟩)
local macro_rules | `(tactic| walk_at "g") => `(tactic| repeat (first | refine ⟨_, rfl, ?_⟩ | refine ⟨_, _, rfl, rfl, ?_⟩ | refine ⟨Or.inr (by decide), ?_⟩ | refine ⟨Or.inl (by decide), ?_⟩ | refine ⟨(by decide : (0 : Int) < _), ?_⟩ | refine ⟨(⟨by decide, by decide⟩ : CDiv _ _), ?_⟩ | refine ⟨(⟨by decide, by decide, by decide⟩ : CPow _ _), ?_⟩ | refine Or.inl ⟨_, rfl, ?_⟩ | refine ⟨rfl, ?_⟩ | walk_at "ix" | walk_at "ixt" | walk_at "len" | fail "g"))
local macro_rules | `(tactic| walk_at "if") => `(tactic| refine ite2 (fun e => ?_) (fun e => ?_))
section
variable {P : Program} {w : World} {K : PySem.W.Frag} {mg : Str → Option Value} {base : Heap}
def sp_law (K : PySem.W.Frag) : Sp := fun vs H Q _ => ∃ (a : Addr) (ns : List Int), vs = [.ref a] ∧ SqL K H a (ns.map V.int) ∧ ns.length ≤ 63 ∧ ∀ H', Q (.bl true) H'
theorem idx4 {w i : Int} (h0 : 0 ≤ w) (h1 : w < 16) (i0 : 0 ≤ i) (i1 : i < 4) : ∃ k : Int, atI [V.int 15, .int 15, .int 8, .int w] i = some (.int k) ∧ 0 ≤ k ∧ k ≤ 15 := by
  have : i = 0 ∨ i = 1 ∨ i = 2 ∨ i = 3 := by omega
  rcases this with rfl | rfl | rfl | rfl
  · exact ⟨15, rfl, by omega, by omega⟩
  · exact ⟨15, rfl, by omega, by omega⟩
  · exact ⟨8, rfl, by omega, by omega⟩
  · exact ⟨w, rfl, by omega, by omega⟩
theorem okN_gd {z : Str} (h : okN z) : Gd 8 0 (.str z) := Gd.str (fun c hc => by
  have := h.2.2 c hc
  omega) (by rw [← sg_len]; exact h.2.1)
theorem ok_law (T : Txt K mg) : FnG P w K mg base CX0 14 T.f_law T.d_law ["_law_script"] (sp_law K) := by
  have G__law_bag := ok_bag (P := P) (w := w) (base := base) T
  have G__law_pick := ok_pick (P := P) (w := w) (base := base) T
  have G__law_new_name := ok_newname (P := P) (w := w) (base := base) T
  have G__law_grown := ok_grown (P := P) (w := w) (base := base) T 5 (Nat.le_refl _)
  have G__law_asked := ok_asked (P := P) (w := w) (base := base) T
  have G__law_unchecked := ok_unch (P := P) (w := w) (base := base) T
  refine Fun.okG T.F_law sc_law (fun vs H Q E h => ?_) (fun cdv A outer s H vs Q E gd hr h => ?_)
  · obtain ⟨_, _, rfl, _⟩ := h
    rfl
  · obtain ⟨a, ns, rfl, hS, hl, q⟩ := h
    refine ⟨_, (pss_cons (ps_set (i := 1) sc_law.nd rfl (Or.inr rfl) (pe_call G__law_bag (hr.mono (by omega)) (by rfl) T.g__law_bag T.F__law_bag.kp T.b__law_bag .nil pass0 (pa_cons (pv 0) pa_nil)))
      (pss_cons (ps_set (i := 2) sc_law.nd rfl (Or.inr rfl) (pe_lst pa_nil))
      (pss_cons (ps_for PassesOwn.never rfl (pi_range1 (by rfl) T.m_range (pa_cons pe_int pa_nil)) (pg_name (i := 3) sc_law.nd rfl (Or.inl rfl)) (pss_one (ps_expr (pe_call G__law_new_name (hr.mono (by omega)) (by rfl) T.g__law_new_name T.F__law_new_name.kp T.b__law_new_name .nil pass0 (pa_cons (pv 1) (pa_cons (pv 2) pa_nil))))))
      (pss_cons (ps_setLc (i := 4) (own := [("_law_step", 3)]) (g := gName 3) (tt := tYes) (by rfl) sc_law.nd rfl rfl (sw_true rfl rfl rfl (by decide +kernel)) (pi_range1 (by rfl) T.m_range (pa_cons pe_int pa_nil)) (blkOk_by (own := [("_law_step", 3)]) (N := ["_law_script", "_law_bag_here", "_law_used", "_law_step", "_law_readable", "_law_turn", "_law_left"]) (sc := defScope s_law) (by decide +kernel)) (fun _ _ _ _ _ => (pg_name (i := 3) sc_law.nd rfl (Or.inl rfl))) (fun _ _ _ _ _ => pts_nil) (fun _ _ _ _ _ => (pe_call G__law_new_name (hr.mono (by omega)) (by rfl) T.g__law_new_name T.F__law_new_name.kp T.b__law_new_name .nil pass0 (pa_cons (pv 1) (pa_cons (pv 2) pa_nil)))))
      (pss_cons (ps_for PassesOwn.never rfl (pi_range1 (by rfl) T.m_range (pa_cons pe_int pa_nil)) (pg_name (i := 5) sc_law.nd rfl (Or.inl rfl)) (pss_cons (ps_set (i := 6) sc_law.nd rfl (Or.inl rfl) (pe_lst (pa_cons (pe_ix (ix_listK (K := K) rfl) (pe_lst (pa_cons pe_int (pa_cons pe_int (pa_cons pe_int (pa_cons (pe_call G__law_pick (hr.mono (by omega)) (by rfl) T.g__law_pick T.F__law_pick.kp T.b__law_pick .nil pass0 (pa_cons (pv 1) (pa_cons pe_int pa_nil))) pa_nil))))) (pe_call G__law_pick (hr.mono (by omega)) (by rfl) T.g__law_pick T.F__law_pick.kp T.b__law_pick .nil pass0 (pa_cons (pv 1) (pa_cons pe_int pa_nil))) (fun _ _ => rfl)) pa_nil)))
      (pss_one (ps_if (pt_not (pt_val (pe_callG G__law_asked gd (hr.mono (by omega)) (by rfl) T.g__law_asked T.F__law_asked.kp T.b__law_asked pass0 (pa_cons (pe_call G__law_grown (hr.mono (by omega)) (by rfl) T.g__law_grown T.F__law_grown.kp T.b__law_grown .nil pass0 (pa_cons (pv 1) (pa_cons (pv 2) (pa_cons (pv 4) (pa_cons pe_int (pa_cons (pv 6) pa_nil)))))) pa_nil)))) (pss_one (ps_ret pe_bl)) pss_nil))))
      (pss_one (ps_ret (pe_call G__law_unchecked (hr.mono (by omega)) (by rfl) T.g__law_unchecked T.F__law_unchecked.kp T.b__law_unchecked .nil pass0 (pa_cons (pv 1) (pa_cons (pe_lst (pa_cons pe_non (pa_cons (pe_tup pa_nil) (pa_cons pe_str (pa_cons (pe_un un_neg pe_int) (pa_cons (pe_tup (pa_cons pe_str pa_nil)) (pa_cons (pe_tup (pa_cons pe_str (pa_cons pe_int pa_nil))) (pa_cons pe_str (pa_cons (pe_lst (pa_cons pe_int pa_nil)) (pa_cons (pe_ix (ix_listK (K := K) rfl) (pv 2) pe_int (fun _ _ => rfl)) pa_nil)))))))))) pa_nil)))))))))), ?_⟩
    walk_at "g"
    refine ⟨a, ns, rfl, hS, hl, fun b H1 s1 nb hB1 => ?_⟩
    walk_at "g"
    refine ⟨szK rfl, fun u hu => ?_⟩
    have ub : u ≠ b := fun z => hB1.there (by rw [← z]; exact hu)
    have eu1 : upd H1 u (.lst []) u = some (.lst []) := upd_same
    have hB2 : Bag K (also (one b) u) (upd H1 u (.lst [])) b := (hB1.more hu).same (same_new hu)
    have hM2 : Mk (also (one b) u) (upd H1 u (.lst [])) := fun c z => by
      rcases z with z | z
      · rw [show c = b from z]; exact hB2.there
      · rw [show c = u from z]; exact upd_there
    generalize upd H1 u (.lst []) = H2 at eu1 hB2 hM2
    walk_at "g"
    refine ⟨by decide, by decide, ?_⟩
    refine for_range (lo := 0) (n := 3) (fun i σ H' => (∃ y3 y4 y5 y6, σ = [some (.ref a), some (.ref b), some (.ref u), y3, y4, y5, y6]) ∧ Bag K (also (one b) u) H' b ∧ Mk (also (one b) u) H' ∧ ∃ ws : List Str, H' u = some (.lst (ws.map V.str)) ∧ ws.length = i ∧ ∀ z ∈ ws, okN z) ⟨⟨_, _, _, _, rfl⟩, hB2, hM2, [], eu1, rfl, fun z hz => (nomatch hz)⟩ (fun i σ H' hi p => ?_) (fun σ H' p => ?_)
    · obtain ⟨⟨y3, y4, y5, y6, rfl⟩, hB, hM, ws, eu, lw, hw⟩ := p
      walk_at "g"
      refine ⟨b, u, ws, _, rfl, hB, hM, .inr rfl, ub, eu, by omega, hw, fun H3 z s3 g3 hB3 eu3 okz nz => ?_⟩
      refine ⟨⟨_, _, _, _, rfl⟩, hB3, hM.gr g3, ws ++ [z], eu3, by rw [List.length_append, lw]; rfl, fun y hy => ?_⟩
      rcases List.mem_append.mp hy with z | z
      · exact hw y z
      · rw [List.mem_singleton.mp z]; exact okz
    obtain ⟨⟨y3, y4, y5, y6, rfl⟩, hB3, hM3, ws3, eu3, lw3, hw3⟩ := p
    walk_at "g"
    refine ⟨by decide, by decide, fun D hD => ?_⟩
    have Db : D ≠ b := fun z => hB3.there (by rw [← z]; exact hD)
    have Du : D ≠ u := fun z => by rw [z, eu3] at hD; cases hD
    refine rng_loop (lo := 0) (n := 2) (fun i H' => Bag K (also (also (one b) u) D) H' b ∧ Mk (also (also (one b) u) D) H' ∧ ∃ (ws zs : List Str), H' u = some (.lst (ws.map V.str)) ∧ ws.length = 3 + i ∧ (∀ z ∈ ws, okN z) ∧ H' D = some (.lst (zs.map V.str)) ∧ zs.length = i ∧ ∀ z ∈ zs, okN z) ⟨(hB3.more hD).same (same_new hD), (hM3.gr Gr.upd).also upd_there, ws3, [], (upd_ne (Ne.symm Du)).trans eu3, lw3, hw3, upd_same, rfl, fun z hz => (nomatch hz)⟩ (fun i H' hi p => ?_) (fun Hf p => ?_)
    · obtain ⟨hB, hM, ws, zs, eu, lw, hw, eD, lz, hz⟩ := p
      refine ⟨rfl, ?_⟩
      walk_at "g"
      refine ⟨b, u, ws, _, rfl, hB, hM, .inl (.inr rfl), ub, eu, by omega, hw, fun H4 z s4 g4 hB4 eu4 okz nz => ?_⟩
      have eD4 := s4 _ _ (fun z => z.elim Db Du) eD
      have lz2 : (zs.map V.str).length ≤ 1000 := by rw [List.length_map]; omega
      refine ⟨zs.map V.str, eD4, small1000 lz2, hB4.keep (N := one D) (Sx.put rfl) (Ne.symm Db) (one_le (.inr rfl)), (hM.gr g4).gr Gr.upd, ws ++ [z], zs ++ [z], (upd_ne (Ne.symm Du)).trans eu4, by rw [List.length_append, lw]; rfl, fun y hy => ?_, ?_, by rw [List.length_append, lz]; rfl, fun y hy => ?_⟩
      · rcases List.mem_append.mp hy with z | z
        · exact hw y z
        · rw [List.mem_singleton.mp z]; exact okz
      · rw [upd_same, List.map_append]
        rfl
      · rcases List.mem_append.mp hy with z | z
        · exact hz y z
        · rw [List.mem_singleton.mp z]; exact okz
    obtain ⟨hBf, hMf, ws, zs, euf, lw, hw, eDf, lz, hz⟩ := p
    have hBf := hBf.less (N := one b) rfl fun c z => .inl (.inl z)
    have mk : ∀ {H' : Hp}, Bag K (one b) H' b → Mk (one b) H' := fun h c z => by rw [show c = b from z]; exact h.there
    have okw : okW ws := ⟨by omega, by omega, fun z h => okN_gd (hw z h)⟩
    have okz : okW zs := ⟨by omega, by omega, fun z h => okN_gd (hz z h)⟩
    clear hB3 hM3 eu3 lw3 hw3 hMf hB1 hB2 hM2 eu1 hD
    walk_at "g"
    refine ⟨by decide, by decide, ?_⟩
    refine for_range (lo := 0) (n := 3) (fun i σ H' => (∃ y3 y5 y6, σ = [some (.ref a), some (.ref b), some (.ref u), y3, some (.ref D), y5, y6]) ∧ Bag K (one b) H' b ∧ H' u = some (.lst (ws.map V.str)) ∧ H' D = some (.lst (zs.map V.str))) ⟨⟨_, _, _, rfl⟩, hBf, euf, eDf⟩ (fun i σ H' hi p => ?_) (fun σ H' p => ?_)
    · obtain ⟨⟨y3, y5, y6, rfl⟩, hB, eu, eD⟩ := p
      walk_at "g"
      refine ⟨b, 16, one b, rfl, hB, by omega, by omega, fun w3 H3 a0 a1 hA3 hB3 => ?_⟩
      have eu3 := (hA3 u ub).trans eu
      have eD3 := (hA3 D Db).trans eD
      walk_at "g"
      refine ⟨szK rfl, fun p4 hp4 => ?_⟩
      have p4b : p4 ≠ b := fun z => hB3.there (by rw [← z]; exact hp4)
      have s4 : Same H3 (upd H3 p4 (.lst [.int 15, .int 15, .int 8, .int w3])) := same_new hp4
      have e4 : upd H3 p4 (.lst [.int 15, .int 15, .int 8, .int w3]) p4 = some (.lst [.int 15, .int 15, .int 8, .int w3]) := upd_same
      generalize upd H3 p4 (.lst [.int 15, .int 15, .int 8, .int w3]) = H4 at s4 e4
      have hB4 := hB3.same s4
      walk_at "g"
      refine ⟨b, 4, one b, rfl, hB4, by omega, by omega, fun w5 H5 b0 b1 hA5 hB5 => ?_⟩
      obtain ⟨k, hk, k0, k15⟩ := idx4 a0 a1 b0 b1
      have eu5 := (hA5 u ub).trans (s4 _ _ eu3)
      have eD5 := (hA5 D Db).trans (s4 _ _ eD3)
      walk_at "g"
      refine ⟨_, _, _, _, rfl, rfl, SqL.of ((hA5 p4 p4b).trans e4), hk, ?_⟩
      walk_at "g"
      refine ⟨szK rfl, fun l hl => ?_⟩
      have lb : l ≠ b := fun z => hB5.there (by rw [← z]; exact hl)
      have lu : u ≠ l := fun z => by rw [← z, eu5] at hl; cases hl
      have lD : D ≠ l := fun z => by rw [← z, eD5] at hl; cases hl
      have hB6 : Bag K (also (one b) l) (upd H5 l (.lst [.int k])) b := (hB5.more hl).same (same_new hl)
      have hM6 : Mk (also (one b) l) (upd H5 l (.lst [.int k])) := ((mk hB5).gr Gr.upd).also upd_there
      have s6 : Same H5 (upd H5 l (.lst [.int k])) := same_new hl
      have e6 : upd H5 l (.lst [.int k]) l = some (.lst [.int k]) := upd_same
      generalize upd H5 l (.lst [.int k]) = H6 at hB6 hM6 s6 e6
      have eu6 := s6 _ _ eu5
      have eD6 := s6 _ _ eD5
      have nu : ¬ also (one b) l u := fun z => z.elim ub lu
      have nD : ¬ also (one b) l D := fun z => z.elim Db lD
      walk_at "g"
      refine ⟨b, u, D, l, 1, k, ws, zs, _, rfl, rfl, by omega, hB6, hM6, nu, eu6, okw, nD, eD6, okz, by omega, .inr rfl, lb, e6, k0, k15, fun v H7 s7 k7 x7 g7 hB7 e7 k70 r7 o7 d7 c7 => ?_⟩
      walk_at "g"
      refine ⟨v, s7, _, rfl, r7, hM6.gr g7, o7, d7, by omega, fun H8 x8 => ?_⟩
      walk_at "g"
      exact ⟨⟨_, _, _, rfl⟩, (hB7.less (N := one b) rfl fun c z => .inl z).same x8, x8 _ _ (x7 _ _ nu eu6), x8 _ _ (x7 _ _ nD eD6)⟩
    obtain ⟨⟨y3, y5, y6, rfl⟩, hB, eu, eD⟩ := p
    obtain ⟨z0, wr, rfl⟩ : ∃ z0 wr, ws = z0 :: wr := by
      cases ws with
      | nil => simp at lw
      | cons x r => exact ⟨x, r, rfl⟩
    have gz := okN_gd (hw z0 List.mem_cons_self)
    walk_at "g"
    refine ⟨szK rfl, fun p1 hp1 => ?_⟩
    have mm := mk hB
    have n1 : ¬ one b p1 := mm.out hp1
    have t1 : Same H' (upd H' p1 (.tup [])) := same_new hp1
    have r1 : Rp (one b) (upd H' p1 (.tup [])) (.ref p1) (.tuple []) := Rp.newT mm hp1 .nil
    generalize upd H' p1 (.tup []) = H1' at t1 r1
    have m1 := mm.gr (Gr.same t1)
    walk_at "g"
    refine ⟨szK rfl, fun p2 hp2 => ?_⟩
    have t2 : Same H1' (upd H1' p2 (.tup [.str (Str.ofString "text")])) := same_new hp2
    have r2 : Rp (one b) (upd H1' p2 (.tup [.str (Str.ofString "text")])) (.ref p2) (.tuple [.str (Str.ofString "text")]) := Rp.newT m1 hp2 (.one (.str _))
    generalize upd H1' p2 (.tup [.str (Str.ofString "text")]) = H2' at t2 r2
    have m2 := m1.gr (Gr.same t2)
    walk_at "g"
    refine ⟨szK rfl, fun p3 hp3 => ?_⟩
    have t3 : Same H2' (upd H2' p3 (.tup [.str (Str.ofString "is"), .int 12])) := same_new hp3
    have r3 : Rp (one b) (upd H2' p3 (.tup [.str (Str.ofString "is"), .int 12])) (.ref p3) (.tuple [.str (Str.ofString "is"), .int 12]) := Rp.newT m2 hp3 (.cons (.str _) (.one (.int _)))
    generalize upd H2' p3 (.tup [.str (Str.ofString "is"), .int 12]) = H3' at t3 r3
    have m3 := m2.gr (Gr.same t3)
    walk_at "g"
    refine ⟨szK rfl, fun p4 hp4 => ?_⟩
    have t4 : Same H3' (upd H3' p4 (.lst [.int 5])) := same_new hp4
    have r4 : Rp (one b) (upd H3' p4 (.lst [.int 5])) (.ref p4) (.list [.int 5]) := Rp.newL m3 hp4 (.one (.int _))
    generalize upd H3' p4 (.lst [.int 5]) = H4' at t4 r4
    have m4 := m3.gr (Gr.same t4)
    have t14 := t1.trans (t2.trans (t3.trans t4))
    have eu4 := t14 _ _ eu
    walk_at "g"
    refine ⟨_, _, _, _, rfl, rfl, SqL.of eu4, atI_nat (j := 0) rfl, ?_⟩
    refine ⟨szK rfl, fun p5 hp5 => ?_⟩
    have t5 : Same H4' (upd H4' p5 (.lst [.non, .ref p1, .str (Str.ofString "Two words"), .int (-3), .ref p2, .ref p3, .str (Str.ofString ""), .ref p4, .str z0])) := same_new hp5
    have e5 : upd H4' p5 (.lst [.non, .ref p1, .str (Str.ofString "Two words"), .int (-3), .ref p2, .ref p3, .str (Str.ofString ""), .ref p4, .str z0]) p5 = some (.lst [.non, .ref p1, .str (Str.ofString "Two words"), .int (-3), .ref p2, .ref p3, .str (Str.ofString ""), .ref p4, .str z0]) := upd_same
    have m5 := m4.gr (Gr.same t5)
    have p5b : p5 ≠ b := fun z => m4.out hp5 z
    generalize upd H4' p5 (.lst [.non, .ref p1, .str (Str.ofString "Two words"), .int (-3), .ref p2, .ref p3, .str (Str.ofString ""), .ref p4, .str z0]) = H5' at t5 e5 m5
    have u5 := t4.trans t5
    have u4 := t3.trans u5
    have u3 := t2.trans u4
    refine ⟨b, p5, _, [.none, .tuple [], .str (Str.ofString "Two words"), .int (-3), .tuple [.str (Str.ofString "text")], .tuple [.str (Str.ofString "is"), .int 12], .str (Str.ofString ""), .list [.int 5], .str z0], one b, rfl, hB.same (t14.trans t5), m5, e5, p5b, ?_, fun d hd => ?_, by simp, by simp, q⟩
    · exact .cons .non (.cons (r1.sx (Sx.same u3)) (.cons (.str _) (.cons (.int _) (.cons (r2.sx (Sx.same u4)) (.cons (r3.sx (Sx.same u5)) (.cons (.str _) (.cons (r4.sx (Sx.same t5)) (.one (.str _)))))))))
    · have gt := gstr "text" 50 (by decide +kernel) (by decide +kernel)
      have gi := gstr "is" 50 (by decide +kernel) (by decide +kernel)
      have g2 := gstr "Two words" 50 (by decide +kernel) (by decide +kernel)
      have ge := gstr "" 50 (by decide +kernel) (by decide +kernel)
      simp only [List.mem_cons, List.not_mem_nil, or_false] at hd
      rcases hd with rfl | rfl | rfl | rfl | rfl | rfl | rfl | rfl | rfl
      · exact Gd.non.le (by omega) (by omega)
      · exact ((GdAll.nil (n := 0)).tup).le (by omega) (by omega)
      · exact g2.le (by omega) (by omega)
      · exact (Gd.int (by decide)).le (by omega) (by omega)
      · exact ((GdAll.nil.cons gt).tup).le (by omega) (by omega)
      · exact (((GdAll.nil.cons ((Gd.int (i := 12) (by decide)))).cons gi).tup).le (by omega) (by omega)
      · exact ge.le (by omega) (by omega)
      · exact ((GdAll.nil.cons (Gd.int (i := 5) (by decide))).lst).le (by omega) (by omega)
      · exact gz.le (by omega) (by omega)
end
end D

namespace D
open PySem PySem.Spec PyProof.Rows L2
theorem all_mk {l : PySem.W.OpenLaw} {w : World} {K : PySem.W.Frag} {h : Heap} {mg : Str → Option Value} {fa : Addr} {f_text_shape f_button_shape f_row_shape f_col_shape f_when_shape f_put_shape f_each_shape f_inner_shapes f_numbered f_levels f__law_mixed f__law_bag f__law_pick f__law_choice f__law_mingled f__law_number f__law_new_name f__law_parts f__law_numbered f__law_row f__law_simple f__law_leaf f__law_grown f__law_lined f__law_sown f__law_listed f__law_built f__law_high f__law_asked f__law_unchecked f_law : Addr} (X : K.In h) (G : h.Ns mainGlobals mg) (hfa : mg "law" = some (.ref fa))
    {od_text_shape an_text_shape : Option Addr} {sl_text_shape : Array (Option Value)} {oc_text_shape kV_text_shape dc_text_shape pm_text_shape cd_text_shape ct_text_shape : Value}
    (a_text_shape : PySem.W.nsIn K mainGlobals "text_shape" = some (some (.ref f_text_shape))) (l_text_shape : K.lookup f_text_shape = some ⟨oc_text_shape, od_text_shape, .func (PySem.W.fnOf "text_shape" "text_shape" (defArgs s_text_shape) (defBody s_text_shape) (defScope s_text_shape) .none kV_text_shape dc_text_shape pm_text_shape an_text_shape cd_text_shape ct_text_shape), sl_text_shape⟩) (c_text_shape : PySem.W.codeIn K cd_text_shape "text_shape" = true) (k_text_shape : PySem.W.keepIn K (.ref f_text_shape) = true)
    {od_button_shape an_button_shape : Option Addr} {sl_button_shape : Array (Option Value)} {oc_button_shape kV_button_shape dc_button_shape pm_button_shape cd_button_shape ct_button_shape : Value}
    (a_button_shape : PySem.W.nsIn K mainGlobals "button_shape" = some (some (.ref f_button_shape))) (l_button_shape : K.lookup f_button_shape = some ⟨oc_button_shape, od_button_shape, .func (PySem.W.fnOf "button_shape" "button_shape" (defArgs s_button_shape) (defBody s_button_shape) (defScope s_button_shape) .none kV_button_shape dc_button_shape pm_button_shape an_button_shape cd_button_shape ct_button_shape), sl_button_shape⟩) (c_button_shape : PySem.W.codeIn K cd_button_shape "button_shape" = true) (k_button_shape : PySem.W.keepIn K (.ref f_button_shape) = true)
    {od_row_shape an_row_shape : Option Addr} {sl_row_shape : Array (Option Value)} {oc_row_shape kV_row_shape dc_row_shape pm_row_shape cd_row_shape ct_row_shape : Value}
    (a_row_shape : PySem.W.nsIn K mainGlobals "row_shape" = some (some (.ref f_row_shape))) (l_row_shape : K.lookup f_row_shape = some ⟨oc_row_shape, od_row_shape, .func (PySem.W.fnOf "row_shape" "row_shape" (defArgs s_row_shape) (defBody s_row_shape) (defScope s_row_shape) .none kV_row_shape dc_row_shape pm_row_shape an_row_shape cd_row_shape ct_row_shape), sl_row_shape⟩) (c_row_shape : PySem.W.codeIn K cd_row_shape "row_shape" = true) (k_row_shape : PySem.W.keepIn K (.ref f_row_shape) = true)
    {od_col_shape an_col_shape : Option Addr} {sl_col_shape : Array (Option Value)} {oc_col_shape kV_col_shape dc_col_shape pm_col_shape cd_col_shape ct_col_shape : Value}
    (a_col_shape : PySem.W.nsIn K mainGlobals "col_shape" = some (some (.ref f_col_shape))) (l_col_shape : K.lookup f_col_shape = some ⟨oc_col_shape, od_col_shape, .func (PySem.W.fnOf "col_shape" "col_shape" (defArgs s_col_shape) (defBody s_col_shape) (defScope s_col_shape) .none kV_col_shape dc_col_shape pm_col_shape an_col_shape cd_col_shape ct_col_shape), sl_col_shape⟩) (c_col_shape : PySem.W.codeIn K cd_col_shape "col_shape" = true) (k_col_shape : PySem.W.keepIn K (.ref f_col_shape) = true)
    {od_when_shape an_when_shape : Option Addr} {sl_when_shape : Array (Option Value)} {oc_when_shape kV_when_shape dc_when_shape pm_when_shape cd_when_shape ct_when_shape : Value}
    (a_when_shape : PySem.W.nsIn K mainGlobals "when_shape" = some (some (.ref f_when_shape))) (l_when_shape : K.lookup f_when_shape = some ⟨oc_when_shape, od_when_shape, .func (PySem.W.fnOf "when_shape" "when_shape" (defArgs s_when_shape) (defBody s_when_shape) (defScope s_when_shape) .none kV_when_shape dc_when_shape pm_when_shape an_when_shape cd_when_shape ct_when_shape), sl_when_shape⟩) (c_when_shape : PySem.W.codeIn K cd_when_shape "when_shape" = true) (k_when_shape : PySem.W.keepIn K (.ref f_when_shape) = true)
    {od_put_shape an_put_shape : Option Addr} {sl_put_shape : Array (Option Value)} {oc_put_shape kV_put_shape dc_put_shape pm_put_shape cd_put_shape ct_put_shape : Value}
    (a_put_shape : PySem.W.nsIn K mainGlobals "put_shape" = some (some (.ref f_put_shape))) (l_put_shape : K.lookup f_put_shape = some ⟨oc_put_shape, od_put_shape, .func (PySem.W.fnOf "put_shape" "put_shape" (defArgs s_put_shape) (defBody s_put_shape) (defScope s_put_shape) .none kV_put_shape dc_put_shape pm_put_shape an_put_shape cd_put_shape ct_put_shape), sl_put_shape⟩) (c_put_shape : PySem.W.codeIn K cd_put_shape "put_shape" = true) (k_put_shape : PySem.W.keepIn K (.ref f_put_shape) = true)
    {od_each_shape an_each_shape : Option Addr} {sl_each_shape : Array (Option Value)} {oc_each_shape kV_each_shape dc_each_shape pm_each_shape cd_each_shape ct_each_shape : Value}
    (a_each_shape : PySem.W.nsIn K mainGlobals "each_shape" = some (some (.ref f_each_shape))) (l_each_shape : K.lookup f_each_shape = some ⟨oc_each_shape, od_each_shape, .func (PySem.W.fnOf "each_shape" "each_shape" (defArgs s_each_shape) (defBody s_each_shape) (defScope s_each_shape) .none kV_each_shape dc_each_shape pm_each_shape an_each_shape cd_each_shape ct_each_shape), sl_each_shape⟩) (c_each_shape : PySem.W.codeIn K cd_each_shape "each_shape" = true) (k_each_shape : PySem.W.keepIn K (.ref f_each_shape) = true)
    {od_inner_shapes an_inner_shapes : Option Addr} {sl_inner_shapes : Array (Option Value)} {oc_inner_shapes kV_inner_shapes dc_inner_shapes pm_inner_shapes cd_inner_shapes ct_inner_shapes : Value}
    (a_inner_shapes : PySem.W.nsIn K mainGlobals "inner_shapes" = some (some (.ref f_inner_shapes))) (l_inner_shapes : K.lookup f_inner_shapes = some ⟨oc_inner_shapes, od_inner_shapes, .func (PySem.W.fnOf "inner_shapes" "inner_shapes" (defArgs s_inner_shapes) (defBody s_inner_shapes) (defScope s_inner_shapes) .none kV_inner_shapes dc_inner_shapes pm_inner_shapes an_inner_shapes cd_inner_shapes ct_inner_shapes), sl_inner_shapes⟩) (c_inner_shapes : PySem.W.codeIn K cd_inner_shapes "inner_shapes" = true) (k_inner_shapes : PySem.W.keepIn K (.ref f_inner_shapes) = true)
    {od_numbered an_numbered : Option Addr} {sl_numbered : Array (Option Value)} {oc_numbered kV_numbered dc_numbered pm_numbered cd_numbered ct_numbered : Value}
    (a_numbered : PySem.W.nsIn K mainGlobals "numbered" = some (some (.ref f_numbered))) (l_numbered : K.lookup f_numbered = some ⟨oc_numbered, od_numbered, .func (PySem.W.fnOf "numbered" "numbered" (defArgs s_numbered) (defBody s_numbered) (defScope s_numbered) .none kV_numbered dc_numbered pm_numbered an_numbered cd_numbered ct_numbered), sl_numbered⟩) (c_numbered : PySem.W.codeIn K cd_numbered "numbered" = true) (k_numbered : PySem.W.keepIn K (.ref f_numbered) = true)
    {od_levels an_levels : Option Addr} {sl_levels : Array (Option Value)} {oc_levels kV_levels dc_levels pm_levels cd_levels ct_levels : Value}
    (a_levels : PySem.W.nsIn K mainGlobals "levels" = some (some (.ref f_levels))) (l_levels : K.lookup f_levels = some ⟨oc_levels, od_levels, .func (PySem.W.fnOf "levels" "levels" (defArgs s_levels) (defBody s_levels) (defScope s_levels) .none kV_levels dc_levels pm_levels an_levels cd_levels ct_levels), sl_levels⟩) (c_levels : PySem.W.codeIn K cd_levels "levels" = true) (k_levels : PySem.W.keepIn K (.ref f_levels) = true)
    {od__law_mixed an__law_mixed : Option Addr} {sl__law_mixed : Array (Option Value)} {oc__law_mixed kV__law_mixed dc__law_mixed pm__law_mixed cd__law_mixed ct__law_mixed : Value}
    (a__law_mixed : PySem.W.nsIn K mainGlobals "_law_mixed" = some (some (.ref f__law_mixed))) (l__law_mixed : K.lookup f__law_mixed = some ⟨oc__law_mixed, od__law_mixed, .func (PySem.W.fnOf "_law_mixed" "_law_mixed" (defArgs s__law_mixed) (defBody s__law_mixed) (defScope s__law_mixed) .none kV__law_mixed dc__law_mixed pm__law_mixed an__law_mixed cd__law_mixed ct__law_mixed), sl__law_mixed⟩) (c__law_mixed : PySem.W.codeIn K cd__law_mixed "_law_mixed" = true) (k__law_mixed : PySem.W.keepIn K (.ref f__law_mixed) = true)
    {od__law_bag an__law_bag : Option Addr} {sl__law_bag : Array (Option Value)} {oc__law_bag kV__law_bag dc__law_bag pm__law_bag cd__law_bag ct__law_bag : Value}
    (a__law_bag : PySem.W.nsIn K mainGlobals "_law_bag" = some (some (.ref f__law_bag))) (l__law_bag : K.lookup f__law_bag = some ⟨oc__law_bag, od__law_bag, .func (PySem.W.fnOf "_law_bag" "_law_bag" (defArgs s__law_bag) (defBody s__law_bag) (defScope s__law_bag) .none kV__law_bag dc__law_bag pm__law_bag an__law_bag cd__law_bag ct__law_bag), sl__law_bag⟩) (c__law_bag : PySem.W.codeIn K cd__law_bag "_law_bag" = true) (k__law_bag : PySem.W.keepIn K (.ref f__law_bag) = true)
    {od__law_pick an__law_pick : Option Addr} {sl__law_pick : Array (Option Value)} {oc__law_pick kV__law_pick dc__law_pick pm__law_pick cd__law_pick ct__law_pick : Value}
    (a__law_pick : PySem.W.nsIn K mainGlobals "_law_pick" = some (some (.ref f__law_pick))) (l__law_pick : K.lookup f__law_pick = some ⟨oc__law_pick, od__law_pick, .func (PySem.W.fnOf "_law_pick" "_law_pick" (defArgs s__law_pick) (defBody s__law_pick) (defScope s__law_pick) .none kV__law_pick dc__law_pick pm__law_pick an__law_pick cd__law_pick ct__law_pick), sl__law_pick⟩) (c__law_pick : PySem.W.codeIn K cd__law_pick "_law_pick" = true) (k__law_pick : PySem.W.keepIn K (.ref f__law_pick) = true)
    {od__law_choice an__law_choice : Option Addr} {sl__law_choice : Array (Option Value)} {oc__law_choice kV__law_choice dc__law_choice pm__law_choice cd__law_choice ct__law_choice : Value}
    (a__law_choice : PySem.W.nsIn K mainGlobals "_law_choice" = some (some (.ref f__law_choice))) (l__law_choice : K.lookup f__law_choice = some ⟨oc__law_choice, od__law_choice, .func (PySem.W.fnOf "_law_choice" "_law_choice" (defArgs s__law_choice) (defBody s__law_choice) (defScope s__law_choice) .none kV__law_choice dc__law_choice pm__law_choice an__law_choice cd__law_choice ct__law_choice), sl__law_choice⟩) (c__law_choice : PySem.W.codeIn K cd__law_choice "_law_choice" = true) (k__law_choice : PySem.W.keepIn K (.ref f__law_choice) = true)
    {od__law_mingled an__law_mingled : Option Addr} {sl__law_mingled : Array (Option Value)} {oc__law_mingled kV__law_mingled dc__law_mingled pm__law_mingled cd__law_mingled ct__law_mingled : Value}
    (a__law_mingled : PySem.W.nsIn K mainGlobals "_law_mingled" = some (some (.ref f__law_mingled))) (l__law_mingled : K.lookup f__law_mingled = some ⟨oc__law_mingled, od__law_mingled, .func (PySem.W.fnOf "_law_mingled" "_law_mingled" (defArgs s__law_mingled) (defBody s__law_mingled) (defScope s__law_mingled) .none kV__law_mingled dc__law_mingled pm__law_mingled an__law_mingled cd__law_mingled ct__law_mingled), sl__law_mingled⟩) (c__law_mingled : PySem.W.codeIn K cd__law_mingled "_law_mingled" = true) (k__law_mingled : PySem.W.keepIn K (.ref f__law_mingled) = true)
    {od__law_number an__law_number : Option Addr} {sl__law_number : Array (Option Value)} {oc__law_number kV__law_number dc__law_number pm__law_number cd__law_number ct__law_number : Value}
    (a__law_number : PySem.W.nsIn K mainGlobals "_law_number" = some (some (.ref f__law_number))) (l__law_number : K.lookup f__law_number = some ⟨oc__law_number, od__law_number, .func (PySem.W.fnOf "_law_number" "_law_number" (defArgs s__law_number) (defBody s__law_number) (defScope s__law_number) .none kV__law_number dc__law_number pm__law_number an__law_number cd__law_number ct__law_number), sl__law_number⟩) (c__law_number : PySem.W.codeIn K cd__law_number "_law_number" = true) (k__law_number : PySem.W.keepIn K (.ref f__law_number) = true)
    {od__law_new_name an__law_new_name : Option Addr} {sl__law_new_name : Array (Option Value)} {oc__law_new_name kV__law_new_name dc__law_new_name pm__law_new_name cd__law_new_name ct__law_new_name : Value}
    (a__law_new_name : PySem.W.nsIn K mainGlobals "_law_new_name" = some (some (.ref f__law_new_name))) (l__law_new_name : K.lookup f__law_new_name = some ⟨oc__law_new_name, od__law_new_name, .func (PySem.W.fnOf "_law_new_name" "_law_new_name" (defArgs s__law_new_name) (defBody s__law_new_name) (defScope s__law_new_name) .none kV__law_new_name dc__law_new_name pm__law_new_name an__law_new_name cd__law_new_name ct__law_new_name), sl__law_new_name⟩) (c__law_new_name : PySem.W.codeIn K cd__law_new_name "_law_new_name" = true) (k__law_new_name : PySem.W.keepIn K (.ref f__law_new_name) = true)
    {od__law_parts an__law_parts : Option Addr} {sl__law_parts : Array (Option Value)} {oc__law_parts kV__law_parts dc__law_parts pm__law_parts cd__law_parts ct__law_parts : Value}
    (a__law_parts : PySem.W.nsIn K mainGlobals "_law_parts" = some (some (.ref f__law_parts))) (l__law_parts : K.lookup f__law_parts = some ⟨oc__law_parts, od__law_parts, .func (PySem.W.fnOf "_law_parts" "_law_parts" (defArgs s__law_parts) (defBody s__law_parts) (defScope s__law_parts) .none kV__law_parts dc__law_parts pm__law_parts an__law_parts cd__law_parts ct__law_parts), sl__law_parts⟩) (c__law_parts : PySem.W.codeIn K cd__law_parts "_law_parts" = true) (k__law_parts : PySem.W.keepIn K (.ref f__law_parts) = true)
    {od__law_numbered an__law_numbered : Option Addr} {sl__law_numbered : Array (Option Value)} {oc__law_numbered kV__law_numbered dc__law_numbered pm__law_numbered cd__law_numbered ct__law_numbered : Value}
    (a__law_numbered : PySem.W.nsIn K mainGlobals "_law_numbered" = some (some (.ref f__law_numbered))) (l__law_numbered : K.lookup f__law_numbered = some ⟨oc__law_numbered, od__law_numbered, .func (PySem.W.fnOf "_law_numbered" "_law_numbered" (defArgs s__law_numbered) (defBody s__law_numbered) (defScope s__law_numbered) .none kV__law_numbered dc__law_numbered pm__law_numbered an__law_numbered cd__law_numbered ct__law_numbered), sl__law_numbered⟩) (c__law_numbered : PySem.W.codeIn K cd__law_numbered "_law_numbered" = true) (k__law_numbered : PySem.W.keepIn K (.ref f__law_numbered) = true)
    {od__law_row an__law_row : Option Addr} {sl__law_row : Array (Option Value)} {oc__law_row kV__law_row dc__law_row pm__law_row cd__law_row ct__law_row : Value}
    (a__law_row : PySem.W.nsIn K mainGlobals "_law_row" = some (some (.ref f__law_row))) (l__law_row : K.lookup f__law_row = some ⟨oc__law_row, od__law_row, .func (PySem.W.fnOf "_law_row" "_law_row" (defArgs s__law_row) (defBody s__law_row) (defScope s__law_row) .none kV__law_row dc__law_row pm__law_row an__law_row cd__law_row ct__law_row), sl__law_row⟩) (c__law_row : PySem.W.codeIn K cd__law_row "_law_row" = true) (k__law_row : PySem.W.keepIn K (.ref f__law_row) = true)
    {od__law_simple an__law_simple : Option Addr} {sl__law_simple : Array (Option Value)} {oc__law_simple kV__law_simple dc__law_simple pm__law_simple cd__law_simple ct__law_simple : Value}
    (a__law_simple : PySem.W.nsIn K mainGlobals "_law_simple" = some (some (.ref f__law_simple))) (l__law_simple : K.lookup f__law_simple = some ⟨oc__law_simple, od__law_simple, .func (PySem.W.fnOf "_law_simple" "_law_simple" (defArgs s__law_simple) (defBody s__law_simple) (defScope s__law_simple) .none kV__law_simple dc__law_simple pm__law_simple an__law_simple cd__law_simple ct__law_simple), sl__law_simple⟩) (c__law_simple : PySem.W.codeIn K cd__law_simple "_law_simple" = true) (k__law_simple : PySem.W.keepIn K (.ref f__law_simple) = true)
    {od__law_leaf an__law_leaf : Option Addr} {sl__law_leaf : Array (Option Value)} {oc__law_leaf kV__law_leaf dc__law_leaf pm__law_leaf cd__law_leaf ct__law_leaf : Value}
    (a__law_leaf : PySem.W.nsIn K mainGlobals "_law_leaf" = some (some (.ref f__law_leaf))) (l__law_leaf : K.lookup f__law_leaf = some ⟨oc__law_leaf, od__law_leaf, .func (PySem.W.fnOf "_law_leaf" "_law_leaf" (defArgs s__law_leaf) (defBody s__law_leaf) (defScope s__law_leaf) .none kV__law_leaf dc__law_leaf pm__law_leaf an__law_leaf cd__law_leaf ct__law_leaf), sl__law_leaf⟩) (c__law_leaf : PySem.W.codeIn K cd__law_leaf "_law_leaf" = true) (k__law_leaf : PySem.W.keepIn K (.ref f__law_leaf) = true)
    {od__law_grown an__law_grown : Option Addr} {sl__law_grown : Array (Option Value)} {oc__law_grown kV__law_grown dc__law_grown pm__law_grown cd__law_grown ct__law_grown : Value}
    (a__law_grown : PySem.W.nsIn K mainGlobals "_law_grown" = some (some (.ref f__law_grown))) (l__law_grown : K.lookup f__law_grown = some ⟨oc__law_grown, od__law_grown, .func (PySem.W.fnOf "_law_grown" "_law_grown" (defArgs s__law_grown) (defBody s__law_grown) (defScope s__law_grown) .none kV__law_grown dc__law_grown pm__law_grown an__law_grown cd__law_grown ct__law_grown), sl__law_grown⟩) (c__law_grown : PySem.W.codeIn K cd__law_grown "_law_grown" = true) (k__law_grown : PySem.W.keepIn K (.ref f__law_grown) = true)
    {od__law_lined an__law_lined : Option Addr} {sl__law_lined : Array (Option Value)} {oc__law_lined kV__law_lined dc__law_lined pm__law_lined cd__law_lined ct__law_lined : Value}
    (a__law_lined : PySem.W.nsIn K mainGlobals "_law_lined" = some (some (.ref f__law_lined))) (l__law_lined : K.lookup f__law_lined = some ⟨oc__law_lined, od__law_lined, .func (PySem.W.fnOf "_law_lined" "_law_lined" (defArgs s__law_lined) (defBody s__law_lined) (defScope s__law_lined) .none kV__law_lined dc__law_lined pm__law_lined an__law_lined cd__law_lined ct__law_lined), sl__law_lined⟩) (c__law_lined : PySem.W.codeIn K cd__law_lined "_law_lined" = true) (k__law_lined : PySem.W.keepIn K (.ref f__law_lined) = true)
    {od__law_sown an__law_sown : Option Addr} {sl__law_sown : Array (Option Value)} {oc__law_sown kV__law_sown dc__law_sown pm__law_sown cd__law_sown ct__law_sown : Value}
    (a__law_sown : PySem.W.nsIn K mainGlobals "_law_sown" = some (some (.ref f__law_sown))) (l__law_sown : K.lookup f__law_sown = some ⟨oc__law_sown, od__law_sown, .func (PySem.W.fnOf "_law_sown" "_law_sown" (defArgs s__law_sown) (defBody s__law_sown) (defScope s__law_sown) .none kV__law_sown dc__law_sown pm__law_sown an__law_sown cd__law_sown ct__law_sown), sl__law_sown⟩) (c__law_sown : PySem.W.codeIn K cd__law_sown "_law_sown" = true) (k__law_sown : PySem.W.keepIn K (.ref f__law_sown) = true)
    {od__law_listed an__law_listed : Option Addr} {sl__law_listed : Array (Option Value)} {oc__law_listed kV__law_listed dc__law_listed pm__law_listed cd__law_listed ct__law_listed : Value}
    (a__law_listed : PySem.W.nsIn K mainGlobals "_law_listed" = some (some (.ref f__law_listed))) (l__law_listed : K.lookup f__law_listed = some ⟨oc__law_listed, od__law_listed, .func (PySem.W.fnOf "_law_listed" "_law_listed" (defArgs s__law_listed) (defBody s__law_listed) (defScope s__law_listed) .none kV__law_listed dc__law_listed pm__law_listed an__law_listed cd__law_listed ct__law_listed), sl__law_listed⟩) (c__law_listed : PySem.W.codeIn K cd__law_listed "_law_listed" = true) (k__law_listed : PySem.W.keepIn K (.ref f__law_listed) = true)
    {od__law_built an__law_built : Option Addr} {sl__law_built : Array (Option Value)} {oc__law_built kV__law_built dc__law_built pm__law_built cd__law_built ct__law_built : Value}
    (a__law_built : PySem.W.nsIn K mainGlobals "_law_built" = some (some (.ref f__law_built))) (l__law_built : K.lookup f__law_built = some ⟨oc__law_built, od__law_built, .func (PySem.W.fnOf "_law_built" "_law_built" (defArgs s__law_built) (defBody s__law_built) (defScope s__law_built) .none kV__law_built dc__law_built pm__law_built an__law_built cd__law_built ct__law_built), sl__law_built⟩) (c__law_built : PySem.W.codeIn K cd__law_built "_law_built" = true) (k__law_built : PySem.W.keepIn K (.ref f__law_built) = true)
    {od__law_high an__law_high : Option Addr} {sl__law_high : Array (Option Value)} {oc__law_high kV__law_high dc__law_high pm__law_high cd__law_high ct__law_high : Value}
    (a__law_high : PySem.W.nsIn K mainGlobals "_law_high" = some (some (.ref f__law_high))) (l__law_high : K.lookup f__law_high = some ⟨oc__law_high, od__law_high, .func (PySem.W.fnOf "_law_high" "_law_high" (defArgs s__law_high) (defBody s__law_high) (defScope s__law_high) .none kV__law_high dc__law_high pm__law_high an__law_high cd__law_high ct__law_high), sl__law_high⟩) (c__law_high : PySem.W.codeIn K cd__law_high "_law_high" = true) (k__law_high : PySem.W.keepIn K (.ref f__law_high) = true)
    {od__law_asked an__law_asked : Option Addr} {sl__law_asked : Array (Option Value)} {oc__law_asked kV__law_asked dc__law_asked pm__law_asked cd__law_asked ct__law_asked : Value}
    (a__law_asked : PySem.W.nsIn K mainGlobals "_law_asked" = some (some (.ref f__law_asked))) (l__law_asked : K.lookup f__law_asked = some ⟨oc__law_asked, od__law_asked, .func (PySem.W.fnOf "_law_asked" "_law_asked" (defArgs s__law_asked) (defBody s__law_asked) (defScope s__law_asked) .none kV__law_asked dc__law_asked pm__law_asked an__law_asked cd__law_asked ct__law_asked), sl__law_asked⟩) (c__law_asked : PySem.W.codeIn K cd__law_asked "_law_asked" = true) (k__law_asked : PySem.W.keepIn K (.ref f__law_asked) = true)
    {od__law_unchecked an__law_unchecked : Option Addr} {sl__law_unchecked : Array (Option Value)} {oc__law_unchecked kV__law_unchecked dc__law_unchecked pm__law_unchecked cd__law_unchecked ct__law_unchecked : Value}
    (a__law_unchecked : PySem.W.nsIn K mainGlobals "_law_unchecked" = some (some (.ref f__law_unchecked))) (l__law_unchecked : K.lookup f__law_unchecked = some ⟨oc__law_unchecked, od__law_unchecked, .func (PySem.W.fnOf "_law_unchecked" "_law_unchecked" (defArgs s__law_unchecked) (defBody s__law_unchecked) (defScope s__law_unchecked) .none kV__law_unchecked dc__law_unchecked pm__law_unchecked an__law_unchecked cd__law_unchecked ct__law_unchecked), sl__law_unchecked⟩) (c__law_unchecked : PySem.W.codeIn K cd__law_unchecked "_law_unchecked" = true) (k__law_unchecked : PySem.W.keepIn K (.ref f__law_unchecked) = true)
    {od_law an_law : Option Addr} {sl_law : Array (Option Value)} {oc_law kV_law dc_law pm_law cd_law ct_law : Value}
    (a_law : PySem.W.nsIn K mainGlobals "law" = some (some (.ref f_law))) (l_law : K.lookup f_law = some ⟨oc_law, od_law, .func (PySem.W.fnOf "law" "law" (defArgs s_law) (defBody s_law) (defScope s_law) .none kV_law dc_law pm_law an_law cd_law ct_law), sl_law⟩) (c_law : PySem.W.codeIn K cd_law "law" = true) (k_law : PySem.W.keepIn K (.ref f_law) = true)
    (z_abs : PySem.W.nsIn K mainGlobals "abs" = some none)
    (z_bool : PySem.W.nsIn K mainGlobals "bool" = some none)
    (z_enumerate : PySem.W.nsIn K mainGlobals "enumerate" = some none)
    (z_int : PySem.W.nsIn K mainGlobals "int" = some none)
    (z_isinstance : PySem.W.nsIn K mainGlobals "isinstance" = some none)
    (z_len : PySem.W.nsIn K mainGlobals "len" = some none)
    (z_list : PySem.W.nsIn K mainGlobals "list" = some none)
    (z_min : PySem.W.nsIn K mainGlobals "min" = some none)
    (z_range : PySem.W.nsIn K mainGlobals "range" = some none)
    (z_repr : PySem.W.nsIn K mainGlobals "repr" = some none)
    (z_tuple : PySem.W.nsIn K mainGlobals "tuple" = some none) :
    ∃ fd : FuncData, (∀ (s : Shared) (v : Value), BindsTo s fd ⟨[v], []⟩ [("_law_script", v)]) ∧ ∀ base : Heap, K.In base → base.Ns mainGlobals mg → FnG l.prog w K mg base CX0 14 fa fd ["_law_script"] (sp_law K) := by
  have e := hfa.symm.trans (PySem.W.mg_of X G a_law)
  cases e
  let T : Txt K mg := { f_text_shape := f_text_shape, d_text_shape := _, F_text_shape := fun_mk (st := s_text_shape) l_text_shape c_text_shape k_text_shape, b_text_shape := (fun_mk (st := s_text_shape) l_text_shape c_text_shape k_text_shape).binds fun _ _ _ _ _ _ us hl => match us, hl with | [_], _ => rfl, g_text_shape := PySem.W.mg_of X G a_text_shape, f_button_shape := f_button_shape, d_button_shape := _, F_button_shape := fun_mk (st := s_button_shape) l_button_shape c_button_shape k_button_shape, b_button_shape := (fun_mk (st := s_button_shape) l_button_shape c_button_shape k_button_shape).binds fun _ _ _ _ _ _ us hl => match us, hl with | [_], _ => rfl, g_button_shape := PySem.W.mg_of X G a_button_shape, f_row_shape := f_row_shape, d_row_shape := _, F_row_shape := fun_mk (st := s_row_shape) l_row_shape c_row_shape k_row_shape, g_row_shape := PySem.W.mg_of X G a_row_shape, f_col_shape := f_col_shape, d_col_shape := _, F_col_shape := fun_mk (st := s_col_shape) l_col_shape c_col_shape k_col_shape, g_col_shape := PySem.W.mg_of X G a_col_shape, f_when_shape := f_when_shape, d_when_shape := _, F_when_shape := fun_mk (st := s_when_shape) l_when_shape c_when_shape k_when_shape, b_when_shape := (fun_mk (st := s_when_shape) l_when_shape c_when_shape k_when_shape).binds fun _ _ _ _ _ _ us hl => match us, hl with | [_, _, _], _ => rfl, g_when_shape := PySem.W.mg_of X G a_when_shape, f_put_shape := f_put_shape, d_put_shape := _, F_put_shape := fun_mk (st := s_put_shape) l_put_shape c_put_shape k_put_shape, g_put_shape := PySem.W.mg_of X G a_put_shape, f_each_shape := f_each_shape, d_each_shape := _, F_each_shape := fun_mk (st := s_each_shape) l_each_shape c_each_shape k_each_shape, g_each_shape := PySem.W.mg_of X G a_each_shape, f_inner_shapes := f_inner_shapes, d_inner_shapes := _, F_inner_shapes := fun_mk (st := s_inner_shapes) l_inner_shapes c_inner_shapes k_inner_shapes, b_inner_shapes := (fun_mk (st := s_inner_shapes) l_inner_shapes c_inner_shapes k_inner_shapes).binds fun _ _ _ _ _ _ us hl => match us, hl with | [_], _ => rfl, g_inner_shapes := PySem.W.mg_of X G a_inner_shapes, f_numbered := f_numbered, d_numbered := _, F_numbered := fun_mk (st := s_numbered) l_numbered c_numbered k_numbered, b_numbered := (fun_mk (st := s_numbered) l_numbered c_numbered k_numbered).binds fun _ _ _ _ _ _ us hl => match us, hl with | [_], _ => rfl, g_numbered := PySem.W.mg_of X G a_numbered, f_levels := f_levels, d_levels := _, F_levels := fun_mk (st := s_levels) l_levels c_levels k_levels, b_levels := (fun_mk (st := s_levels) l_levels c_levels k_levels).binds fun _ _ _ _ _ _ us hl => match us, hl with | [_], _ => rfl, g_levels := PySem.W.mg_of X G a_levels, f__law_mixed := f__law_mixed, d__law_mixed := _, F__law_mixed := fun_mk (st := s__law_mixed) l__law_mixed c__law_mixed k__law_mixed, b__law_mixed := (fun_mk (st := s__law_mixed) l__law_mixed c__law_mixed k__law_mixed).binds fun _ _ _ _ _ _ us hl => match us, hl with | [_, _], _ => rfl, g__law_mixed := PySem.W.mg_of X G a__law_mixed, f__law_bag := f__law_bag, d__law_bag := _, F__law_bag := fun_mk (st := s__law_bag) l__law_bag c__law_bag k__law_bag, b__law_bag := (fun_mk (st := s__law_bag) l__law_bag c__law_bag k__law_bag).binds fun _ _ _ _ _ _ us hl => match us, hl with | [_], _ => rfl, g__law_bag := PySem.W.mg_of X G a__law_bag, f__law_pick := f__law_pick, d__law_pick := _, F__law_pick := fun_mk (st := s__law_pick) l__law_pick c__law_pick k__law_pick, b__law_pick := (fun_mk (st := s__law_pick) l__law_pick c__law_pick k__law_pick).binds fun _ _ _ _ _ _ us hl => match us, hl with | [_, _], _ => rfl, g__law_pick := PySem.W.mg_of X G a__law_pick, f__law_choice := f__law_choice, d__law_choice := _, F__law_choice := fun_mk (st := s__law_choice) l__law_choice c__law_choice k__law_choice, b__law_choice := (fun_mk (st := s__law_choice) l__law_choice c__law_choice k__law_choice).binds fun _ _ _ _ _ _ us hl => match us, hl with | [_, _], _ => rfl, g__law_choice := PySem.W.mg_of X G a__law_choice, f__law_mingled := f__law_mingled, d__law_mingled := _, F__law_mingled := fun_mk (st := s__law_mingled) l__law_mingled c__law_mingled k__law_mingled, b__law_mingled := (fun_mk (st := s__law_mingled) l__law_mingled c__law_mingled k__law_mingled).binds fun _ _ _ _ _ _ us hl => match us, hl with | [_, _], _ => rfl, g__law_mingled := PySem.W.mg_of X G a__law_mingled, f__law_number := f__law_number, d__law_number := _, F__law_number := fun_mk (st := s__law_number) l__law_number c__law_number k__law_number, b__law_number := (fun_mk (st := s__law_number) l__law_number c__law_number k__law_number).binds fun _ _ _ _ _ _ us hl => match us, hl with | [_], _ => rfl, g__law_number := PySem.W.mg_of X G a__law_number, f__law_new_name := f__law_new_name, d__law_new_name := _, F__law_new_name := fun_mk (st := s__law_new_name) l__law_new_name c__law_new_name k__law_new_name, b__law_new_name := (fun_mk (st := s__law_new_name) l__law_new_name c__law_new_name k__law_new_name).binds fun _ _ _ _ _ _ us hl => match us, hl with | [_, _], _ => rfl, g__law_new_name := PySem.W.mg_of X G a__law_new_name, f__law_parts := f__law_parts, d__law_parts := _, F__law_parts := fun_mk (st := s__law_parts) l__law_parts c__law_parts k__law_parts, b__law_parts := (fun_mk (st := s__law_parts) l__law_parts c__law_parts k__law_parts).binds fun _ _ _ _ _ _ us hl => match us, hl with | [_], _ => rfl, g__law_parts := PySem.W.mg_of X G a__law_parts, f__law_numbered := f__law_numbered, d__law_numbered := _, F__law_numbered := fun_mk (st := s__law_numbered) l__law_numbered c__law_numbered k__law_numbered, b__law_numbered := (fun_mk (st := s__law_numbered) l__law_numbered c__law_numbered k__law_numbered).binds fun _ _ _ _ _ _ us hl => match us, hl with | [_], _ => rfl, g__law_numbered := PySem.W.mg_of X G a__law_numbered, f__law_row := f__law_row, d__law_row := _, F__law_row := fun_mk (st := s__law_row) l__law_row c__law_row k__law_row, b__law_row := (fun_mk (st := s__law_row) l__law_row c__law_row k__law_row).binds fun _ _ _ _ _ _ us hl => match us, hl with | [_, _], _ => rfl, g__law_row := PySem.W.mg_of X G a__law_row, f__law_simple := f__law_simple, d__law_simple := _, F__law_simple := fun_mk (st := s__law_simple) l__law_simple c__law_simple k__law_simple, b__law_simple := (fun_mk (st := s__law_simple) l__law_simple c__law_simple k__law_simple).binds fun _ _ _ _ _ _ us hl => match us, hl with | [_, _, _], _ => rfl, g__law_simple := PySem.W.mg_of X G a__law_simple, f__law_leaf := f__law_leaf, d__law_leaf := _, F__law_leaf := fun_mk (st := s__law_leaf) l__law_leaf c__law_leaf k__law_leaf, b__law_leaf := (fun_mk (st := s__law_leaf) l__law_leaf c__law_leaf k__law_leaf).binds fun _ _ _ _ _ _ us hl => match us, hl with | [_, _, _], _ => rfl, g__law_leaf := PySem.W.mg_of X G a__law_leaf, f__law_grown := f__law_grown, d__law_grown := _, F__law_grown := fun_mk (st := s__law_grown) l__law_grown c__law_grown k__law_grown, b__law_grown := (fun_mk (st := s__law_grown) l__law_grown c__law_grown k__law_grown).binds fun _ _ _ _ _ _ us hl => match us, hl with | [_, _, _, _, _], _ => rfl, g__law_grown := PySem.W.mg_of X G a__law_grown, f__law_lined := f__law_lined, d__law_lined := _, F__law_lined := fun_mk (st := s__law_lined) l__law_lined c__law_lined k__law_lined, b__law_lined := (fun_mk (st := s__law_lined) l__law_lined c__law_lined k__law_lined).binds fun _ _ _ _ _ _ us hl => match us, hl with | [_, _], _ => rfl, g__law_lined := PySem.W.mg_of X G a__law_lined, f__law_sown := f__law_sown, d__law_sown := _, F__law_sown := fun_mk (st := s__law_sown) l__law_sown c__law_sown k__law_sown, b__law_sown := (fun_mk (st := s__law_sown) l__law_sown c__law_sown k__law_sown).binds fun _ _ _ _ _ _ us hl => match us, hl with | [_, _], _ => rfl, g__law_sown := PySem.W.mg_of X G a__law_sown, f__law_listed := f__law_listed, d__law_listed := _, F__law_listed := fun_mk (st := s__law_listed) l__law_listed c__law_listed k__law_listed, b__law_listed := (fun_mk (st := s__law_listed) l__law_listed c__law_listed k__law_listed).binds fun _ _ _ _ _ _ us hl => match us, hl with | [_, _, _, _, _], _ => rfl, g__law_listed := PySem.W.mg_of X G a__law_listed, f__law_built := f__law_built, d__law_built := _, F__law_built := fun_mk (st := s__law_built) l__law_built c__law_built k__law_built, b__law_built := (fun_mk (st := s__law_built) l__law_built c__law_built k__law_built).binds fun _ _ _ _ _ _ us hl => match us, hl with | [_], _ => rfl, g__law_built := PySem.W.mg_of X G a__law_built, f__law_high := f__law_high, d__law_high := _, F__law_high := fun_mk (st := s__law_high) l__law_high c__law_high k__law_high, b__law_high := (fun_mk (st := s__law_high) l__law_high c__law_high k__law_high).binds fun _ _ _ _ _ _ us hl => match us, hl with | [_], _ => rfl, g__law_high := PySem.W.mg_of X G a__law_high, f__law_asked := f__law_asked, d__law_asked := _, F__law_asked := fun_mk (st := s__law_asked) l__law_asked c__law_asked k__law_asked, b__law_asked := (fun_mk (st := s__law_asked) l__law_asked c__law_asked k__law_asked).binds fun _ _ _ _ _ _ us hl => match us, hl with | [_], _ => rfl, g__law_asked := PySem.W.mg_of X G a__law_asked, f__law_unchecked := f__law_unchecked, d__law_unchecked := _, F__law_unchecked := fun_mk (st := s__law_unchecked) l__law_unchecked c__law_unchecked k__law_unchecked, b__law_unchecked := (fun_mk (st := s__law_unchecked) l__law_unchecked c__law_unchecked k__law_unchecked).binds fun _ _ _ _ _ _ us hl => match us, hl with | [_, _], _ => rfl, g__law_unchecked := PySem.W.mg_of X G a__law_unchecked, f_law := fa, d_law := _, F_law := fun_mk (st := s_law) l_law c_law k_law, b_law := (fun_mk (st := s_law) l_law c_law k_law).binds fun _ _ _ _ _ _ us hl => match us, hl with | [_], _ => rfl, g_law := PySem.W.mg_of X G a_law, m_abs := PySem.W.mg_none_of X G z_abs, m_bool := PySem.W.mg_none_of X G z_bool, m_enumerate := PySem.W.mg_none_of X G z_enumerate, m_int := PySem.W.mg_none_of X G z_int, m_isinstance := PySem.W.mg_none_of X G z_isinstance, m_len := PySem.W.mg_none_of X G z_len, m_list := PySem.W.mg_none_of X G z_list, m_min := PySem.W.mg_none_of X G z_min, m_range := PySem.W.mg_none_of X G z_range, m_repr := PySem.W.mg_none_of X G z_repr, m_tuple := PySem.W.mg_none_of X G z_tuple }
  exact ⟨_, fun s v => .of_eq rfl, fun base _ _ => ok_law (base := base) T⟩
end D
open PySem PySem.W PyProof.Rows
set_option maxHeartbeats 0 in
theorem PySem.Challenge.cw_drawnanew_k32_shape_numbers_holds : PySem.Challenge.rw_drawnanew_k32_shape_numbers.Holds := by
  w_on; o_law; k_head; (case hw => w_witness2)
  k_fill
  refine D.walk_ofG (l := PySem.Challenge.rw_drawnanew_k32_shape_numbers) (n := 63) (k := 14) (x := "_law_script") (sp := D.sp_law) rfl (by decide) rfl ⟨rfl, by decide, by decide⟩ (fun w h Y => PySem.W.kIn_of Y) ?F (fun _ _ a ns hl hS => ⟨a, ns, rfl, hS, hl, fun _ => rfl⟩)
  case F =>
    intro w mg fa h KX G hmg
    refine' D.all_mk KX G hmg ?a_text_shape ?l_text_shape ?c_text_shape ?k_text_shape ?a_button_shape ?l_button_shape ?c_button_shape ?k_button_shape ?a_row_shape ?l_row_shape ?c_row_shape ?k_row_shape ?a_col_shape ?l_col_shape ?c_col_shape ?k_col_shape ?a_when_shape ?l_when_shape ?c_when_shape ?k_when_shape ?a_put_shape ?l_put_shape ?c_put_shape ?k_put_shape ?a_each_shape ?l_each_shape ?c_each_shape ?k_each_shape ?a_inner_shapes ?l_inner_shapes ?c_inner_shapes ?k_inner_shapes ?a_numbered ?l_numbered ?c_numbered ?k_numbered ?a_levels ?l_levels ?c_levels ?k_levels ?a__law_mixed ?l__law_mixed ?c__law_mixed ?k__law_mixed ?a__law_bag ?l__law_bag ?c__law_bag ?k__law_bag ?a__law_pick ?l__law_pick ?c__law_pick ?k__law_pick ?a__law_choice ?l__law_choice ?c__law_choice ?k__law_choice ?a__law_mingled ?l__law_mingled ?c__law_mingled ?k__law_mingled ?a__law_number ?l__law_number ?c__law_number ?k__law_number ?a__law_new_name ?l__law_new_name ?c__law_new_name ?k__law_new_name ?a__law_parts ?l__law_parts ?c__law_parts ?k__law_parts ?a__law_numbered ?l__law_numbered ?c__law_numbered ?k__law_numbered ?a__law_row ?l__law_row ?c__law_row ?k__law_row ?a__law_simple ?l__law_simple ?c__law_simple ?k__law_simple ?a__law_leaf ?l__law_leaf ?c__law_leaf ?k__law_leaf ?a__law_grown ?l__law_grown ?c__law_grown ?k__law_grown ?a__law_lined ?l__law_lined ?c__law_lined ?k__law_lined ?a__law_sown ?l__law_sown ?c__law_sown ?k__law_sown ?a__law_listed ?l__law_listed ?c__law_listed ?k__law_listed ?a__law_built ?l__law_built ?c__law_built ?k__law_built ?a__law_high ?l__law_high ?c__law_high ?k__law_high ?a__law_asked ?l__law_asked ?c__law_asked ?k__law_asked ?a__law_unchecked ?l__law_unchecked ?c__law_unchecked ?k__law_unchecked ?a_law ?l_law ?c_law ?k_law ?z_abs ?z_bool ?z_enumerate ?z_int ?z_isinstance ?z_len ?z_list ?z_min ?z_range ?z_repr ?z_tuple
    (case a_text_shape => k_is); (case l_text_shape => k_is); (case c_text_shape => k_is); (case k_text_shape => k_is); (case a_button_shape => k_is); (case l_button_shape => k_is); (case c_button_shape => k_is); (case k_button_shape => k_is); (case a_row_shape => k_is); (case l_row_shape => k_is); (case c_row_shape => k_is); (case k_row_shape => k_is); (case a_col_shape => k_is); (case l_col_shape => k_is); (case c_col_shape => k_is); (case k_col_shape => k_is); (case a_when_shape => k_is); (case l_when_shape => k_is); (case c_when_shape => k_is); (case k_when_shape => k_is); (case a_put_shape => k_is); (case l_put_shape => k_is); (case c_put_shape => k_is); (case k_put_shape => k_is); (case a_each_shape => k_is); (case l_each_shape => k_is); (case c_each_shape => k_is); (case k_each_shape => k_is); (case a_inner_shapes => k_is); (case l_inner_shapes => k_is); (case c_inner_shapes => k_is); (case k_inner_shapes => k_is); (case a_numbered => k_is); (case l_numbered => k_is); (case c_numbered => k_is); (case k_numbered => k_is); (case a_levels => k_is); (case l_levels => k_is); (case c_levels => k_is); (case k_levels => k_is); (case a__law_mixed => k_is); (case l__law_mixed => k_is); (case c__law_mixed => k_is); (case k__law_mixed => k_is); (case a__law_bag => k_is); (case l__law_bag => k_is); (case c__law_bag => k_is); (case k__law_bag => k_is); (case a__law_pick => k_is); (case l__law_pick => k_is); (case c__law_pick => k_is); (case k__law_pick => k_is); (case a__law_choice => k_is); (case l__law_choice => k_is); (case c__law_choice => k_is); (case k__law_choice => k_is); (case a__law_mingled => k_is); (case l__law_mingled => k_is); (case c__law_mingled => k_is); (case k__law_mingled => k_is); (case a__law_number => k_is); (case l__law_number => k_is); (case c__law_number => k_is); (case k__law_number => k_is); (case a__law_new_name => k_is); (case l__law_new_name => k_is); (case c__law_new_name => k_is); (case k__law_new_name => k_is); (case a__law_parts => k_is); (case l__law_parts => k_is); (case c__law_parts => k_is); (case k__law_parts => k_is); (case a__law_numbered => k_is); (case l__law_numbered => k_is); (case c__law_numbered => k_is); (case k__law_numbered => k_is); (case a__law_row => k_is); (case l__law_row => k_is); (case c__law_row => k_is); (case k__law_row => k_is); (case a__law_simple => k_is); (case l__law_simple => k_is); (case c__law_simple => k_is); (case k__law_simple => k_is); (case a__law_leaf => k_is); (case l__law_leaf => k_is); (case c__law_leaf => k_is); (case k__law_leaf => k_is); (case a__law_grown => k_is); (case l__law_grown => k_is); (case c__law_grown => k_is); (case k__law_grown => k_is); (case a__law_lined => k_is); (case l__law_lined => k_is); (case c__law_lined => k_is); (case k__law_lined => k_is); (case a__law_sown => k_is); (case l__law_sown => k_is); (case c__law_sown => k_is); (case k__law_sown => k_is); (case a__law_listed => k_is); (case l__law_listed => k_is); (case c__law_listed => k_is); (case k__law_listed => k_is); (case a__law_built => k_is); (case l__law_built => k_is); (case c__law_built => k_is); (case k__law_built => k_is); (case a__law_high => k_is); (case l__law_high => k_is); (case c__law_high => k_is); (case k__law_high => k_is); (case a__law_asked => k_is); (case l__law_asked => k_is); (case c__law_asked => k_is); (case k__law_asked => k_is); (case a__law_unchecked => k_is); (case l__law_unchecked => k_is); (case c__law_unchecked => k_is); (case k__law_unchecked => k_is); (case a_law => k_is); (case l_law => k_is); (case c_law => k_is); (case k_law => k_is); (case z_abs => k_is); (case z_bool => k_is); (case z_enumerate => k_is); (case z_int => k_is); (case z_isinstance => k_is); (case z_len => k_is); (case z_list => k_is); (case z_min => k_is); (case z_range => k_is); (case z_repr => k_is); (case z_tuple => k_is)

