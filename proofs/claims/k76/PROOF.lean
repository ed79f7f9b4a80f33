import PyProof.Rows.All
import Wide.All
import OpenK.AllK
import Wide.FinOn
import PyProof.Rows.IntBool
import HandS.ForMost
import HandS.IsInst
import HandS.TupAny
import HandS.Conv
import HandS.More
import HandS.Style
import HandS.Property
import HandS.Star
import HandS.DictComp
import HandS.RaiseMore
import HandS.SetFor
import HandS.SlotsOwn
import HandS.Codes
import KE.GoesEnum
import HandS.Deep
import HandS.Strs
import HandS.ReCall
import HandS.Zip
import HandS.Flow
import HandS.ForExc
import HandS.ExcInit
import HandS.ExcField
import HandS.ExcIs
import KE.KExcIs
import HandS.OwnIter
import HandS.IterNext
import HandS.HotCalls
import HandS.ExcInitHot
import HandS.WordsExc
import PyProof.ReprRoads
import PySem.Challenge.RW_drawnanew_k76_places_written
set_option Elab.async false
set_option linter.all false
set_option maxRecDepth 100000
set_option maxHeartbeats 4000000
namespace D
open PySem PySem.Spec PyProof.Rows L2

/-! ### rules that the layer lacks -/
def bI (b : Bool) : Int := if b = true then 1 else 0
theorem op_mul_ib {X : Cx} : OpR X (binaryOp .Mult) (fun x y H Q => ∃ i k, x = .int i ∧ y = .bl k ∧ Q (.int (i * bI k)) H) := by
  intro pins s σ H x y v u Q I rx ry h
  obtain ⟨i, k, rfl, rfl, q⟩ := h
  obtain ⟨t, rfl⟩ := rx
  cases ry
  exact PySem.IntBool.mul_int_bool ⟨.int (i * bI k), H, I.tok _, ⟨_, rfl⟩, q⟩

/-! ### heaps: M the addresses that may be written -/
abbrev Ms := Addr → Prop
def Sx (M : Ms) (H H' : Hp) : Prop := ∀ a o, ¬ M a → H a = some o → H' a = some o
def one (b : Addr) : Ms := fun a => a = b
def also (M : Ms) (b : Addr) : Ms := fun a => M a ∨ a = b
/-- what may be written stands -/
def Mk (M : Ms) (H : Hp) : Prop := ∀ a, M a → H a ≠ none
theorem Sx.refl {M : Ms} {H : Hp} : Sx M H H := fun _ _ _ h => h
theorem Sx.trans {M : Ms} {H H1 H2 : Hp} (a : Sx M H H1) (b : Sx M H1 H2) : Sx M H H2 := fun c o n h => b c o n (a c o n h)
theorem Sx.le {M N : Ms} {H H' : Hp} (s : Sx M H H') (h : ∀ a, M a → N a) : Sx N H H' := fun a o n e => s a o (fun m => n (h a m)) e
theorem Sx.same {M : Ms} {H H' : Hp} (s : Same H H') : Sx M H H' := fun a o _ e => s a o e
theorem Sx.new {M : Ms} {H : Hp} {p : Addr} {o : HO} (h : H p = none) : Sx M H (upd H p o) := fun a u _ e => by
  rw [upd_ne (ne_of_none e h)]
  exact e
theorem Sx.put {M : Ms} {H : Hp} {p : Addr} {o : HO} (h : M p) : Sx M H (upd H p o) := fun a u n e => by
  rw [upd_ne (fun z => n (by rw [z]; exact h))]
  exact e
theorem same_new {H : Hp} {p : Addr} {o : HO} (h : H p = none) : Same H (upd H p o) := fun a u e => by
  rw [upd_ne (ne_of_none e h)]
  exact e
theorem Mk.step {M : Ms} {H H' : Hp} (m : Mk M H) (h : ∀ a, H a ≠ none → H' a ≠ none) : Mk M H' := fun a z => h a (m a z)
theorem there_new {H : Hp} {p a : Addr} {o : HO} (h : H a ≠ none) : upd H p o a ≠ none := by
  by_cases e : a = p
  · subst e
    rw [upd_same]
    exact fun z => nomatch z
  · rw [upd_ne e]
    exact h
/-- nothing goes -/
def Gr (H H' : Hp) : Prop := ∀ a, H a ≠ none → H' a ≠ none
theorem Gr.refl {H : Hp} : Gr H H := fun _ h => h
theorem Gr.trans {H H1 H2 : Hp} (a : Gr H H1) (b : Gr H1 H2) : Gr H H2 := fun c h => b c (a c h)
theorem Gr.upd {H : Hp} {p : Addr} {o : HO} : Gr H (upd H p o) := fun _ h => there_new h
theorem Gr.same {H H' : Hp} (s : Same H H') : Gr H H' := fun a h => by
  cases e : H a with
  | none => exact absurd e h
  | some o =>
    rw [s a o e]
    exact fun z => nomatch z
theorem Mk.gr {M : Ms} {H H' : Hp} (m : Mk M H) (g : Gr H H') : Mk M H' := fun a z => g a (m a z)
theorem Mk.out {M : Ms} {H : Hp} {p : Addr} (m : Mk M H) (h : H p = none) : ¬ M p := fun z => m p z h
theorem Mk.also {M : Ms} {H : Hp} {p : Addr} (m : Mk M H) (h : H p ≠ none) : Mk (also M p) H := fun a z => by
  rcases z with z | rfl
  · exact m a z
  · exact h
theorem ne_none {H : Hp} {p : Addr} {o : HO} (h : H p = some o) : H p ≠ none := by
  rw [h]
  exact fun z => nomatch z
theorem upd_there {H : Hp} {p : Addr} {o : HO} : upd H p o p ≠ none := by
  rw [upd_same]
  exact fun z => nomatch z

/-! ### lists and tuples that are read -/
theorem sx_rd {M : Ms} {H H' : Hp} {a : Addr} {u : HO} (s : Sx M H H') (n : ¬ M a) (h : Rd H a u) : Rd H' a u := by
  rcases h with h | ⟨o, h⟩
  · exact .inl (s a _ n h)
  · exact .inr ⟨o, s a _ n h⟩
theorem sx_l {K : PySem.W.Frag} {M : Ms} {H H' : Hp} {a : Addr} {xs : List V} (s : Sx M H H') (n : ¬ M a) (h : SqL K H a xs) : SqL K H' a xs := by
  rcases h with h | h
  · exact .inl (sx_rd s n h)
  · exact .inr h
theorem sx_t {K : PySem.W.Frag} {M : Ms} {H H' : Hp} {a : Addr} {xs : List V} (s : Sx M H H') (n : ¬ M a) (h : SqT K H a xs) : SqT K H' a xs := by
  rcases h with h | h
  · exact .inl (sx_rd s n h)
  · exact .inr h

/-! ### data -/
/-- a tuple that stands -/
inductive RdT (H : Hp) (a : Addr) (xs : List V) : Prop
  | inl (h : H a = some (.tup xs))
theorem RdT.rd {H : Hp} {a : Addr} {xs : List V} (h : RdT H a xs) : Rd H a (.tup xs) := h.casesOn fun h => .inl h
theorem RdT.at {H : Hp} {a : Addr} {xs : List V} (h : RdT H a xs) : H a = some (.tup xs) := h.casesOn fun h => h
theorem sx_rt {M : Ms} {H H' : Hp} {a : Addr} {u : List V} (s : Sx M H H') (n : ¬ M a) (h : RdT H a u) : RdT H' a u := .inl (s a _ n h.at)
mutual
inductive Rp (M : Ms) (H : Hp) : V → PyData → Prop
  | non : Rp M H .non .none
  | bl (b : Bool) : Rp M H (.bl b) (.bool b)
  | int (i : Int) : Rp M H (.int i) (.int i)
  | str (x : Str) : Rp M H (.str x) (.str x)
  | lst {a : Addr} {xs : List V} {ds : List PyData} : ¬ M a → Rd H a (.lst xs) → RpAll M H xs ds → Rp M H (.ref a) (.list ds)
  | tup {a : Addr} {xs : List V} {ds : List PyData} : ¬ M a → RdT H a xs → RpAll M H xs ds → Rp M H (.ref a) (.tuple ds)
inductive RpAll (M : Ms) (H : Hp) : List V → List PyData → Prop
  | nil : RpAll M H [] []
  | cons {v : V} {vs : List V} {d : PyData} {ds : List PyData} : Rp M H v d → RpAll M H vs ds → RpAll M H (v :: vs) (d :: ds)
end
section
variable {K : PySem.W.Frag} {M N : Ms} {H H' : Hp}
mutual
theorem Rp.imp (f : ∀ a u, ¬ M a → Rd H a u → ¬ N a) (fl : ∀ a u, ¬ M a → Rd H a u → Rd H' a u) (ft : ∀ a xs, ¬ M a → RdT H a xs → RdT H' a xs) : ∀ (d : PyData) (v : V), Rp M H v d → Rp N H' v d
  | .none, _, h => by cases h; exact .non
  | .bool b, _, h => by cases h; exact .bl b
  | .int i, _, h => by cases h; exact .int i
  | .str x, _, h => by cases h; exact .str x
  | .list ds, _, h => by
    cases h with
    | lst n s r => exact .lst (f _ _ n s) (fl _ _ n s) (RpAll.imp f fl ft ds _ r)
  | .tuple ds, _, h => by
    cases h with
    | tup n s r => exact .tup (f _ _ n s.rd) (ft _ _ n s) (RpAll.imp f fl ft ds _ r)
  | .dict _, _, h => by cases h
theorem RpAll.imp (f : ∀ a u, ¬ M a → Rd H a u → ¬ N a) (fl : ∀ a u, ¬ M a → Rd H a u → Rd H' a u) (ft : ∀ a xs, ¬ M a → RdT H a xs → RdT H' a xs) : ∀ (ds : List PyData) (vs : List V), RpAll M H vs ds → RpAll N H' vs ds
  | [], _, h => by cases h; exact .nil
  | d :: ds, _, h => by
    cases h with
    | cons h1 h2 => exact .cons (Rp.imp f fl ft d _ h1) (RpAll.imp f fl ft ds _ h2)
end
theorem Rp.sx {v : V} {d : PyData} (s : Sx M H H') (h : Rp M H v d) : Rp M H' v d := Rp.imp (fun _ _ n _ => n) (fun _ _ n q => sx_rd s n q) (fun _ _ n q => sx_rt s n q) d v h
theorem RpAll.sx {vs : List V} {ds : List PyData} (s : Sx M H H') (h : RpAll M H vs ds) : RpAll M H' vs ds := RpAll.imp (fun _ _ n _ => n) (fun _ _ n q => sx_rd s n q) (fun _ _ n q => sx_rt s n q) ds vs h
/-- fewer that may be written -/
theorem Rp.less {v : V} {d : PyData} (f : ∀ a, N a → M a) (h : Rp M H v d) : Rp N H v d := Rp.imp (fun a _ n _ m => n (f a m)) (fun _ _ _ q => q) (fun _ _ _ q => q) d v h
theorem RpAll.less {vs : List V} {ds : List PyData} (f : ∀ a, N a → M a) (h : RpAll M H vs ds) : RpAll N H vs ds := RpAll.imp (fun a _ n _ m => n (f a m)) (fun _ _ _ q => q) (fun _ _ _ q => q) ds vs h

/-- an address that no datum reads: nothing stands there -/
theorem sql_kept {a p : Addr} {xs : List V} {o : HO} (h : SqL K H a xs) (n : H p = none) : SqL K (upd H p o) a xs := sx_l (M := fun _ => False) (Sx.new n) (fun z => z) h
theorem sqt_kept {a p : Addr} {xs : List V} {o : HO} (h : SqT K H a xs) (n : H p = none) : SqT K (upd H p o) a xs := sx_t (M := fun _ => False) (Sx.new n) (fun z => z) h

mutual
theorem Rp.dp : ∀ (d : PyData) (v : V), Rp M H v d → Dp K H v d
  | .none, _, h => by cases h; exact .non
  | .bool b, _, h => by cases h; exact .bl b
  | .int i, _, h => by cases h; exact .int i
  | .str x, _, h => by cases h; exact .str x
  | .list ds, _, h => by
    cases h with
    | lst n s r => exact .lst (.inl s) (RpAll.dp ds _ r)
  | .tuple ds, _, h => by
    cases h with
    | tup n s r => exact .tup (.inl s.rd) (RpAll.dp ds _ r)
  | .dict _, _, h => by cases h
theorem RpAll.dp : ∀ (ds : List PyData) (vs : List V), RpAll M H vs ds → DpAll K H vs ds
  | [], _, h => by cases h; exact .nil
  | d :: ds, _, h => by
    cases h with
    | cons h1 h2 => exact .cons (Rp.dp d _ h1) (RpAll.dp ds _ h2)
end
theorem RpAll.length : ∀ {ds : List PyData} {vs : List V}, RpAll M H vs ds → vs.length = ds.length
  | [], _, h => by cases h; rfl
  | d :: ds, _, h => by
    cases h with
    | cons _ h2 =>
      rw [List.length_cons, List.length_cons, RpAll.length h2]
theorem RpAll.get : ∀ {ds : List PyData} {vs : List V} {i : Nat} {v : V}, RpAll M H vs ds → vs[i]? = some v → ∃ d, ds[i]? = some d ∧ Rp M H v d
  | [], _, i, v, h, e => by cases h; simp at e
  | d :: ds, _, 0, v, h, e => by
    cases h with
    | cons h1 _ =>
      have e1 := Option.some.inj e
      subst e1
      exact ⟨d, rfl, h1⟩
  | d :: ds, _, i + 1, v, h, e => by
    cases h with
    | cons _ h2 => exact RpAll.get (i := i) h2 e
theorem RpAll.getD : ∀ {ds : List PyData} {vs : List V} {i : Nat} {d : PyData}, RpAll M H vs ds → ds[i]? = some d → ∃ v, vs[i]? = some v ∧ Rp M H v d
  | [], _, i, v, h, e => by simp at e
  | d :: ds, _, 0, v, h, e => by
    cases h with
    | cons h1 _ =>
      have e1 := Option.some.inj e
      subst e1
      exact ⟨_, rfl, h1⟩
  | d :: ds, _, i + 1, v, h, e => by
    cases h with
    | cons _ h2 => exact RpAll.getD (i := i) h2 e
theorem RpAll.append : ∀ {ds es : List PyData} {vs us : List V}, RpAll M H vs ds → RpAll M H us es → RpAll M H (vs ++ us) (ds ++ es)
  | [], _, _, _, h, g => by cases h; exact g
  | d :: ds, _, _, _, h, g => by
    cases h with
    | cons h1 h2 => exact .cons h1 (RpAll.append h2 g)
theorem RpAll.take : ∀ (n : Nat) {ds : List PyData} {vs : List V}, RpAll M H vs ds → RpAll M H (vs.take n) (ds.take n)
  | 0, _, _, _ => .nil
  | n + 1, [], _, h => by cases h; exact .nil
  | n + 1, d :: ds, _, h => by
    cases h with
    | cons h1 h2 => exact .cons h1 (RpAll.take n h2)
theorem RpAll.drop : ∀ (n : Nat) {ds : List PyData} {vs : List V}, RpAll M H vs ds → RpAll M H (vs.drop n) (ds.drop n)
  | 0, _, _, h => h
  | n + 1, [], _, h => by cases h; exact .nil
  | n + 1, d :: ds, _, h => by
    cases h with
    | cons h1 h2 => exact RpAll.drop n h2
theorem RpAll.one {v : V} {d : PyData} (h : Rp M H v d) : RpAll M H [v] [d] := .cons h .nil
theorem RpAll.eraseIdx : ∀ (n : Nat) {ds : List PyData} {vs : List V}, RpAll M H vs ds → RpAll M H (vs.eraseIdx n) (ds.eraseIdx n)
  | _, [], _, h => by cases h; exact .nil
  | 0, d :: ds, _, h => by
    cases h with
    | cons h1 h2 => exact h2
  | n + 1, d :: ds, _, h => by
    cases h with
    | cons h1 h2 => exact .cons h1 (RpAll.eraseIdx n h2)
theorem RpAll.ints : ∀ (ns : List Int), RpAll M H (ns.map V.int) (ns.map PyData.int)
  | [] => .nil
  | n :: r => .cons (.int n) (RpAll.ints r)
theorem RpAll.ofInts : ∀ {ns : List Int} {vs : List V}, RpAll M H vs (ns.map PyData.int) → vs = ns.map V.int
  | [], _, h => by cases h; rfl
  | n :: r, _, h => by
    cases h with
    | cons h1 h2 =>
      cases h1
      rw [RpAll.ofInts h2]
      rfl
end

/-- a fresh address may be written from now on -/
theorem rd_ne {H : Hp} {a p : Addr} {u : HO} (h : Rd H a u) (n : H p = none) : a ≠ p := fun e => by
  subst e
  rcases h with h | ⟨o, h⟩ <;> rw [n] at h <;> cases h
theorem Rp.fresh {M : Ms} {H : Hp} {p : Addr} (hp : H p = none) : ∀ {d : PyData} {v : V}, Rp M H v d → Rp (also M p) H v d := fun {d v} h => Rp.imp (fun a u n r z => z.elim n fun e => rd_ne r hp e) (fun _ _ _ q => q) (fun _ _ _ q => q) d v h
theorem RpAll.fresh {M : Ms} {H : Hp} {p : Addr} (hp : H p = none) {ds : List PyData} {vs : List V} (h : RpAll M H vs ds) : RpAll (also M p) H vs ds := RpAll.imp (fun a u n r z => z.elim n fun e => rd_ne r hp e) (fun _ _ _ q => q) (fun _ _ _ q => q) ds vs h
theorem also_le {M : Ms} {p : Addr} : ∀ a, M a → also M p a := fun _ h => .inl h

/-! ### the bag of a script's numbers -/
structure Bag (K : PySem.W.Frag) (M : Ms) (H : Hp) (b : Addr) : Prop where
  w : M b
  h : ∃ (n : Addr) (ns : List Int) (p r t s : Int), H b = some (.lst [.ref n, .int p, .int r, .int t, .int s]) ∧ ¬ M n ∧ Rd H n (.lst (ns.map V.int)) ∧ 0 ≤ p ∧ 0 ≤ r
/-- only the object at b has changed -/
def At (b : Addr) (H H' : Hp) : Prop := ∀ a, a ≠ b → H' a = H a
theorem At.upd {b : Addr} {H : Hp} {o : HO} : At b H (upd H b o) := fun _ n => upd_ne n
theorem At.sx {b : Addr} {H H' : Hp} (h : At b H H') : Sx (one b) H H' := fun a o n e => (h a n).trans e
theorem Bag.there {K : PySem.W.Frag} {M : Ms} {H : Hp} {b : Addr} (h : Bag K M H b) : H b ≠ none := by
  obtain ⟨_, n, ns, p, r, t, s, e, _⟩ := h
  exact ne_none e
/-- other things are written, new ones made -/
theorem Bag.keep {K : PySem.W.Frag} {M N : Ms} {H H' : Hp} {b : Addr} (h : Bag K M H b) (s : Sx N H H') (nb : ¬ N b) (le : ∀ a, N a → M a) : Bag K M H' b := by
  obtain ⟨w, n, ns, p, r, t, sd, e, hn, rd, q⟩ := h
  exact ⟨w, n, ns, p, r, t, sd, s _ _ nb e, hn, sx_rd s (fun z => hn (le _ z)) rd, q⟩
theorem Bag.more {K : PySem.W.Frag} {M : Ms} {H : Hp} {b p : Addr} (h : Bag K M H b) (hp : H p = none) : Bag K (also M p) H b := by
  obtain ⟨w, n, ns, q, r, t, sd, e, hn, rd, z⟩ := h
  exact ⟨.inl w, n, ns, q, r, t, sd, e, fun m => m.elim hn fun e => rd_ne rd hp e, rd, z⟩
theorem Bag.less {K : PySem.W.Frag} {M N : Ms} {H : Hp} {b : Addr} (h : Bag K M H b) (w : N b) (f : ∀ a, N a → M a) : Bag K N H b := by
  obtain ⟨_, n, ns, q, r, t, sd, e, hn, rd, z⟩ := h
  exact ⟨w, n, ns, q, r, t, sd, e, fun m => hn (f _ m), rd, z⟩
theorem one_le {M : Ms} {b : Addr} (w : M b) : ∀ a, one b a → M a := fun a e => by
  have e' : a = b := e
  rw [e']
  exact w
/-- a draw: behind it the bag stands, all else too -/
def Dr (K : PySem.W.Frag) (M : Ms) (b : Addr) (H : Hp) (R : PyData → Prop) (Q : VK) : Prop := ∀ v H' d, Sx (one b) H H' → Gr H H' → Bag K M H' b → Rp M H' v d → R d → Q v H'
/-- a def that writes nothing -/
def Pu (M : Ms) (H : Hp) (R : PyData → Prop) (Q : VK) : Prop := ∀ v H' d, Same H H' → Rp M H' v d → R d → Q v H'

/-! ### loops that the layer has no short rule for -/
theorem for_enum {K : PySem.W.Frag} {a : Addr} {xs : List V} {g : TG} {tb : TS} {D : Ends} {σ : L2.St} {H : Hp} (Pv : Nat → L2.St → Hp → Prop) (h0 : Pv 0 σ H) (hl : ∀ i σ H, i ≤ xs.length → Pv i σ H → SqL K H a xs)
    (hs : ∀ i x T σ H, xs[i]? = some x → H T = none → Pv i σ H → g (.ref T) σ (upd H T (.tup [.int (i : Nat), x])) fun σ2 H2 => tb { D with nx := Pv (i + 1), ct := Pv (i + 1), bk := D.nx } σ2 H2) (hd : ∀ σ H, Pv xs.length σ H → D.nx σ H) :
    ∃ W : Nat → Nat → L2.St → Hp → Prop, (∃ m, W 0 m σ H) ∧ ∀ i m σ H, W i m σ H →
      ((Ite K a).stop i H ∧ D.nx σ H) ∨ ((Ite K a).go i H ∧ ∃ N : L2.St → Hp → Prop, (∀ σ' H', N σ' H' → ∃ m', m' < m ∧ W (i + 1) m' σ' H') ∧ ∀ x H', (Ite K a).yld i H x H' → g x σ H' fun σ2 H2 => tb { D with nx := N, ct := N, bk := D.nx } σ2 H2) := by
  refine ⟨fun i m σ H => m = xs.length - i ∧ i ≤ xs.length ∧ Pv i σ H, ⟨xs.length, by simp, Nat.zero_le _, h0⟩, ?_⟩
  rintro i m σ H ⟨rfl, hi, p⟩
  have q := hl i σ H hi p
  by_cases hlt : i < xs.length
  · refine .inr ⟨⟨xs, xs[i], q, by simp [hlt]⟩, Pv (i + 1), fun σ' H' p' => ⟨xs.length - (i + 1), by omega, rfl, hlt, p'⟩, fun x H' y => ?_⟩
    obtain ⟨T, z, rfl, hT, rfl, hz⟩ := y
    exact hs i z T σ _ (hz xs q) hT p
  · have e : i = xs.length := by omega
    subst e
    exact .inl ⟨⟨xs, q, Nat.le_refl _⟩, hd σ H p⟩

theorem seqIx {j n : Nat} (h : j < n) : seqIndex? (j : Int) n = some j := by
  unfold seqIndex?
  have h1 : ¬ ((j : Int) < 0) := by omega
  have h2 : (0 : Int) ≤ (j : Int) := by omega
  have h3 : (j : Int) < (n : Int) := by omega
  simp only [if_neg h1, decide_eq_true h2, decide_eq_true h3, Bool.and_self, if_true, Int.toNat_natCast]
theorem small1000000 {n : Nat} (h : n ≤ 1000000) : n < sizeLine := Nat.lt_of_le_of_lt h (by decide)
theorem At.gr {b : Addr} {H H' : Hp} (h : At b H H') (hb : H' b ≠ none) : Gr H H' := fun a n => by
  by_cases e : a = b
  · rw [e]
    exact hb
  · rw [h a e]
    exact n

/-- what did not stand needs no leave -/
theorem Sx.cut {M : Ms} {H H' : Hp} {p : Addr} (s : Sx (also M p) H H') (n : H p = none) : Sx M H H' := fun a o m e => s a o (fun z => z.elim m fun z => by
  rw [z, n] at e
  cases e) e

theorem str_len (x y : Str) : (x ++ y).length = x.length + y.length := by
  show (x.cps ++ y.cps).size = _
  rw [Array.size_append]
  rfl

theorem log2_10 {v : Int} (h0 : 0 ≤ v) (h1 : v < 10) : v.natAbs.log2 < 1920 := Nat.lt_of_le_of_lt (Nat.log2_le_self _) (by omega)
theorem dig_len {v : Int} (h0 : 0 ≤ v) (h1 : v < 10) : (Str.ofString (toString v)).length = 1 := by
  have h : v = 0 ∨ v = 1 ∨ v = 2 ∨ v = 3 ∨ v = 4 ∨ v = 5 ∨ v = 6 ∨ v = 7 ∨ v = 8 ∨ v = 9 := by omega
  rcases h with rfl | rfl | rfl | rfl | rfl | rfl | rfl | rfl | rfl | rfl <;> decide +kernel
def isLab : V → Bool
  | .str z => decide (z.length ≤ 30)
  | _ => false
theorem lab_all (xs : List V) (h : xs.all isLab = true) : ∀ v ∈ xs, ∃ z : Str, v = V.str z ∧ z.length ≤ 30 := fun v hv => by
  have h1 := List.all_eq_true.mp h v hv
  cases v with
  | str z => exact ⟨z, rfl, of_decide_eq_true h1⟩
  | _ => cases h1

theorem sz2 {x y : V} : [x, y].length ≤ sizeLine := by show 2 ≤ sizeLine; decide
/-! ### sizes of nodes -/
def mx (ns : List Int) : Int := ns.foldl (fun a b => if a < b then b else a) 0
theorem foldmx : ∀ (ns : List Int) (a : Int), a ≤ ns.foldl (fun a b => if a < b then b else a) a ∧ (∀ n ∈ ns, n ≤ ns.foldl (fun a b => if a < b then b else a) a) ∧ (ns.foldl (fun a b => if a < b then b else a) a = a ∨ ns.foldl (fun a b => if a < b then b else a) a ∈ ns)
  | [], a => ⟨Int.le_refl _, (fun _ h => nomatch h), .inl rfl⟩
  | n :: r, a => by
    have ih := foldmx r (if a < n then n else a)
    simp only [List.foldl_cons]
    obtain ⟨h1, h2, h3⟩ := ih
    refine ⟨?_, fun m hm => ?_, ?_⟩
    · split at h1 <;> split <;> omega
    · rcases List.mem_cons.mp hm with rfl | hm
      · split at h1 <;> split <;> omega
      · exact h2 m hm
    · rcases h3 with h3 | h3
      · by_cases c : a < n
        · right
          rw [if_pos c] at h3 ⊢
          rw [h3]
          exact List.mem_cons_self
        · left
          rw [if_neg c] at h3 ⊢
          exact h3
      · exact .inr (List.mem_cons_of_mem _ h3)
theorem mx_of {ns : List Int} {m : Int} (h0 : ∀ n ∈ ns, 0 ≤ n) (hm : m ∈ ns) (hle : ∀ y, y ∈ ns → y ≤ m) : m = mx ns := by
  obtain ⟨h1, h2, h3⟩ := foldmx ns 0
  have a := h2 m hm
  have b := h0 m hm
  unfold mx
  rcases h3 with h3 | h3
  · omega
  · have c := hle _ h3
    omega
theorem mx_take {ns : List Int} {i : Nat} {z : Int} (h : ns[i]? = some z) : mx (ns.take (i + 1)) = if mx (ns.take i) < z then z else mx (ns.take i) := by
  unfold mx
  rw [List.take_add_one, h, List.foldl_append]
  rfl
def sRow : Str := "row"
def sCol : Str := "col"
def szf (z : Str) (ps : List (Int × Int)) : Int × Int :=
  if ps = [] then (if z = sRow ∨ z = sCol then (0, 0) else ((z.length : Int), 1))
  else if z = sRow then ((ps.map (·.1)).sum, mx (ps.map (·.2))) else (mx (ps.map (·.1)), (ps.map (·.2)).sum)
/-- pairs -/
def pD (p : Int × Int) : PyData := .tuple [.int p.1, .int p.2]
theorem Rp.pair {M : Ms} {H : Hp} {v : V} {p : Int × Int} (h : Rp M H v (pD p)) : ∃ t, v = .ref t ∧ Rd H t (.tup [.int p.1, .int p.2]) := by
  cases h with
  | @tup a xs _ n s r =>
    cases r with
    | cons h1 h2 =>
      cases h2 with
      | cons h3 h4 =>
        cases h1
        cases h3
        cases h4
        exact ⟨a, rfl, s.rd⟩
theorem RpAll.pair {M : Ms} {H : Hp} {vs : List V} {ps : List (Int × Int)} {i : Nat} {v : V} (h : RpAll M H vs (ps.map pD)) (hv : vs[i]? = some v) : ∃ p t, ps[i]? = some p ∧ v = .ref t ∧ Rd H t (.tup [.int p.1, .int p.2]) := by
  obtain ⟨d, hd, hr⟩ := h.get hv
  rw [List.getElem?_map] at hd
  obtain ⟨p, hp, rfl⟩ := Option.map_eq_some_iff.mp hd
  obtain ⟨t, e, r⟩ := hr.pair
  exact ⟨p, t, hp, e, r⟩
theorem same_rd {H H' : Hp} {a : Addr} {u : HO} (s : Same H H') (h : Rd H a u) : Rd H' a u := sx_rd (M := fun _ => False) (Sx.same s) (fun z => z) h

/-! ### the layer's rules with the written part named, for comprehensions -/
section
variable {X : Cx} {K : PySem.W.Frag}
theorem ix_listK (h : X.K = K) : IxR X (rIxL K) := by subst h; exact ix_list
theorem ix_tupK (h : X.K = K) : IxR X (rIxT K) := by subst h; exact ix_tup
theorem sl_listK (h : X.K = K) : SlR X (rSlL K) := by subst h; exact sl_list
theorem sl_tupK (h : X.K = K) : SlR X (rSlA K) := by subst h; exact sl_tupA
theorem op_in_seqK (h : X.K = K) : OpR X (compareOp .In) (rIn K false) := by subst h; exact op_in_seq
theorem op_notIn_seqK (h : X.K = K) : OpR X (compareOp .NotIn) (rIn K true) := by subst h; exact op_notIn_seq
theorem op_catAK (h : X.K = K) : OpR X (binaryOp .Add) (rCatA K) := by subst h; exact op_catA
theorem op_eqDK (h : X.K = K) (hu : X.A.units + 64 < cLine) : OpR X (compareOp .Eq) (rEqD K) := by subst h; exact op_eqD hu
theorem op_neDK (h : X.K = K) (hu : X.A.units + 64 < cLine) : OpR X (compareOp .NotEq) (rNeD K) := by subst h; exact op_neD hu
def rLenS (K : PySem.W.Frag) : List V → Hp → VK → Prop := fun xs H Q => ∃ p ys, xs = [.ref p] ∧ (SqL K H p ys ∨ SqT K H p ys) ∧ Q (.int ys.length) H
theorem call_lenK (h : X.K = K) : CallR X (.builtin "len") (rLenS K) := by subst h; exact call_len_seq
def rListS (K : PySem.W.Frag) : List V → Hp → VK → Prop := fun xs H Q => ∃ p ys, xs = [.ref p] ∧ (SqL K H p ys ∨ SqT K H p ys) ∧ ∀ l, H l = none → Q (.ref l) (upd H l (.lst ys))
theorem call_listK (h : X.K = K) : CallR X (.type "list") (rListS K) := by subst h; exact call_list_of
def rTupS (K : PySem.W.Frag) : List V → Hp → VK → Prop := fun xs H Q => ∃ p ys, xs = [.ref p] ∧ ((SqL K H p ys ∧ ∀ l, H l = none → Q (.ref l) (upd H l (.tup ys))) ∨ (SqT K H p ys ∧ Q (.ref p) H))
theorem call_tupleK (h : X.K = K) : CallR X (.type "tuple") (rTupS K) := by subst h; exact call_tuple_of
theorem cr_sumK (h : X.K = K) (hc : X.calm = true) : CallR X (.builtin "sum") (rSum K) := by subst h; exact cr_sum hc
theorem cr_maxK (h : X.K = K) (hc : X.calm = true) : CallR X (.builtin "max") (rMax K) := by subst h; exact cr_max hc
theorem cr_minK (h : X.K = K) (hc : X.calm = true) : CallR X (.builtin "min") (rMin K) := by subst h; exact cr_min hc
theorem cr_anyK (h : X.K = K) (hc : X.calm = true) : CallR X (.builtin "any") (rAny K) := by subst h; exact cr_any hc
theorem cr_allK (h : X.K = K) (hc : X.calm = true) : CallR X (.builtin "all") (rAll K) := by subst h; exact cr_all hc
theorem call_isi1K (h : X.K = K) : CallR X (.builtin "isinstance") (rIsi K) := by subst h; exact call_isi
theorem call_isiTK (h : X.K = K) : CallR X (.builtin "isinstance") (rIsiT K) := by subst h; exact call_isiT
def tTruth (K : PySem.W.Frag) (ta : TE) : TT := fun σ H Q => ta σ H fun x H' => ∃ k, TruV K x H' k ∧ Q k H'
theorem pt_truthK {a : Expr} {ta : TE} (h : X.K = K) (ha : PE X a ta) (he : ∀ whole, isTrue a X.env whole = (do let v ← whole; standAt a.pos; holding [v] (truthy v))) : PT X a (tTruth K ta) := by subst h; exact pt_truth ha he
theorem pe_fldK {e : Expr} {f : Str} {pos : Pos} {ta : TE} (h : X.K = K) (he : PE X e ta) (hb : attributeBase e f X.env (eval e X.env) = eval e X.env) : PE X (.Attribute e f pos) (tFld K ta f) := by subst h; exact pe_fld he hb
theorem pi_listK {tg l : Expr} {tl : TE} (h : X.K = K) (hl : PE X l tl) : PI X tg l (iList K tl) := by subst h; exact pi_list hl
theorem pi_tupK {tg l : Expr} {tl : TE} (h : X.K = K) (hl : PE X l tl) : PI X tg l (iTup K tl) := by subst h; exact pi_tup hl
theorem pg_tupK {es : List Expr} {k : Nat} {t : TGs} {n : Nat} {pos : Pos} (hK : X.K = K) (hc : X.calm = true) (h : PGs X es t)
    (hn : (assignEach es X.env).length = n := by rfl) (hst : (assignEach es X.env).findIdx? (·.1) = none := by rfl) : PG X (.Tuple es k pos) (gTup K n t) := by subst hK; exact pg_tup hc h hn hst
theorem pi_enumK {e : Expr} {ta : TA} {p pos tpos : Pos} {elts : List Expr} {kk : Nat} (hK : X.K = K) (hg : Gl X "enumerate") (hm : X.mg "enumerate" = none) (ha : PA X [e] ta) (hs : starEach [e] X.env = [(false, eval e X.env)] := by rfl) :
    PI X (.Tuple elts kk tpos) (.Call (.Name "enumerate" p) [e] [] pos) (iEnum K ta) := by subst hK; exact pi_enum hg hm ha hs
theorem pi_zipK {e e2 : Expr} {ta : TA} {p pos tpos : Pos} {elts : List Expr} {kk : Nat} (hK : X.K = K) (hg : Gl X "zip") (hm : X.mg "zip" = none) (ha : PA X [e, e2] ta)
    (hs : starEach [e, e2] X.env = (false, eval e X.env) :: starEach [e2] X.env := by rfl) (hpl : (backTo pos (starEach [e2] X.env)).any (·.1) = false := by rfl) :
    PI X (.Tuple elts kk tpos) (.Call (.Name "zip" p) [e, e2] [] pos) (iZip K ta) := by subst hK; exact pi_zip hg hm ha hs hpl
end

/-- a comprehension over a list whose elements make nothing -/
theorem lc_vals {K : PySem.W.Frag} {a : Addr} {xs ys : List V} {g : TG} {tt : TT} {te : TE} {vs : List Nat} {σ : L2.St} {H : Hp} {D : Addr} {Qd : Hp → Prop} (hD : H D = none) (hS : SqL K H a xs) (hn : ys.length = xs.length) (hz : xs.length ≤ 1000000)
    (hs : ∀ (i : Nat) (x y : V) (H' : Hp) (C : VK) (N : Hp → Prop), xs[i]? = some x → ys[i]? = some y → Same H H' → C y H' → g x (wipe σ vs) H' fun σ2 H2 => wipe σ2 vs = wipe σ vs ∧ tt σ2 H2 fun b H3 => if b = true then te σ2 H3 C else N H3)
    (hd : ∀ H', Same H H' → H' D = some (.lst ys) → Qd H') :
    ∃ W : Nat → Nat → Hp → Prop, (∃ m, W 0 m (upd H D (.lst []))) ∧ ∀ i m H, W i m H →
      ((Itl K a).stop i H ∧ Qd H) ∨ ((Itl K a).go i H ∧ ∃ Nx : Hp → Prop, (∀ H', Nx H' → ∃ m', m' < m ∧ W (i + 1) m' H') ∧ ∀ x H', (Itl K a).yld i H x H' → g x (wipe σ vs) H' fun σ2 H2 => wipe σ2 vs = wipe σ vs ∧ tt σ2 H2 fun b H3 =>
        if b = true then te σ2 H3 fun y H4 => ∃ acc, H4 D = some (.lst acc) ∧ acc.length < sizeLine ∧ Nx (upd H4 D (.lst (acc ++ [y]))) else Nx H3) := by
  refine lc_list (K := K) (a := a) (xs := xs) (fun i H' => Same H H' ∧ H' D = some (.lst (ys.take i))) ⟨same_new hD, by rw [upd_same]; rfl⟩ (fun i H' _ p => p.1.seq hS) (fun i x H' hx p => ?_) (fun H' p => ?_)
  · have hi : i < ys.length := by
      rw [hn]
      exact (List.getElem?_eq_some_iff.mp hx).1
    refine hs i x ys[i] H' _ _ hx (List.getElem?_eq_getElem hi) p.1 ⟨_, p.2, ?_, fun c o e => ?_, ?_⟩
    · rw [List.length_take]
      exact small1000000 (by omega)
    · rw [upd_ne (ne_of_none e hD)]
      exact p.1 c o e
    · rw [upd_same, List.take_add_one, List.getElem?_eq_getElem hi]
      rfl
  · refine hd H' p.1 ?_
    have e := p.2
    rw [← hn, List.take_length] at e
    exact e
theorem same_sqt {K : PySem.W.Frag} {H H' : Hp} {a : Addr} {xs : List V} (s : Same H H') (h : SqT K H a xs) : SqT K H' a xs := sx_t (M := fun _ => False) (Sx.same s) (fun z => z) h
/-- a comprehension over a tuple whose elements make nothing -/
theorem lc_valsT {K : PySem.W.Frag} {a : Addr} {xs ys : List V} {g : TG} {tt : TT} {te : TE} {vs : List Nat} {σ : L2.St} {H : Hp} {D : Addr} {Qd : Hp → Prop} (hD : H D = none) (hS : SqT K H a xs) (hn : ys.length = xs.length) (hz : xs.length ≤ 1000000)
    (hs : ∀ (i : Nat) (x y : V) (H' : Hp) (C : VK) (N : Hp → Prop), xs[i]? = some x → ys[i]? = some y → Same H H' → C y H' → g x (wipe σ vs) H' fun σ2 H2 => wipe σ2 vs = wipe σ vs ∧ tt σ2 H2 fun b H3 => if b = true then te σ2 H3 C else N H3)
    (hd : ∀ H', Same H H' → H' D = some (.lst ys) → Qd H') :
    ∃ W : Nat → Nat → Hp → Prop, (∃ m, W 0 m (upd H D (.lst []))) ∧ ∀ i m H, W i m H →
      ((Itt K a).stop i H ∧ Qd H) ∨ ((Itt K a).go i H ∧ ∃ Nx : Hp → Prop, (∀ H', Nx H' → ∃ m', m' < m ∧ W (i + 1) m' H') ∧ ∀ x H', (Itt K a).yld i H x H' → g x (wipe σ vs) H' fun σ2 H2 => wipe σ2 vs = wipe σ vs ∧ tt σ2 H2 fun b H3 =>
        if b = true then te σ2 H3 fun y H4 => ∃ acc, H4 D = some (.lst acc) ∧ acc.length < sizeLine ∧ Nx (upd H4 D (.lst (acc ++ [y]))) else Nx H3) := by
  refine lc_tup (K := K) (a := a) (xs := xs) (fun i H' => Same H H' ∧ H' D = some (.lst (ys.take i))) ⟨same_new hD, by rw [upd_same]; rfl⟩ (fun i H' _ p => same_sqt p.1 hS) (fun i x H' hx p => ?_) (fun H' p => ?_)
  · have hi : i < ys.length := by
      rw [hn]
      exact (List.getElem?_eq_some_iff.mp hx).1
    refine hs i x ys[i] H' _ _ hx (List.getElem?_eq_getElem hi) p.1 ⟨_, p.2, ?_, fun c o e => ?_, ?_⟩
    · rw [List.length_take]
      exact small1000000 (by omega)
    · rw [upd_ne (ne_of_none e hD)]
      exact p.1 c o e
    · rw [upd_same, List.take_add_one, List.getElem?_eq_getElem hi]
      rfl
  · refine hd H' p.1 ?_
    have e := p.2
    rw [← hn, List.take_length] at e
    exact e

/-- two ways meet behind an if without else -/
theorem join2 {b : Bool} {A : Prop} {N : L2.St → Hp → Prop} {σ : L2.St} {H : Hp} (Pv : L2.St → Hp → Prop) (h1 : b = true → (∀ σ H, Pv σ H → N σ H) → A) (h2 : b = false → Pv σ H) (hN : ∀ σ H, Pv σ H → N σ H) : if b = true then A else N σ H := by
  cases b with
  | true =>
    rw [if_pos rfl]
    exact h1 rfl hN
  | false =>
    rw [if_neg Bool.false_ne_true]
    exact hN _ _ (h2 rfl)


theorem RpAll.rep {M : Ms} {H : Hp} {xs : List V} {ds : List PyData} (h : RpAll M H xs ds) : ∀ n : Nat, RpAll M H (List.replicate n xs).flatten (List.replicate n ds).flatten
  | 0 => .nil
  | n + 1 => by
    rw [List.replicate_succ, List.replicate_succ, List.flatten_cons, List.flatten_cons]
    exact h.append (RpAll.rep h n)
theorem Bag.same {K : PySem.W.Frag} {M : Ms} {H H' : Hp} {b : Addr} (h : Bag K M H b) (s : Same H H') : Bag K M H' b := h.keep (N := fun _ => False) (Sx.same s) (fun z => z) (fun _ z => z.elim)
/-- a list of data that may still be written -/
def Ld (M : Ms) (H : Hp) (a : Addr) (ds : List PyData) : Prop := ¬ M a ∧ ∃ xs, H a = some (.lst xs) ∧ RpAll M H xs ds
theorem Ld.rp {M : Ms} {H : Hp} {a : Addr} {ds : List PyData} (h : Ld M H a ds) : Rp M H (.ref a) (.list ds) := by
  obtain ⟨n, xs, e, r⟩ := h
  exact .lst n (.inl e) r
theorem Ld.sx {M : Ms} {H H' : Hp} {a : Addr} {ds : List PyData} (h : Ld M H a ds) (s : Sx M H H') : Ld M H' a ds := by
  obtain ⟨n, xs, e, r⟩ := h
  exact ⟨n, xs, s _ _ n e, r.sx s⟩
theorem Ld.new {M : Ms} {H : Hp} {a : Addr} {xs : List V} {ds : List PyData} (m : Mk M H) (h : H a = none) (r : RpAll M H xs ds) : Ld M (upd H a (.lst xs)) a ds := ⟨m.out h, xs, upd_same, r.sx (Sx.new h)⟩
/-- a comprehension over a list: each element a datum, made on the way -/
theorem lc_data {K : PySem.W.Frag} {a : Addr} {xs : List V} {ys : List PyData} {g : TG} {tt : TT} {te : TE} {vs : List Nat} {σ : L2.St} {H : Hp} {D : Addr} {Qd : Hp → Prop} (M : Ms) (hM : Mk M H) (hD : H D = none) (hS : SqL K H a xs) (hn : ys.length = xs.length) (hz : xs.length ≤ 1000000)
    (hs : ∀ (i : Nat) (x : V) (y : PyData) (H' : Hp) (C : VK) (N : Hp → Prop), xs[i]? = some x → ys[i]? = some y → Same H H' → Mk (also M D) H' → (∀ v H2, Same H' H2 → Rp (also M D) H2 v y → C v H2) → g x (wipe σ vs) H' fun σ2 H2 => wipe σ2 vs = wipe σ vs ∧ tt σ2 H2 fun b H3 => if b = true then te σ2 H3 C else N H3)
    (hd : ∀ H', Same H H' → Ld M H' D ys → Qd H') :
    ∃ W : Nat → Nat → Hp → Prop, (∃ m, W 0 m (upd H D (.lst []))) ∧ ∀ i m H, W i m H →
      ((Itl K a).stop i H ∧ Qd H) ∨ ((Itl K a).go i H ∧ ∃ Nx : Hp → Prop, (∀ H', Nx H' → ∃ m', m' < m ∧ W (i + 1) m' H') ∧ ∀ x H', (Itl K a).yld i H x H' → g x (wipe σ vs) H' fun σ2 H2 => wipe σ2 vs = wipe σ vs ∧ tt σ2 H2 fun b H3 =>
        if b = true then te σ2 H3 fun y H4 => ∃ acc, H4 D = some (.lst acc) ∧ acc.length < sizeLine ∧ Nx (upd H4 D (.lst (acc ++ [y]))) else Nx H3) := by
  refine lc_list (K := K) (a := a) (xs := xs) (fun i H' => Same H H' ∧ ∃ acc, H' D = some (.lst acc) ∧ RpAll (also M D) H' acc (ys.take i)) ⟨same_new hD, [], upd_same, by rw [List.take_zero]; exact .nil⟩ (fun i H' _ p => p.1.seq hS) (fun i x H' hx p => ?_) (fun H' p => ?_)
  · obtain ⟨s, acc, e, r⟩ := p
    have hi : i < ys.length := by
      rw [hn]
      exact (List.getElem?_eq_some_iff.mp hx).1
    have hl := r.length
    rw [List.length_take] at hl
    refine hs i x ys[i] H' _ _ hx (List.getElem?_eq_getElem hi) s ((hM.gr (Gr.same s)).also (ne_none e)) fun v H2 s2 rv => ?_
    refine ⟨acc, s2 _ _ e, small1000000 (by omega), fun c o q => ?_, acc ++ [v], upd_same, ?_⟩
    · rw [upd_ne (ne_of_none q hD)]
      exact s2 _ _ (s c o q)
    · rw [List.take_add_one, List.getElem?_eq_getElem hi]
      exact ((r.sx (Sx.same s2)).append (.one rv)).sx (Sx.put (.inr rfl))
  · obtain ⟨s, acc, e, r⟩ := p
    rw [← hn, List.take_length] at r
    exact hd H' s ⟨hM.out hD, acc, e, r.less also_le⟩

theorem cut_hi (xs : List V) (n : Nat) : cutV xs none (some (n : Int)) = xs.take n := by
  unfold cutV
  rw [show HT.sIx xs.length 0 none = 0 from HT.sIx_none .., show HT.sIx xs.length xs.length (some (n : Int)) = min n xs.length from HT.sIx_nat _ _ n, List.drop_zero, Nat.sub_zero]
  rw [List.take_eq_take_iff]
  omega

theorem szK {n : Nat} (h : Nat.ble n 1000 = true) : n ≤ sizeLine := Nat.le_of_lt (small1000 (Nat.le_of_ble_eq_true h))

/-- what holds behind a statement, said once for all its ways -/
theorem seq_join {t u : TS} {D : Ends} {σ : L2.St} {H : Hp} (Pv : L2.St → Hp → Prop) (h : (∀ σ H, Pv σ H → u D σ H) → t { D with nx := u D } σ H) (hN : ∀ σ H, Pv σ H → u D σ H) : tSeq t u D σ H := h hN

theorem lc_str {z : Str} {g : TG} {tt : TT} {te : TE} {vs : List Nat} {σ : L2.St} {H1 : Hp} {D : Addr} {Qd : Hp → Prop} (Pv : Nat → Hp → Prop) (h0 : Pv 0 (upd H1 D (.lst [])))
    (hs : ∀ i c H, z.cps[i]? = some c → Pv i H → g (.str ⟨#[c]⟩) (wipe σ vs) H fun σ2 H2 => wipe σ2 vs = wipe σ vs ∧ tt σ2 H2 fun b H3 =>
      if b = true then te σ2 H3 fun y H4 => ∃ acc, H4 D = some (.lst acc) ∧ acc.length < sizeLine ∧ Pv (i + 1) (upd H4 D (.lst (acc ++ [y]))) else Pv (i + 1) H3) (hd : ∀ H, Pv z.cps.size H → Qd H) :
    ∃ W : Nat → Nat → Hp → Prop, (∃ m, W 0 m (upd H1 D (.lst []))) ∧ ∀ i m H, W i m H →
      ((Its z).stop i H ∧ Qd H) ∨ ((Its z).go i H ∧ ∃ Nx : Hp → Prop, (∀ H', Nx H' → ∃ m', m' < m ∧ W (i + 1) m' H') ∧ ∀ x H', (Its z).yld i H x H' → g x (wipe σ vs) H' fun σ2 H2 => wipe σ2 vs = wipe σ vs ∧ tt σ2 H2 fun b H3 =>
        if b = true then te σ2 H3 fun y H4 => ∃ acc, H4 D = some (.lst acc) ∧ acc.length < sizeLine ∧ Nx (upd H4 D (.lst (acc ++ [y]))) else Nx H3) := by
  refine ⟨fun i m H => m = z.cps.size - i ∧ i ≤ z.cps.size ∧ Pv i H, ⟨_, rfl, Nat.zero_le _, h0⟩, ?_⟩
  rintro i m H ⟨rfl, hi, p⟩
  by_cases hlt : i < z.cps.size
  · refine .inr ⟨hlt, Pv (i + 1), fun H' p' => ⟨z.cps.size - (i + 1), by omega, rfl, hlt, p'⟩, fun x H' y => ?_⟩
    obtain ⟨e, c, hc, rfl⟩ := y
    subst e
    exact hs i c _ hc p
  · have e : i = z.cps.size := by omega
    subst e
    exact .inl ⟨Nat.le_refl _, hd H p⟩
/-- a comprehension over a text whose elements make nothing -/
theorem lc_valsS {z : Str} {ys : List V} {g : TG} {tt : TT} {te : TE} {vs : List Nat} {σ : L2.St} {H : Hp} {D : Addr} {Qd : Hp → Prop} (hD : H D = none) (hn : ys.length = z.cps.size) (hz : z.cps.size ≤ 1000000)
    (hs : ∀ (i : Nat) (c : Nat) (y : V) (H' : Hp) (C : VK) (N : Hp → Prop), z.cps[i]? = some c → ys[i]? = some y → Same H H' → C y H' → g (.str ⟨#[c]⟩) (wipe σ vs) H' fun σ2 H2 => wipe σ2 vs = wipe σ vs ∧ tt σ2 H2 fun b H3 => if b = true then te σ2 H3 C else N H3)
    (hd : ∀ H', Same H H' → H' D = some (.lst ys) → Qd H') :
    ∃ W : Nat → Nat → Hp → Prop, (∃ m, W 0 m (upd H D (.lst []))) ∧ ∀ i m H, W i m H →
      ((Its z).stop i H ∧ Qd H) ∨ ((Its z).go i H ∧ ∃ Nx : Hp → Prop, (∀ H', Nx H' → ∃ m', m' < m ∧ W (i + 1) m' H') ∧ ∀ x H', (Its z).yld i H x H' → g x (wipe σ vs) H' fun σ2 H2 => wipe σ2 vs = wipe σ vs ∧ tt σ2 H2 fun b H3 =>
        if b = true then te σ2 H3 fun y H4 => ∃ acc, H4 D = some (.lst acc) ∧ acc.length < sizeLine ∧ Nx (upd H4 D (.lst (acc ++ [y]))) else Nx H3) := by
  refine lc_str (z := z) (fun i H' => Same H H' ∧ H' D = some (.lst (ys.take i))) ⟨same_new hD, by rw [upd_same]; rfl⟩ (fun i c H' hc p => ?_) (fun H' p => ?_)
  · have hi : i < ys.length := by
      rw [hn]
      exact (Array.getElem?_eq_some_iff.mp hc).1
    refine hs i c ys[i] H' _ _ hc (List.getElem?_eq_getElem hi) p.1 ⟨_, p.2, ?_, fun c o e => ?_, ?_⟩
    · rw [List.length_take]
      exact small1000000 (by omega)
    · rw [upd_ne (ne_of_none e hD)]
      exact p.1 c o e
    · rw [upd_same, List.take_add_one, List.getElem?_eq_getElem hi]
      rfl
  · refine hd H' p.1 ?_
    have e := p.2
    rw [← hn, List.take_length] at e
    exact e

theorem cut1 (y : V) (r : List V) : cutV (y :: r) (some 1) none = r := by
  unfold cutV
  rw [show HT.sIx (y :: r).length 0 (some 1) = min 1 (y :: r).length from HT.sIx_nat (y :: r).length 0 1, HT.sIx_none]
  rw [show min 1 (y :: r).length = 1 by
      rw [List.length_cons]
      omega]
  show List.take ((y :: r).length - 1) r = r
  rw [List.length_cons, Nat.add_sub_cancel]
  exact List.take_length

theorem rd_ty {K : PySem.W.Frag} {H : Hp} {a : Addr} {xs : List V} (h : Rd H a (.tup xs)) : TyX K H (.ref a) (.type "tuple") := by
  rcases h with h | ⟨o, h⟩
  · exact .base (.tup h)
  · exact .fTuple h
/-- a comprehension over a tuple: each element a datum, made on the way -/
theorem lc_dataT {K : PySem.W.Frag} {a : Addr} {xs : List V} {ys : List PyData} {g : TG} {tt : TT} {te : TE} {vs : List Nat} {σ : L2.St} {H : Hp} {D : Addr} {Qd : Hp → Prop} (M : Ms) (hM : Mk M H) (hD : H D = none) (hS : SqT K H a xs) (hn : ys.length = xs.length) (hz : xs.length ≤ 1000000)
    (hs : ∀ (i : Nat) (x : V) (y : PyData) (H' : Hp) (C : VK) (N : Hp → Prop), xs[i]? = some x → ys[i]? = some y → Same H H' → Mk (also M D) H' → (∀ v H2, Same H' H2 → Rp (also M D) H2 v y → C v H2) → g x (wipe σ vs) H' fun σ2 H2 => wipe σ2 vs = wipe σ vs ∧ tt σ2 H2 fun b H3 => if b = true then te σ2 H3 C else N H3)
    (hd : ∀ H', Same H H' → Ld M H' D ys → Qd H') :
    ∃ W : Nat → Nat → Hp → Prop, (∃ m, W 0 m (upd H D (.lst []))) ∧ ∀ i m H, W i m H →
      ((Itt K a).stop i H ∧ Qd H) ∨ ((Itt K a).go i H ∧ ∃ Nx : Hp → Prop, (∀ H', Nx H' → ∃ m', m' < m ∧ W (i + 1) m' H') ∧ ∀ x H', (Itt K a).yld i H x H' → g x (wipe σ vs) H' fun σ2 H2 => wipe σ2 vs = wipe σ vs ∧ tt σ2 H2 fun b H3 =>
        if b = true then te σ2 H3 fun y H4 => ∃ acc, H4 D = some (.lst acc) ∧ acc.length < sizeLine ∧ Nx (upd H4 D (.lst (acc ++ [y]))) else Nx H3) := by
  refine lc_tup (K := K) (a := a) (xs := xs) (fun i H' => Same H H' ∧ ∃ acc, H' D = some (.lst acc) ∧ RpAll (also M D) H' acc (ys.take i)) ⟨same_new hD, [], upd_same, by rw [List.take_zero]; exact .nil⟩ (fun i H' _ p => same_sqt p.1 hS) (fun i x H' hx p => ?_) (fun H' p => ?_)
  · obtain ⟨s, acc, e, r⟩ := p
    have hi : i < ys.length := by
      rw [hn]
      exact (List.getElem?_eq_some_iff.mp hx).1
    have hl := r.length
    rw [List.length_take] at hl
    refine hs i x ys[i] H' _ _ hx (List.getElem?_eq_getElem hi) s ((hM.gr (Gr.same s)).also (ne_none e)) fun v H2 s2 rv => ?_
    refine ⟨acc, s2 _ _ e, small1000000 (by omega), fun c o q => ?_, acc ++ [v], upd_same, ?_⟩
    · rw [upd_ne (ne_of_none q hD)]
      exact s2 _ _ (s c o q)
    · rw [List.take_add_one, List.getElem?_eq_getElem hi]
      exact ((r.sx (Sx.same s2)).append (.one rv)).sx (Sx.put (.inr rfl))
  · obtain ⟨s, acc, e, r⟩ := p
    rw [← hn, List.take_length] at r
    exact hd H' s ⟨hM.out hD, acc, e, r.less also_le⟩


/-- a list that is made beside stays away -/
theorem same_put {H H' : Hp} {p : Addr} {o : HO} (s : Same H H') (h : H p = none) : Same H (upd H' p o) := fun a u e => by
  rw [upd_ne (ne_of_none e h)]
  exact s a u e
end D

namespace D
open PySem PySem.Spec PyProof.Rows L2
/-! ### forms -/
inductive Fm where
  | is (n : Int) | get (x : Str) | sum (f g : Fm) | same (f g : Fm) | pick (f g h : Fm)
def sIs : Str := "is"
def sGet : Str := "get"
def sSum : Str := "sum"
def sSame : Str := "same"
def sPick : Str := "pick"
namespace Fm
def word : Fm → Str
  | .is _ => sIs | .get _ => sGet | .sum _ _ => sSum | .same _ _ => sSame | .pick _ _ _ => sPick
def enc : Fm → PyData
  | .is n => .tuple [.str sIs, .int n]
  | .get x => .tuple [.str sGet, .str x]
  | .sum f g => .tuple [.str sSum, f.enc, g.enc]
  | .same f g => .tuple [.str sSame, f.enc, g.enc]
  | .pick f g h => .tuple [.str sPick, f.enc, g.enc, h.enc]
def subs : Fm → List Fm
  | .is _ => [] | .get _ => [] | .sum f g => [f, g] | .same f g => [f, g] | .pick f g h => [f, g, h]
def dep : Fm → Nat
  | .is _ => 1 | .get _ => 1
  | .sum f g => max f.dep g.dep + 1 | .same f g => max f.dep g.dep + 1
  | .pick f g h => max f.dep (max g.dep h.dep) + 1
def size : Fm → Nat
  | .is _ => 1 | .get _ => 1
  | .sum f g => f.size + g.size + 1 | .same f g => f.size + g.size + 1
  | .pick f g h => f.size + g.size + h.size + 1
def val (ρ : Str → Int) : Fm → Int
  | .is n => n | .get x => ρ x
  | .sum f g => (f.val ρ + g.val ρ) % 10
  | .same f g => if f.val ρ = g.val ρ then 1 else 0
  | .pick f g h => if f.val ρ = 0 then h.val ρ else g.val ρ
def ok (nm : Str → Prop) : Fm → Prop
  | .is n => 0 ≤ n ∧ n ≤ 9 | .get x => nm x
  | .sum f g => f.ok nm ∧ g.ok nm | .same f g => f.ok nm ∧ g.ok nm
  | .pick f g h => f.ok nm ∧ g.ok nm ∧ h.ok nm
theorem dep_pos : ∀ f : Fm, 1 ≤ f.dep
  | .is _ => Nat.le_refl _ | .get _ => Nat.le_refl _
  | .sum f g => by show 1 ≤ max f.dep g.dep + 1; omega
  | .same f g => by show 1 ≤ max f.dep g.dep + 1; omega
  | .pick f g h => by show 1 ≤ max f.dep (max g.dep h.dep) + 1; omega
theorem val_range {ρ : Str → Int} {nm : Str → Prop} (h : ∀ x, nm x → 0 ≤ ρ x ∧ ρ x ≤ 9) : ∀ f : Fm, f.ok nm → 0 ≤ f.val ρ ∧ f.val ρ ≤ 9
  | .is n, o => o
  | .get x, o => h x o
  | .sum f g, o => by
    show 0 ≤ (f.val ρ + g.val ρ) % 10 ∧ (f.val ρ + g.val ρ) % 10 ≤ 9
    omega
  | .same f g, o => by
    show 0 ≤ (if f.val ρ = g.val ρ then (1 : Int) else 0) ∧ (if f.val ρ = g.val ρ then (1 : Int) else 0) ≤ 9
    split <;> decide
  | .pick f g k, o => by
    show 0 ≤ (if f.val ρ = 0 then k.val ρ else g.val ρ) ∧ (if f.val ρ = 0 then k.val ρ else g.val ρ) ≤ 9
    split
    · exact val_range h k o.2.2
    · exact val_range h g o.2.1
end Fm
section
variable {M : Ms} {H : Hp} {v : V}
theorem Rp.tupN {ds : List PyData} (h : Rp M H v (.tuple ds)) : ∃ a xs, v = .ref a ∧ ¬ M a ∧ Rd H a (.tup xs) ∧ RpAll M H xs ds := by
  cases h with
  | @tup a xs _ n s r => exact ⟨a, xs, rfl, n, s.rd, r⟩
theorem Rp.tupX {ds : List PyData} (h : Rp M H v (.tuple ds)) : ∃ a xs, v = .ref a ∧ ¬ M a ∧ H a = some (.tup xs) ∧ RpAll M H xs ds := by
  cases h with
  | @tup a xs _ n s r => exact ⟨a, xs, rfl, n, s.at, r⟩
theorem Rp.lstN {ds : List PyData} (h : Rp M H v (.list ds)) : ∃ a xs, v = .ref a ∧ ¬ M a ∧ Rd H a (.lst xs) ∧ RpAll M H xs ds := by
  cases h with
  | @lst a xs _ n s r => exact ⟨a, xs, rfl, n, s, r⟩
theorem Rp.int_inv {i : Int} (h : Rp M H v (.int i)) : v = .int i := by cases h; rfl
theorem Rp.str_inv {x : Str} (h : Rp M H v (.str x)) : v = .str x := by cases h; rfl
theorem RpAll.inv1 {xs : List V} {d1 : PyData} (h : RpAll M H xs [d1]) : ∃ v1, xs = [v1] ∧ Rp M H v1 d1 := by
  cases h with | cons h1 h2 => cases h2; exact ⟨_, rfl, h1⟩
theorem RpAll.inv2 {xs : List V} {d1 d2 : PyData} (h : RpAll M H xs [d1, d2]) : ∃ v1 v2, xs = [v1, v2] ∧ Rp M H v1 d1 ∧ Rp M H v2 d2 := by
  cases h with | cons h1 h2 => obtain ⟨v2, rfl, r2⟩ := h2.inv1; exact ⟨_, _, rfl, h1, r2⟩
theorem RpAll.inv3 {xs : List V} {d1 d2 d3 : PyData} (h : RpAll M H xs [d1, d2, d3]) : ∃ v1 v2 v3, xs = [v1, v2, v3] ∧ Rp M H v1 d1 ∧ Rp M H v2 d2 ∧ Rp M H v3 d3 := by
  cases h with | cons h1 h2 => obtain ⟨v2, v3, rfl, r2, r3⟩ := h2.inv2; exact ⟨_, _, _, rfl, h1, r2, r3⟩
theorem RpAll.inv4 {xs : List V} {d1 d2 d3 d4 : PyData} (h : RpAll M H xs [d1, d2, d3, d4]) : ∃ v1 v2 v3 v4, xs = [v1, v2, v3, v4] ∧ Rp M H v1 d1 ∧ Rp M H v2 d2 ∧ Rp M H v3 d3 ∧ Rp M H v4 d4 := by
  cases h with | cons h1 h2 => obtain ⟨v2, v3, v4, rfl, r2, r3, r4⟩ := h2.inv3; exact ⟨_, _, _, _, rfl, h1, r2, r3, r4⟩
/-- what stands of a form -/
inductive FmAt (M : Ms) (H : Hp) : Fm → List V → Prop
  | is (n : Int) : FmAt M H (.is n) [.str sIs, .int n]
  | get (x : Str) : FmAt M H (.get x) [.str sGet, .str x]
  | sum {f g : Fm} {u w : V} (a : Rp M H u f.enc) (b : Rp M H w g.enc) : FmAt M H (.sum f g) [.str sSum, u, w]
  | same {f g : Fm} {u w : V} (a : Rp M H u f.enc) (b : Rp M H w g.enc) : FmAt M H (.same f g) [.str sSame, u, w]
  | pick {f g h : Fm} {u w z : V} (a : Rp M H u f.enc) (b : Rp M H w g.enc) (c : Rp M H z h.enc) : FmAt M H (.pick f g h) [.str sPick, u, w, z]
theorem Rp.form {f : Fm} (h : Rp M H v f.enc) : ∃ a xs, v = .ref a ∧ ¬ M a ∧ Rd H a (.tup xs) ∧ FmAt M H f xs := by
  cases f with
  | is n =>
    obtain ⟨a, xs, rfl, n, s, r⟩ := Rp.tupN h
    obtain ⟨v1, v2, rfl, r1, r2⟩ := r.inv2
    cases r1; cases r2
    exact ⟨a, _, rfl, n, s, .is _⟩
  | get x =>
    obtain ⟨a, xs, rfl, n, s, r⟩ := Rp.tupN h
    obtain ⟨v1, v2, rfl, r1, r2⟩ := r.inv2
    cases r1; cases r2
    exact ⟨a, _, rfl, n, s, .get _⟩
  | sum f g =>
    obtain ⟨a, xs, rfl, n, s, r⟩ := Rp.tupN h
    obtain ⟨v1, v2, v3, rfl, r1, r2, r3⟩ := r.inv3
    cases r1
    exact ⟨a, _, rfl, n, s, .sum r2 r3⟩
  | same f g =>
    obtain ⟨a, xs, rfl, n, s, r⟩ := Rp.tupN h
    obtain ⟨v1, v2, v3, rfl, r1, r2, r3⟩ := r.inv3
    cases r1
    exact ⟨a, _, rfl, n, s, .same r2 r3⟩
  | pick f g k =>
    obtain ⟨a, xs, rfl, n, s, r⟩ := Rp.tupN h
    obtain ⟨v1, v2, v3, v4, rfl, r1, r2, r3, r4⟩ := r.inv4
    cases r1
    exact ⟨a, _, rfl, n, s, .pick r2 r3 r4⟩
theorem FmAt.rp {f : Fm} {xs : List V} {a : Addr} (h : FmAt M H f xs) (n : ¬ M a) (s : RdT H a xs) : Rp M H (.ref a) f.enc := by
  cases h with
  | is k => exact .tup n s (.cons (.str _) (.one (.int _)))
  | get x => exact .tup n s (.cons (.str _) (.one (.str _)))
  | sum a b => exact .tup n s (.cons (.str _) (.cons a (.one b)))
  | same a b => exact .tup n s (.cons (.str _) (.cons a (.one b)))
  | pick a b c => exact .tup n s (.cons (.str _) (.cons a (.cons b (.one c))))
end

/-! ### names -/
def isNm (x : Str) : Prop := 1 ≤ x.length ∧ x.length ≤ 8 ∧ ∀ c ∈ x.cps.toList, 97 ≤ c ∧ c ≤ 122
def addN (acc : List Str) (n : Str) : List Str := if n ∈ acc then acc else acc ++ [n]
def Fm.names : Fm → List Str
  | .is _ => [] | .get x => [x]
  | .sum f g => g.names.foldl addN (f.names.foldl addN [])
  | .same f g => g.names.foldl addN (f.names.foldl addN [])
  | .pick f g h => h.names.foldl addN (g.names.foldl addN (f.names.foldl addN []))
theorem addN_mem {acc : List Str} {n x : Str} (h : x ∈ addN acc n) : x ∈ acc ∨ x = n := by
  unfold addN at h
  split at h
  · exact .inl h
  · rcases List.mem_append.mp h with h | h
    · exact .inl h
    · exact .inr (List.mem_singleton.mp h)
theorem addsN_mem : ∀ (ns acc : List Str) (x : Str), x ∈ ns.foldl addN acc → x ∈ acc ∨ x ∈ ns
  | [], acc, x, h => .inl h
  | n :: r, acc, x, h => by
    rcases addsN_mem r (addN acc n) x h with h | h
    · rcases addN_mem h with h | h
      · exact .inl h
      · exact .inr (by rw [h]; exact List.mem_cons_self)
    · exact .inr (List.mem_cons_of_mem _ h)
theorem Fm.names_ok {nm : Str → Prop} : ∀ f : Fm, f.ok nm → ∀ x ∈ f.names, nm x
  | .is _, _, x, h => nomatch h
  | .get y, o, x, h => by rw [List.mem_singleton.mp h]; exact o
  | .sum f g, o, x, h => by
    rcases addsN_mem _ _ _ h with h | h
    · rcases addsN_mem _ _ _ h with h | h
      · exact nomatch h
      · exact f.names_ok o.1 x h
    · exact g.names_ok o.2 x h
  | .same f g, o, x, h => by
    rcases addsN_mem _ _ _ h with h | h
    · rcases addsN_mem _ _ _ h with h | h
      · exact nomatch h
      · exact f.names_ok o.1 x h
    · exact g.names_ok o.2 x h
  | .pick f g k, o, x, h => by
    rcases addsN_mem _ _ _ h with h | h
    · rcases addsN_mem _ _ _ h with h | h
      · rcases addsN_mem _ _ _ h with h | h
        · exact nomatch h
        · exact f.names_ok o.1 x h
      · exact g.names_ok o.2.1 x h
    · exact k.names_ok o.2.2 x h
theorem addN_len (acc : List Str) (n : Str) : (addN acc n).length ≤ acc.length + 1 := by
  unfold addN
  split
  · omega
  · rw [List.length_append]
    exact Nat.le_refl _
theorem addsN_len : ∀ (ns acc : List Str), (ns.foldl addN acc).length ≤ acc.length + ns.length
  | [], acc => Nat.le_refl _
  | n :: r, acc => by
    have h1 := addsN_len r (addN acc n)
    have h2 := addN_len acc n
    show (r.foldl addN (addN acc n)).length ≤ acc.length + (r.length + 1)
    omega
theorem Fm.names_len : ∀ f : Fm, f.names.length ≤ f.size
  | .is _ => Nat.zero_le _
  | .get _ => Nat.le_refl _
  | .sum f g => by
    have h1 := f.names_len; have h2 := g.names_len; have h3 := addsN_len f.names []; have h4 := addsN_len g.names (f.names.foldl addN [])
    show (g.names.foldl addN (f.names.foldl addN [])).length ≤ f.size + g.size + 1
    rw [List.length_nil] at h3
    omega
  | .same f g => by
    have h1 := f.names_len; have h2 := g.names_len; have h3 := addsN_len f.names []; have h4 := addsN_len g.names (f.names.foldl addN [])
    show (g.names.foldl addN (f.names.foldl addN [])).length ≤ f.size + g.size + 1
    rw [List.length_nil] at h3
    omega
  | .pick f g k => by
    have h1 := f.names_len; have h2 := g.names_len; have h3 := addsN_len f.names []; have h4 := addsN_len g.names (f.names.foldl addN [])
    have h5 := k.names_len; have h6 := addsN_len k.names (g.names.foldl addN (f.names.foldl addN []))
    show (k.names.foldl addN (g.names.foldl addN (f.names.foldl addN []))).length ≤ f.size + g.size + k.size + 1
    rw [List.length_nil] at h3
    omega
theorem Fm.size_le : ∀ (d : Nat) (f : Fm), f.dep ≤ d → f.size ≤ 4 ^ d
  | 0, f, h => absurd f.dep_pos (by omega)
  | d + 1, .is _, _ => Nat.pow_pos (by decide)
  | d + 1, .get _, _ => Nat.pow_pos (by decide)
  | d + 1, .sum f g, h => by
    have h0 : max f.dep g.dep + 1 ≤ d + 1 := h
    have h1 := Fm.size_le d f (by omega)
    have h2 := Fm.size_le d g (by omega)
    have h3 : 1 ≤ 4 ^ d := Nat.pow_pos (by decide)
    show f.size + g.size + 1 ≤ 4 ^ d * 4
    omega
  | d + 1, .same f g, h => by
    have h0 : max f.dep g.dep + 1 ≤ d + 1 := h
    have h1 := Fm.size_le d f (by omega)
    have h2 := Fm.size_le d g (by omega)
    have h3 : 1 ≤ 4 ^ d := Nat.pow_pos (by decide)
    show f.size + g.size + 1 ≤ 4 ^ d * 4
    omega
  | d + 1, .pick f g k, h => by
    have h0 : max f.dep (max g.dep k.dep) + 1 ≤ d + 1 := h
    have h1 := Fm.size_le d f (by omega)
    have h2 := Fm.size_le d g (by omega)
    have h4 := Fm.size_le d k (by omega)
    have h3 : 1 ≤ 4 ^ d := Nat.pow_pos (by decide)
    show f.size + g.size + k.size + 1 ≤ 4 ^ d * 4
    omega
theorem in_strs (n : Str) (acc : List Str) : inV (.str n) (acc.map V.str) = decide (n ∈ acc) := by
  unfold inV
  rw [List.any_map, Bool.eq_iff_iff, List.any_eq_true, decide_eq_true_iff]
  constructor
  · rintro ⟨x, hx, e⟩
    have e' : (x == n) = true := e
    rw [beq_iff_eq] at e'
    rw [← e']
    exact hx
  · intro h
    exact ⟨n, h, by show (n == n) = true; exact beq_self_eq_true n⟩
theorem flat_strs (acc : List Str) : (acc.map V.str).all flatV = true := by
  rw [List.all_map, List.all_eq_true]
  intro x _
  rfl
theorem RpAll.strs {M : Ms} {H : Hp} : ∀ (ns : List Str), RpAll M H (ns.map V.str) (ns.map PyData.str)
  | [] => .nil
  | n :: r => .cons (.str n) (RpAll.strs r)
theorem RpAll.ofStrs {M : Ms} {H : Hp} : ∀ {ns : List Str} {vs : List V}, RpAll M H vs (ns.map PyData.str) → vs = ns.map V.str
  | [], _, h => by cases h; rfl
  | n :: r, _, h => by
    cases h with
    | cons h1 h2 =>
      cases h1
      rw [RpAll.ofStrs h2]
      rfl

theorem sign_lo {c : Nat} (h : 97 ≤ c) : decide (({ cps := #[c] } : Str).cps.toList < (Str.ofString "a").cps.toList) = false := by
  rw [show (Str.ofString "a").cps.toList = [97] by decide +kernel, decide_eq_false_iff_not]
  show ¬ [c] < [97]
  rw [List.cons_lt_cons_iff]
  rintro (h1 | ⟨_, h1⟩)
  · omega
  · exact absurd h1 (by decide)
theorem sign_hi {c : Nat} (h : c ≤ 122) : decide ((Str.ofString "z").cps.toList < ({ cps := #[c] } : Str).cps.toList) = false := by
  rw [show (Str.ofString "z").cps.toList = [122] by decide +kernel, decide_eq_false_iff_not]
  show ¬ [122] < [c]
  rw [List.cons_lt_cons_iff]
  rintro (h1 | ⟨_, h1⟩)
  · omega
  · exact absurd h1 (by decide)

/-- a form with its level -/
def lvD (p : Fm × Nat) : PyData := .tuple [p.1.enc, .int (p.2 : Int)]
def szs (ps : List (Fm × Nat)) : Nat := (ps.map fun p => p.1.size).sum
theorem szs_app (ps qs : List (Fm × Nat)) : szs (ps ++ qs) = szs ps + szs qs := by
  unfold szs
  rw [List.map_append, List.sum_append_nat]
theorem szs_rev (ps : List (Fm × Nat)) : szs ps.reverse = szs ps := by
  unfold szs
  rw [List.map_reverse, List.sum_reverse]
theorem subs_size (f : Fm) (n : Nat) : szs (f.subs.map fun g => (g, n)) + 1 = f.size := by
  cases f <;> simp [szs, Fm.subs, Fm.size] <;> omega
theorem subs_ok {nm : Str → Prop} {f g : Fm} (h : f.ok nm) (hg : g ∈ f.subs) : g.ok nm := by
  cases f <;> simp [Fm.subs] at hg <;> simp [Fm.ok] at h
  all_goals (first | (rcases hg with rfl | rfl | rfl <;> simp_all) | (rcases hg with rfl | rfl <;> simp_all))
theorem subs_dep {f g : Fm} (hg : g ∈ f.subs) : g.dep + 1 ≤ f.dep := by
  cases f <;> simp [Fm.subs] at hg <;> simp [Fm.dep]
  all_goals (first | (rcases hg with rfl | rfl | rfl <;> omega) | (rcases hg with rfl | rfl <;> omega))
theorem subs_len (f : Fm) : f.subs.length ≤ 3 := by cases f <;> simp [Fm.subs]
theorem RpAll.reverse {M : Ms} {H : Hp} : ∀ {vs : List V} {ds : List PyData}, RpAll M H vs ds → RpAll M H vs.reverse ds.reverse
  | _, [], h => by cases h; exact .nil
  | _, d :: ds, h => by
    cases h with
    | cons h1 h2 =>
      rw [List.reverse_cons, List.reverse_cons]
      exact (RpAll.reverse h2).append (.one h1)
theorem RpAll.last {M : Ms} {H : Hp} {vs : List V} {ds : List PyData} {d : PyData} (h : RpAll M H vs (ds ++ [d])) : ∃ us v, vs = us ++ [v] ∧ RpAll M H us ds ∧ Rp M H v d := by
  have h1 := h.reverse
  rw [List.reverse_append] at h1
  generalize hv : vs.reverse = ws at h1
  cases h1 with
  | @cons v us _ _ a b =>
    have e : vs = us.reverse ++ [v] := by
      rw [← List.reverse_reverse vs, hv, List.reverse_cons]
    refine ⟨us.reverse, v, e, ?_, a⟩
    have b' : RpAll M H us ds.reverse := b
    have := b'.reverse
    rw [List.reverse_reverse] at this
    exact this

theorem Fm.size_pos : ∀ f : Fm, 1 ≤ f.size
  | .is _ => Nat.le_refl _ | .get _ => Nat.le_refl _
  | .sum f g => by show 1 ≤ f.size + g.size + 1; omega
  | .same f g => by show 1 ≤ f.size + g.size + 1; omega
  | .pick f g h => by show 1 ≤ f.size + g.size + h.size + 1; omega
theorem szs_len : ∀ ps : List (Fm × Nat), ps.length ≤ szs ps
  | [] => Nat.le_refl _
  | p :: r => by
    have h1 := szs_len r
    have h2 := p.1.size_pos
    show r.length + 1 ≤ ((p :: r).map fun p => p.1.size).sum
    rw [List.map_cons, List.sum_cons]
    unfold szs at h1
    omega

def stepN (acc : List Str) (s : Fm) : List Str := s.names.foldl addN acc
theorem names_fold (f : Fm) (h : ∀ x, f ≠ .get x) : f.names = f.subs.foldl stepN [] := by
  cases f with
  | get x => exact absurd rfl (h x)
  | _ => rfl
theorem fold_take {α β : Type} (g : β → α → β) (b : β) (l : List α) (i : Nat) (x : α) (h : l[i]? = some x) : (l.take (i + 1)).foldl g b = g ((l.take i).foldl g b) x := by
  rw [List.take_add_one, h, List.foldl_append]
  rfl
end D

namespace D
open PySem PySem.Spec PyProof.Rows L2
theorem sub_len {α : Type} [DecidableEq α] : ∀ (l2 l1 : List α), l1.Nodup → (∀ x ∈ l1, x ∈ l2) → l1.length ≤ l2.length ∧ (l1.length = l2.length → l2.Nodup)
  | [], l1, _, h => by
    cases l1 with
    | nil => exact ⟨Nat.le_refl _, fun _ => .nil⟩
    | cons x r => exact nomatch h x List.mem_cons_self
  | y :: r, l1, nd, h => by
    by_cases hy : y ∈ l1
    · have nd1 : (l1.erase y).Nodup := nd.erase y
      have h1 : ∀ x ∈ l1.erase y, x ∈ r := fun x hx => by
        have hx' := (nd.mem_erase_iff).mp hx
        rcases List.mem_cons.mp (h x hx'.2) with e | e
        · exact absurd e hx'.1
        · exact e
      obtain ⟨a, b⟩ := sub_len r (l1.erase y) nd1 h1
      have le := List.length_erase_of_mem hy
      have pos : 0 < l1.length := List.length_pos_of_mem hy
      refine ⟨by rw [List.length_cons]; omega, fun e => ?_⟩
      rw [List.length_cons] at e
      refine List.nodup_cons.mpr ⟨fun hr => ?_, b (by omega)⟩
      have h2 : ∀ x ∈ l1, x ∈ r := fun x hx => by
        rcases List.mem_cons.mp (h x hx) with e | e
        · rw [e]; exact hr
        · exact e
      have := (sub_len r l1 nd h2).1
      omega
    · have h2 : ∀ x ∈ l1, x ∈ r := fun x hx => by
        rcases List.mem_cons.mp (h x hx) with e | e
        · rw [e] at hx; exact absurd hx hy
        · exact e
      have := (sub_len r l1 nd h2).1
      refine ⟨by rw [List.length_cons]; omega, fun e => ?_⟩
      rw [List.length_cons] at e
      omega
section
variable {X : Cx}
def tLenSetT (K : PySem.W.Frag) (ta : TE) : TE := fun σ H Q => ta σ H fun x H1 => ∃ (l : Addr) (ns : List Int), x = V.ref l ∧ SqT K H1 l (ns.map V.int) ∧ ns.length ≤ 1000 ∧ ∀ c : Nat, (c = ns.length ↔ ns.Nodup) → Q (.int c) H1
theorem pe_lenSetT {K : PySem.W.Frag} {a : Expr} {ta : TE} {p p2 q pos : Pos} (hK : X.K = K) (hc : X.calm = true) (hg : Gl X "len") (hm : X.mg "len" = none) (hg2 : Gl X "set") (hm2 : X.mg "set" = none) (ha : PE X a ta)
    (na : starEach [a] X.env = (false, eval a X.env) :: starEach [] X.env := by rfl) : PE X (.Call (.Name "len" p) [.Call (.Name "set" p2) [a] [] q] [] pos) (tLenSetT K ta) := by
  subst hK
  refine ⟨fun pins s σ H Q I h => ?_⟩
  refine Call_ (ld_blt I hg hm PySem.boot_len ?_)
  refine PyProof.Rows.callWith_builtin1 (PyProof.Rows.args_cons ?_ rfl) rfl rfl
  refine Call_ (ld_blt I hg2 hm2 PyProof.Rows.boot_set ?_)
  refine PyProof.Rows.callWith_type1 (PyProof.Rows.args_cons (thn (ha.run pins s σ H _ I h) fun v s1 ⟨x, H1, I1, r1, q1⟩ => PyProof.Rows.args_nil ?_) na) na rfl
  obtain ⟨l, ns, rfl, hq, h1, q1⟩ := q1
  cases r1
  obtain ⟨its, rv, pt, hz⟩ := I1.tuple hq
  have hi : IntsAre its.toArray.toList ns := ints_of_vals rv
  refine call_set_tupI ns (I1.ok.hd hc) (show s1.heap.IsTuple l its.toArray from pt) hi (by unfold scanBound; omega) fun h' tk c R1 hcn k => ?_
  obtain ⟨o, es, ep, t, ho, hex, hdt, g, nd, hm2, hb, hf, hn, hr, hl2⟩ := R1
  refine PyProof.Rows.args_nil ?_
  have I2 : Inv X pins σ H1 { s1 with heap := h', toks := tk } := I1.kept k
  have hsub : ∀ x ∈ es.toList.map keyOf, x ∈ ns := fun x hx => of_decide_eq_true ((hm2 x).mpr hx)
  have hsup : ∀ x ∈ ns, x ∈ es.toList.map keyOf := fun x hx => (hm2 x).mp (decide_eq_true hx)
  have hlen : (es.toList.map keyOf).length = es.size := by rw [List.length_map, Array.length_toList]
  have hc2 : es.size = ns.length ↔ ns.Nodup := by
    obtain ⟨a1, a2⟩ := sub_len ns _ nd hsub
    refine ⟨fun e => a2 (by rw [hlen, e]), fun hnd => ?_⟩
    have b1 := (sub_len (es.toList.map keyOf) ns hnd hsup).1
    omega
  exact call_len_set ho hex hdt hf (by unfold scanBound at hb; omega) ⟨.int es.size, H1, I2.tok _, ⟨_, rfl⟩, q1 es.size hc2⟩
end
end D

namespace D
open PySem PySem.Spec PyProof.Rows L2
section
variable {X : Cx} {C g : Addr} {n : Nat} {CX : CXT} {sp : Sp} {E : XK} {fd : FuncData} {ps : List Str}
/-- x op y, two instances of one class with its own def for op -/
def rOwnI (C : Addr) (sp : Sp) (E : XK) : R2 := fun x y H Q => ∃ a dx fs b dy gs, x = .ref a ∧ y = .ref b ∧ H a = some (.ins C dx fs) ∧ H b = some (.ins C dy gs) ∧ sp [x, y] H Q E
theorem op_ownI {op : CmpOp} (hop : ∀ a b, compareOp op a b = richCompare op a b) (hs : PySem.W.findIn X.K (.ref C) (cmpInfo op).2.1 = some (some (.ref g))) (hf : PySem.W.isFn X.K (.ref g) = true) (hn : PySem.W.notFirst X.K C (.ref C) = true)
    (F : FnOk X.prog X.w X.K X.mg X.base CX n g fd ps sp) (hb : Binds X.K fd ps []) (hr : Room n X.A) (hx : Passes CX X E) : OpR X (compareOp op) (rOwnI C sp E) := by
  intro pins s σ H x y v u Q I rx ry h
  obtain ⟨a, dx, fs, b, dy, gs, rfl, rfl, ha, hb2, q⟩ := h
  cases (show v = Value.ref a from rx)
  cases (show u = Value.ref b from ry)
  obtain ⟨mA, O, _⟩ := ins_get I.hok ha
  obtain ⟨od, J, _⟩ := O.look
  obtain ⟨mA', O', _⟩ := ins_get I.hok hb2
  obtain ⟨od', J', _⟩ := O'.look
  obtain ⟨m, hF⟩ := I.fr
  rw [hop]
  refine PySem.W.cmp_K (op := op) (tb := .ref C) hr.units0 hF I.ok.mod.kin J J'.type hn hs hf ?_
  refine wpAny_mono (run_fn (us := [.ref a, .ref b]) (vs := [.ref a, .ref b]) F hr hb .nil hx I (.cons rfl (.cons rfl .nil)) q) (fun w s' z => ?_) fun _ _ x => x
  obtain ⟨z', H', I', rz, qz⟩ := z
  exact SlX.cmpback rz ⟨z', H', I', rz, qz⟩
/-- an instance is called -/
def tCallOI (C : Addr) (sp : Sp) (E : XK) (tf : TE) (t : TA) : TE := fun σ H Q => tf σ H fun y H1 => ∃ a dx fs, y = V.ref a ∧ t σ H1 fun vs H2 => H2 a = some (.ins C dx fs) ∧ sp (V.ref a :: vs) H2 Q E
theorem pe_callOI {fe e : Expr} {es : List Expr} {pos : Pos} {tf : TE} {t : TA} (c : StX.CallO X.K C g) (F : FnOk X.prog X.w X.K X.mg X.base CX n g fd ps sp) (hb : Binds X.K fd ps []) (hr : Room n X.A) (hx : Passes CX X E) (hf : PE X fe tf) (ha : PA X (e :: es) t)
    (ht : eval (.Call fe (e :: es) [] pos) X.env = (do callWith pos (← eval fe X.env) [] (backTo pos (starEach (e :: es) X.env)) (backToKw pos (keywordEach [] X.env))) := by rfl)
    (he : starEach (e :: es) X.env = (false, eval e X.env) :: starEach es X.env := by rfl) (hpl : (backTo pos (starEach es X.env)).any (·.1) = false := by rfl) : PE X (.Call fe (e :: es) [] pos) (tCallOI C sp E tf t) := by
  refine ⟨fun pins s σ H Q I h => ?_⟩
  refine Call_ (thn (hf.run pins s σ H _ I h) fun u s1 ⟨y, H1, I1, ry, a, dx, fs, ey, q⟩ => ?_) ht
  subst ey
  cases (show u = Value.ref a from ry)
  refine StX.callO_with (thn (ha.run pos pins s1 σ H1 _ I1 q) fun us s2 ⟨vs, H2, I2, r, hi, q2⟩ => ?_) he hpl
  obtain ⟨ox, od, J, hd⟩ := StX.insC_at I2 (.inr ⟨dx, fs, hi⟩)
  exact ⟨⟨C, ox, od, J, hd⟩, StX.run_callO c (F.raw hb .nil) hr hx I2 (.inr ⟨dx, fs, hi⟩) r (by rw [List.append_nil]; exact q2)⟩
/-- isinstance of an own class -/
def rIsC (C : Addr) : List V → Hp → VK → Prop := fun xs H Q => ∃ a dx fs, xs = [.ref a, .ref C] ∧ H a = some (.ins C dx fs) ∧ Q (.bl true) H
theorem call_isCK (c : C8.InsC X.K C) : CallR X (.builtin "isinstance") (rIsC C) := C8.call_isC c
end
end D

namespace PySem
theorem meets_enumerate_newT (l : Addr) (items : Array Value) :
    Meets (Builtin.«enumerate.__new__» ⟨[.type "enumerate", .ref l], []⟩) (fun _ R s => s.heap.IsTuple l items ∧
      R (.ok (.ret (.ref (s.heap.push { cls := .type "tuple_iterator", data := .fields #[.ref l, .int 0 0] }).objs.size)))
        { s with heap := (s.heap.push { cls := .type "tuple_iterator", data := .fields #[.ref l, .int 0 0] }).push { cls := .type "enumerate", data := .fields #[.none, .bool false, .ref s.heap.objs.size, rawInt 0, .none, .none] } }) :=
  .of_wp fun prog w A R s h => by
    obtain ⟨hp, g, d, tk, os⟩ := s; obtain ⟨hL, h⟩ := h
    have hsub := sub_enumerate
    wp_walk
    refine wpAny_stack_any fun st => wpAny_pure ?_
    split
    · rename_i c _ _ _ _ _
      cases (c == Value.type "enumerate")
      · wp_walk using wpAny_pyIter_tuple hL
        exact ⟨_, rfl, h⟩
      · wp_walk using wpAny_pyIter_tuple hL
        exact ⟨_, rfl, h⟩
    · wp_walk using wpAny_pyIter_tuple hL
      exact ⟨_, rfl, h⟩
section
variable {prog : Program} {w : World} {A : Around} {E : Value → Shared → Prop} {s : Shared}
theorem call_enumerate_tuple {l : Addr} {items : Array Value} {Q : Value → Shared → Prop} (hL : s.heap.IsTuple l items)
    (h : ∀ h', IsEnum h' (s.heap.objs.size + 1) s.heap.objs.size 0 .none → h'.IsTupleIter s.heap.objs.size l 0 → h'.objs.size = s.heap.objs.size + 2 →
      (∀ b o, s.heap.get? b = some o → h'.get? b = some o) → Q (.ref (s.heap.objs.size + 1)) { s with heap := h' }) :
    wpAny (model prog w) A (call (.type "enumerate") [.ref l]) Q E s := by
  refine callType_new F.called_enumerate (by decide) (F.typeCall_enumerate_1 _) (F.newCall_enumerate_1 _) (fun obj => F.args_object_init_2 obj _) F.entry_enumerate_new
    (meets_enumerate_newT l items) ⟨hL, ?_⟩
  have hz : (s.heap.push { cls := .type "tuple_iterator", data := .fields #[.ref l, .int 0 0] }).objs.size = s.heap.objs.size + 1 := Heap.size_push ..
  show _ ∧ _
  rw [hz]
  have he : IsEnum ((s.heap.push { cls := .type "tuple_iterator", data := .fields #[.ref l, .int 0 0] }).push
      { cls := .type "enumerate", data := .fields #[.none, .bool false, .ref s.heap.objs.size, rawInt 0, .none, .none] }) (s.heap.objs.size + 1) s.heap.objs.size 0 .none := by
    have := Heap.get?_push_size (s.heap.push { cls := .type "tuple_iterator", data := .fields #[.ref l, .int 0 0] })
      (o := { cls := .type "enumerate", data := .fields #[.none, .bool false, .ref s.heap.objs.size, rawInt 0, .none, .none] }) rfl
    rw [hz] at this; exact this
  refine ⟨⟨_, he, rfl⟩, h _ he ⟨_, Heap.get?_push_of_some _ (Heap.get?_push_size _ rfl), rfl, rfl⟩ (by rw [Heap.size_push, hz]) fun b o x => Heap.get?_push_of_some _ (Heap.get?_push_of_some _ x)⟩
end
end PySem
namespace D
open PySem PySem.Spec PyProof.Rows L2
/-- the tuple at a, each item in a new pair with its place -/
def Itet (K : PySem.W.Frag) (a : Addr) : It :=
  ⟨fun i H => ∃ (xs : List V) (x : V), SqT K H a xs ∧ xs[i]? = some x, fun i H v H' => ∃ T x, v = .ref T ∧ H T = none ∧ H' = upd H T (.tup [.int (i : Nat), x]) ∧ ∀ xs, SqT K H a xs → xs[i]? = some x, fun i H => ∃ xs : List V, SqT K H a xs ∧ xs.length = i⟩
theorem turn_enumT {P : Program} {w : World} {K : PySem.W.Frag} {elts : List Expr} {kk : Nat} {tpos : Pos} (a e it : Addr) :
    Turn P w K (.Tuple elts kk tpos) (Itet K a) [e, it] e (fun i h => (∃ old, IsEnum h e it ((i : Nat) : Int) old) ∧ h.IsTupleIter it a i ∧ e ≠ it) where
  mem := by simp
  obj := fun i h st b hb => by
    obtain ⟨⟨old, he⟩, ⟨o, ho, hc, hd⟩, _⟩ := st
    have e' : b = e ∨ b = it := by simpa using hb
    rcases e' with z | z
    · rw [z]; exact ⟨_, he, fun v q => nomatch q⟩
    · rw [z]; exact ⟨o, ho, fun v q => by rw [hd] at q; cases q⟩
  keep := fun i h h' st k => let ⟨⟨old, he⟩, hi, hne⟩ := st; ⟨⟨old, k e (by simp) _ he⟩, hi.at fun o q => k it (by simp) o q, hne⟩
  item := by
    intro X hP hw hK hc i pins s σ H E I hf st hg
    subst hP hw hK
    obtain ⟨⟨old, he⟩, hit, hne⟩ := st
    obtain ⟨xs, x, hq, hx⟩ := hg
    obtain ⟨its, rv, p, hz⟩ := I.tuple hq
    have p2 : s.heap.IsTuple a its.toArray := p
    obtain ⟨u, hu, ru⟩ := rv.get hx
    have hel : e < s.heap.objs.size := Heap.lt_size he
    have hil : it < s.heap.objs.size := by obtain ⟨_, q, _⟩ := hit; exact Heap.lt_size q
    have hai : a ≠ it := fun z => by
      obtain ⟨o1, q1, c1, _⟩ := hit
      obtain ⟨o2, q2, c2, _⟩ := p2
      rw [z, q1] at q2
      cases q2
      rw [c1] at c2
      exact absurd c2 (by decide)
    have hea : e ≠ a := fun z => by
      obtain ⟨o2, q2, c2, _⟩ := p2
      rw [← z, he] at q2
      cases q2
      exact absurd (show Value.type "enumerate" = Value.type "tuple" from c2) (by decide)
    have hlt : i < its.toArray.size := by
      have := (List.getElem?_eq_some_iff.mp hu).1
      simpa using this
    refine wpAny_pyNext_enum_itemD (Draws.tuple (A := X.A.in1) (I.ok.hd hc) it a hai its.toArray) he ⟨hit, p2⟩ hlt hne (fun z => by
      rcases List.mem_cons.mp z with z | z
      · exact hne z
      · exact hea (List.mem_singleton.mp z)) fun x' h' tk hP ho hst' hT hsz hk => ?_
    obtain rfl : x' = u := by
      have h1 : its.toArray[i]? = some x' := hP
      rw [List.getElem?_toArray, hu] at h1
      exact (Option.some.inj h1).symm
    refine ⟨_, rfl, wpAny_letOwnedTupleGo_enum (s := { s with heap := h', toks := tk + 1 }) ho fun h'' he' sb => ?_⟩
    have hT2 : h''.get? s.heap.objs.size = some { cls := .type "tuple", data := .seq #[.int i tk, x'] } := (sb.2 _ (Nat.ne_of_gt hel)).trans hT
    have new : ObjOk X.prog X.w (upd H s.heap.objs.size (.tup [.int (i : Nat), x])) h'' s.heap.objs.size (.tup [.int (i : Nat), x]) :=
      ⟨by show 2 ≤ sizeLine; decide, [.int i tk, x'], .cons ⟨_, rfl⟩ (.cons ru .nil), ⟨_, hT2, rfl, _, rfl⟩⟩
    have I1 : Inv X pins σ (upd H s.heap.objs.size (.tup [.int (i : Nat), x])) { s with heap := h'', toks := tk + 1 } :=
      I.turnedNew (ch := [e, it]) (fun b ob hb q => (sb.2 b (fun z => hb (by simp [z]))).trans (hk b ob (fun z => hb (by simp [z])) (fun z => hb (by simp [z])) q)) hf (Nat.le_refl _) new
    refine ⟨.ref s.heap.objs.size, _, I1, rfl, ⟨_, x, rfl, I.hok.fresh (Nat.le_refl _), rfl, fun ys hy => by rw [I.tuple_inj hy hq]; exact hx⟩, ⟨⟨x', ?_⟩, hst'.1.at fun o q => (sb.2 it (Ne.symm hne)).trans q, hne⟩, fun b hb => ?_⟩
    · have e1 : ((i + 1 : Nat) : Int) = (i : Int) + 1 := by omega
      rw [e1]; exact he'
    · have hb' : b < s.heap.objs.size := by
        have e' : b = e ∨ b = it := by simpa using hb
        rcases e' with z | z
        · rw [z]; exact hel
        · rw [z]; exact hil
      rw [upd_ne (Nat.ne_of_lt hb')]
      exact (hf b hb).1
  done := by
    intro X hP hw hK hc i pins s σ H E I hf st hg
    subst hP hw hK
    obtain ⟨⟨old, he⟩, hit, hne⟩ := st
    obtain ⟨xs, hq, hx⟩ := hg
    obtain ⟨its, rv, p, hz⟩ := I.tuple hq
    have p2 : s.heap.IsTuple a its.toArray := p
    obtain ⟨f0, f1, f2, f3, f4, f5⟩ := hf it (by simp)
    have hl := rv.length
    have hai : a ≠ it := fun z => by
      obtain ⟨o1, q1, c1, _⟩ := hit
      obtain ⟨o2, q2, c2, _⟩ := p2
      rw [z, q1] at q2
      cases q2
      rw [c1] at c2
      exact absurd c2 (by decide)
    have en : i = its.toArray.size := by
      rw [List.size_toArray]
      omega
    exact wpAny_pyNext_enum_endD (Draws.tuple (A := X.A.in1) (I.ok.hd hc) it a hai its.toArray) he (show _ ∧ _ from ⟨by rw [← en]; exact hit, p2⟩) fun h' eb => ⟨rfl, I.turned (t' := s.toks) (fun b o hb q => eb b o hb q) f0 f1 f3 f4 f5⟩
  self := fun A i s Q E st h => let ⟨⟨_, he⟩, _⟩ := st; wpAny_pyIter_enum he h
def iEnumT (K : PySem.W.Frag) (ta : TA) : TI := fun σ H R => ta σ H fun vs H1 => ∃ a xs, vs = [.ref a] ∧ SqT K H1 a xs ∧ R (Itet K a) H1
theorem pi_enumTK {K : PySem.W.Frag} {X : Cx} {e : Expr} {ta : TA} {p pos tpos : Pos} {elts : List Expr} {kk : Nat} (hK : X.K = K) (hg : Gl X "enumerate") (hm : X.mg "enumerate" = none) (ha : PA X [e] ta) (hs : starEach [e] X.env = [(false, eval e X.env)] := by rfl) :
    PI X (.Tuple elts kk tpos) (.Call (.Name "enumerate" p) [e] [] pos) (iEnumT K ta) := by
  subst hK
  refine ⟨fun pins s σ H R I h => ?_⟩
  refine Call_ (ld_blt I hg hm boot_enumerate (PyProof.Rows.callWith_type1 (thn (ha.run pos pins s σ H _ I h) fun us s1 ⟨vs, H1, I1, r1, q1⟩ => ?_) hs rfl))
  obtain ⟨a, xs, ex, hq, q⟩ := q1
  subst ex
  cases r1 with
  | cons r rr =>
    cases rr
    cases r
    obtain ⟨its, rv, p', hz⟩ := I1.tuple hq
    refine call_enumerate_tuple (show s1.heap.IsTuple a its.toArray from p') fun h' he hit hsz hk => wpAny_pyIter_enum he ?_
    have I2 : Inv X pins σ H1 { s1 with heap := h' } := I1.kept (t' := s1.toks) hk
    refine ⟨s1.heap.objs.size + 1, [s1.heap.objs.size + 1, s1.heap.objs.size], _, _, H1, rfl, I2, turn_enumT a (s1.heap.objs.size + 1) s1.heap.objs.size, ⟨⟨.none, he⟩, hit, Nat.succ_ne_self _⟩, fun b hb => ?_, q⟩
    have e' : b = s1.heap.objs.size + 1 ∨ b = s1.heap.objs.size := by simpa using hb
    have hle : s1.heap.objs.size ≤ b := by
      rcases e' with z | z
      · rw [z]; exact Nat.le_add_right _ _
      · rw [z]; exact Nat.le_refl _
    exact I1.fpOk hle (I1.hok.fresh hle)
theorem for_enumT {K : PySem.W.Frag} {a : Addr} {xs : List V} {g : TG} {tb : TS} {D : Ends} {σ : L2.St} {H : Hp} (Pv : Nat → L2.St → Hp → Prop) (h0 : Pv 0 σ H) (hl : ∀ i σ H, i ≤ xs.length → Pv i σ H → SqT K H a xs)
    (hs : ∀ i x T σ H, xs[i]? = some x → H T = none → Pv i σ H → g (.ref T) σ (upd H T (.tup [.int (i : Nat), x])) fun σ2 H2 => tb { D with nx := Pv (i + 1), ct := Pv (i + 1), bk := D.nx } σ2 H2) (hd : ∀ σ H, Pv xs.length σ H → D.nx σ H) :
    ∃ W : Nat → Nat → L2.St → Hp → Prop, (∃ m, W 0 m σ H) ∧ ∀ i m σ H, W i m σ H →
      ((Itet K a).stop i H ∧ D.nx σ H) ∨ ((Itet K a).go i H ∧ ∃ N : L2.St → Hp → Prop, (∀ σ' H', N σ' H' → ∃ m', m' < m ∧ W (i + 1) m' σ' H') ∧ ∀ x H', (Itet K a).yld i H x H' → g x σ H' fun σ2 H2 => tb { D with nx := N, ct := N, bk := D.nx } σ2 H2) := by
  refine ⟨fun i m σ H => m = xs.length - i ∧ i ≤ xs.length ∧ Pv i σ H, ⟨xs.length, by simp, Nat.zero_le _, h0⟩, ?_⟩
  rintro i m σ H ⟨rfl, hi, p⟩
  have q := hl i σ H hi p
  by_cases hlt : i < xs.length
  · refine .inr ⟨⟨xs, xs[i], q, by simp [hlt]⟩, Pv (i + 1), fun σ' H' p' => ⟨xs.length - (i + 1), by omega, rfl, hlt, p'⟩, fun x H' y => ?_⟩
    obtain ⟨T, z, rfl, hT, rfl, hz⟩ := y
    exact hs i z T σ _ (hz xs q) hT p
  · have e : i = xs.length := by omega
    subst e
    exact .inl ⟨⟨xs, q, rfl⟩, hd σ H p⟩
/-- comprehensions over enumerate -/
theorem lc_enum {K : PySem.W.Frag} {a : Addr} {xs : List V} {g : TG} {tt : TT} {te : TE} {vs : List Nat} {σ : L2.St} {H1 : Hp} {D : Addr} {Qd : Hp → Prop} (Pv : Nat → Hp → Prop) (h0 : Pv 0 (upd H1 D (.lst []))) (hl : ∀ i H, i ≤ xs.length → Pv i H → SqL K H a xs)
    (hs : ∀ i x T H, xs[i]? = some x → H T = none → Pv i H → g (.ref T) (wipe σ vs) (upd H T (.tup [.int (i : Nat), x])) fun σ2 H2 => wipe σ2 vs = wipe σ vs ∧ tt σ2 H2 fun b H3 =>
      if b = true then te σ2 H3 fun y H4 => ∃ acc, H4 D = some (.lst acc) ∧ acc.length < sizeLine ∧ Pv (i + 1) (upd H4 D (.lst (acc ++ [y]))) else Pv (i + 1) H3) (hd : ∀ H, Pv xs.length H → Qd H) :
    ∃ W : Nat → Nat → Hp → Prop, (∃ m, W 0 m (upd H1 D (.lst []))) ∧ ∀ i m H, W i m H →
      ((Ite K a).stop i H ∧ Qd H) ∨ ((Ite K a).go i H ∧ ∃ Nx : Hp → Prop, (∀ H', Nx H' → ∃ m', m' < m ∧ W (i + 1) m' H') ∧ ∀ x H', (Ite K a).yld i H x H' → g x (wipe σ vs) H' fun σ2 H2 => wipe σ2 vs = wipe σ vs ∧ tt σ2 H2 fun b H3 =>
        if b = true then te σ2 H3 fun y H4 => ∃ acc, H4 D = some (.lst acc) ∧ acc.length < sizeLine ∧ Nx (upd H4 D (.lst (acc ++ [y]))) else Nx H3) := by
  refine ⟨fun i m H => m = xs.length - i ∧ i ≤ xs.length ∧ Pv i H, ⟨xs.length, by simp, Nat.zero_le _, h0⟩, ?_⟩
  rintro i m H ⟨rfl, hi, p⟩
  have q := hl i H hi p
  by_cases hlt : i < xs.length
  · refine .inr ⟨⟨xs, xs[i], q, by simp [hlt]⟩, Pv (i + 1), fun H' p' => ⟨xs.length - (i + 1), by omega, rfl, hlt, p'⟩, fun x H' y => ?_⟩
    obtain ⟨T, z, rfl, hT, rfl, hz⟩ := y
    exact hs i z T _ (hz xs q) hT p
  · have e : i = xs.length := by omega
    subst e
    exact .inl ⟨⟨xs, q, Nat.le_refl _⟩, hd H p⟩
theorem lc_enumT {K : PySem.W.Frag} {a : Addr} {xs : List V} {g : TG} {tt : TT} {te : TE} {vs : List Nat} {σ : L2.St} {H1 : Hp} {D : Addr} {Qd : Hp → Prop} (Pv : Nat → Hp → Prop) (h0 : Pv 0 (upd H1 D (.lst []))) (hl : ∀ i H, i ≤ xs.length → Pv i H → SqT K H a xs)
    (hs : ∀ i x T H, xs[i]? = some x → H T = none → Pv i H → g (.ref T) (wipe σ vs) (upd H T (.tup [.int (i : Nat), x])) fun σ2 H2 => wipe σ2 vs = wipe σ vs ∧ tt σ2 H2 fun b H3 =>
      if b = true then te σ2 H3 fun y H4 => ∃ acc, H4 D = some (.lst acc) ∧ acc.length < sizeLine ∧ Pv (i + 1) (upd H4 D (.lst (acc ++ [y]))) else Pv (i + 1) H3) (hd : ∀ H, Pv xs.length H → Qd H) :
    ∃ W : Nat → Nat → Hp → Prop, (∃ m, W 0 m (upd H1 D (.lst []))) ∧ ∀ i m H, W i m H →
      ((Itet K a).stop i H ∧ Qd H) ∨ ((Itet K a).go i H ∧ ∃ Nx : Hp → Prop, (∀ H', Nx H' → ∃ m', m' < m ∧ W (i + 1) m' H') ∧ ∀ x H', (Itet K a).yld i H x H' → g x (wipe σ vs) H' fun σ2 H2 => wipe σ2 vs = wipe σ vs ∧ tt σ2 H2 fun b H3 =>
        if b = true then te σ2 H3 fun y H4 => ∃ acc, H4 D = some (.lst acc) ∧ acc.length < sizeLine ∧ Nx (upd H4 D (.lst (acc ++ [y]))) else Nx H3) := by
  refine ⟨fun i m H => m = xs.length - i ∧ i ≤ xs.length ∧ Pv i H, ⟨xs.length, by simp, Nat.zero_le _, h0⟩, ?_⟩
  rintro i m H ⟨rfl, hi, p⟩
  have q := hl i H hi p
  by_cases hlt : i < xs.length
  · refine .inr ⟨⟨xs, xs[i], q, by simp [hlt]⟩, Pv (i + 1), fun H' p' => ⟨xs.length - (i + 1), by omega, rfl, hlt, p'⟩, fun x H' y => ?_⟩
    obtain ⟨T, z, rfl, hT, rfl, hz⟩ := y
    exact hs i z T _ (hz xs q) hT p
  · have e : i = xs.length := by omega
    subst e
    exact .inl ⟨⟨xs, q, rfl⟩, hd H p⟩
/-- the same where each element is a value that is known: new things may be made on the way -/
theorem lc_enumV {K : PySem.W.Frag} {a : Addr} {xs ys : List V} {g : TG} {tt : TT} {te : TE} {vs : List Nat} {σ : L2.St} {H : Hp} {D : Addr} {Qd : Hp → Prop} (hD : H D = none) (hS : SqL K H a xs) (hn : ys.length = xs.length) (hz : xs.length ≤ 1000000)
    (hs : ∀ (i : Nat) (x y : V) (T : Addr) (H' : Hp) (C : VK) (N : Hp → Prop), xs[i]? = some x → ys[i]? = some y → H' T = none → Same H H' → H' D ≠ none → (∀ H2, Same (upd H' T (.tup [.int (i : Nat), x])) H2 → C y H2) → g (.ref T) (wipe σ vs) (upd H' T (.tup [.int (i : Nat), x])) fun σ2 H2 => wipe σ2 vs = wipe σ vs ∧ tt σ2 H2 fun b H3 => if b = true then te σ2 H3 C else N H3)
    (hd : ∀ H', Same H H' → H' D = some (.lst ys) → Qd H') :
    ∃ W : Nat → Nat → Hp → Prop, (∃ m, W 0 m (upd H D (.lst []))) ∧ ∀ i m H, W i m H →
      ((Ite K a).stop i H ∧ Qd H) ∨ ((Ite K a).go i H ∧ ∃ Nx : Hp → Prop, (∀ H', Nx H' → ∃ m', m' < m ∧ W (i + 1) m' H') ∧ ∀ x H', (Ite K a).yld i H x H' → g x (wipe σ vs) H' fun σ2 H2 => wipe σ2 vs = wipe σ vs ∧ tt σ2 H2 fun b H3 =>
        if b = true then te σ2 H3 fun y H4 => ∃ acc, H4 D = some (.lst acc) ∧ acc.length < sizeLine ∧ Nx (upd H4 D (.lst (acc ++ [y]))) else Nx H3) := by
  refine lc_enum (K := K) (a := a) (xs := xs) (fun i H' => Same H H' ∧ H' D = some (.lst (ys.take i))) ⟨same_new hD, by rw [upd_same]; rfl⟩ (fun i H' _ p => p.1.seq hS) (fun i x T H' hx hT p => ?_) (fun H' p => ?_)
  · have hi : i < ys.length := by
      rw [hn]
      exact (List.getElem?_eq_some_iff.mp hx).1
    refine hs i x ys[i] T H' _ _ hx (List.getElem?_eq_getElem hi) hT p.1 (ne_none p.2) fun H2 s2 => ⟨_, s2 _ _ (same_new hT _ _ p.2), ?_, ?_, ?_⟩
    · rw [List.length_take]
      exact small1000000 (by omega)
    · exact same_put (p.1.trans ((same_new hT).trans s2)) hD
    · rw [upd_same, List.take_add_one, List.getElem?_eq_getElem hi]
      rfl
  · refine hd H' p.1 ?_
    have e := p.2
    rw [← hn, List.take_length] at e
    exact e
theorem lc_enumTV {K : PySem.W.Frag} {a : Addr} {xs ys : List V} {g : TG} {tt : TT} {te : TE} {vs : List Nat} {σ : L2.St} {H : Hp} {D : Addr} {Qd : Hp → Prop} (hD : H D = none) (hS : SqT K H a xs) (hn : ys.length = xs.length) (hz : xs.length ≤ 1000000)
    (hs : ∀ (i : Nat) (x y : V) (T : Addr) (H' : Hp) (C : VK) (N : Hp → Prop), xs[i]? = some x → ys[i]? = some y → H' T = none → Same H H' → H' D ≠ none → (∀ H2, Same (upd H' T (.tup [.int (i : Nat), x])) H2 → C y H2) → g (.ref T) (wipe σ vs) (upd H' T (.tup [.int (i : Nat), x])) fun σ2 H2 => wipe σ2 vs = wipe σ vs ∧ tt σ2 H2 fun b H3 => if b = true then te σ2 H3 C else N H3)
    (hd : ∀ H', Same H H' → H' D = some (.lst ys) → Qd H') :
    ∃ W : Nat → Nat → Hp → Prop, (∃ m, W 0 m (upd H D (.lst []))) ∧ ∀ i m H, W i m H →
      ((Itet K a).stop i H ∧ Qd H) ∨ ((Itet K a).go i H ∧ ∃ Nx : Hp → Prop, (∀ H', Nx H' → ∃ m', m' < m ∧ W (i + 1) m' H') ∧ ∀ x H', (Itet K a).yld i H x H' → g x (wipe σ vs) H' fun σ2 H2 => wipe σ2 vs = wipe σ vs ∧ tt σ2 H2 fun b H3 =>
        if b = true then te σ2 H3 fun y H4 => ∃ acc, H4 D = some (.lst acc) ∧ acc.length < sizeLine ∧ Nx (upd H4 D (.lst (acc ++ [y]))) else Nx H3) := by
  refine lc_enumT (K := K) (a := a) (xs := xs) (fun i H' => Same H H' ∧ H' D = some (.lst (ys.take i))) ⟨same_new hD, by rw [upd_same]; rfl⟩ (fun i H' _ p => same_sqt p.1 hS) (fun i x T H' hx hT p => ?_) (fun H' p => ?_)
  · have hi : i < ys.length := by
      rw [hn]
      exact (List.getElem?_eq_some_iff.mp hx).1
    refine hs i x ys[i] T H' _ _ hx (List.getElem?_eq_getElem hi) hT p.1 (ne_none p.2) fun H2 s2 => ⟨_, s2 _ _ (same_new hT _ _ p.2), ?_, ?_, ?_⟩
    · rw [List.length_take]
      exact small1000000 (by omega)
    · exact same_put (p.1.trans ((same_new hT).trans s2)) hD
    · rw [upd_same, List.take_add_one, List.getElem?_eq_getElem hi]
      rfl
  · refine hd H' p.1 ?_
    have e := p.2
    rw [← hn, List.take_length] at e
    exact e
/-- elements are data that are made on the way -/
theorem lc_enumD {K : PySem.W.Frag} {a : Addr} {xs : List V} {ys : List PyData} {g : TG} {tt : TT} {te : TE} {vs : List Nat} {σ : L2.St} {H : Hp} {D : Addr} {Qd : Hp → Prop} (M : Ms) (hM : Mk M H) (hD : H D = none) (hS : SqL K H a xs) (hn : ys.length = xs.length) (hz : xs.length ≤ 1000000)
    (hs : ∀ (i : Nat) (x : V) (y : PyData) (T : Addr) (H' : Hp) (C : VK) (N : Hp → Prop), xs[i]? = some x → ys[i]? = some y → H' T = none → Same H H' → Mk (also M D) (upd H' T (.tup [.int (i : Nat), x])) → (∀ v H2, Same (upd H' T (.tup [.int (i : Nat), x])) H2 → Rp (also M D) H2 v y → C v H2) → g (.ref T) (wipe σ vs) (upd H' T (.tup [.int (i : Nat), x])) fun σ2 H2 => wipe σ2 vs = wipe σ vs ∧ tt σ2 H2 fun b H3 => if b = true then te σ2 H3 C else N H3)
    (hd : ∀ H', Same H H' → Ld M H' D ys → Qd H') :
    ∃ W : Nat → Nat → Hp → Prop, (∃ m, W 0 m (upd H D (.lst []))) ∧ ∀ i m H, W i m H →
      ((Ite K a).stop i H ∧ Qd H) ∨ ((Ite K a).go i H ∧ ∃ Nx : Hp → Prop, (∀ H', Nx H' → ∃ m', m' < m ∧ W (i + 1) m' H') ∧ ∀ x H', (Ite K a).yld i H x H' → g x (wipe σ vs) H' fun σ2 H2 => wipe σ2 vs = wipe σ vs ∧ tt σ2 H2 fun b H3 =>
        if b = true then te σ2 H3 fun y H4 => ∃ acc, H4 D = some (.lst acc) ∧ acc.length < sizeLine ∧ Nx (upd H4 D (.lst (acc ++ [y]))) else Nx H3) := by
  refine lc_enum (K := K) (a := a) (xs := xs) (fun i H' => Same H H' ∧ ∃ acc, H' D = some (.lst acc) ∧ RpAll (also M D) H' acc (ys.take i)) ⟨same_new hD, [], upd_same, by rw [List.take_zero]; exact .nil⟩ (fun i H' _ p => p.1.seq hS) (fun i x T H' hx hT p => ?_) (fun H' p => ?_)
  · obtain ⟨s, acc, e, r⟩ := p
    have hi : i < ys.length := by
      rw [hn]
      exact (List.getElem?_eq_some_iff.mp hx).1
    have hl := r.length
    rw [List.length_take] at hl
    have s1 : Same H' (upd H' T (.tup [.int (i : Nat), x])) := same_new hT
    refine hs i x ys[i] T H' _ _ hx (List.getElem?_eq_getElem hi) hT s (((hM.gr (Gr.same s)).also (ne_none e)).gr (Gr.same s1)) fun v H2 s2 rv => ?_
    refine ⟨acc, s2 _ _ (s1 _ _ e), small1000000 (by omega), ?_, acc ++ [v], upd_same, ?_⟩
    · exact same_put (s.trans (s1.trans s2)) hD
    · rw [List.take_add_one, List.getElem?_eq_getElem hi]
      exact ((r.sx (Sx.same (s1.trans s2))).append (.one rv)).sx (Sx.put (.inr rfl))
  · obtain ⟨s, acc, e, r⟩ := p
    rw [← hn, List.take_length] at r
    exact hd H' s ⟨hM.out hD, acc, e, r.less also_le⟩
end D
namespace D
open PySem PySem.Spec PyProof.Rows L2
theorem mt_lcountK {K : PySem.W.Frag} {X : Cx} (hK : X.K = K) : MtR X "list.count" (rCntI K) := by subst hK; exact mt_lcount
end D
namespace D
open PySem PySem.Spec PyProof.Rows L2
section
variable {X : Cx} {K : PySem.W.Frag} {o e : Expr} {es : List Expr} {to : TE} {t : TA} {name : Str} {apos cpos : Pos} {T id : String} {r : V → List V → Hp → VK → Prop}
theorem pe_bm0K2 (hK : X.K = K) (pa : PlainAttrs T) (slot : Slot T name id) (hty : typeOf (.builtin id) = pure (.type "method_descriptor")) (hm : MtR X id r) (ho : PE X o to)
    (hbase : attributeBase o name X.env (eval o X.env) = eval o X.env := by rfl) (hline : (apos.endLine == cpos.line) = true := by rfl) : PE X (.Call (.Attribute o name apos) [] [] cpos) (tBM0 K T r to) := by
  subst hK
  exact pe_bm0 pa slot hty hm ho hbase hline
theorem pe_bmK2 (hK : X.K = K) (pa : PlainAttrs T) (slot : Slot T name id) (hty : typeOf (.builtin id) = pure (.type "method_descriptor")) (hm : MtR X id r) (ho : PE X o to) (ha : PA X (e :: es) t)
    (hbase : attributeBase o name X.env (eval o X.env) = eval o X.env := by rfl)
    (hfew : ((backTo cpos (starEach (e :: es) X.env)).all (fun x => !x.1) && (backToKw cpos (keywordEach [] X.env)).all (fun x => x.1.isSome)
      && decide ((e :: es).length + ([] : List Keyword).length + (if ([] : List Keyword).isEmpty then 0 else 1) < 30)) = true := by rfl)
    (hline : (apos.endLine == cpos.line) = true := by rfl) (hs : starEach (e :: es) X.env = (false, eval e X.env) :: starEach es X.env := by rfl) (hplain : (backTo cpos (starEach es X.env)).any (·.1) = false := by rfl) :
    PE X (.Call (.Attribute o name apos) (e :: es) [] cpos) (tBM K T r to t) := by
  subst hK
  exact pe_bm pa slot hty hm ho ha hbase hfew hline hs hplain
end
end D

namespace D
open PySem PySem.Spec PyProof.Rows L2
/-- comprehensions' loops, whatever their bodies -/
theorem rng_loop {n : Nat} {lo : Int} {Qd : Hp → Prop} {H0 : Hp} {B : V → Hp → (Hp → Prop) → Prop} (Pv : Nat → Hp → Prop) (h0 : Pv 0 H0) (hs : ∀ i H, i < n → Pv i H → B (.int (lo + (i : Nat))) H (Pv (i + 1))) (hd : ∀ H, Pv n H → Qd H) :
    ∃ W : Nat → Nat → Hp → Prop, (∃ m, W 0 m H0) ∧ ∀ i m H, W i m H → ((Itr lo n).stop i H ∧ Qd H) ∨ ((Itr lo n).go i H ∧ ∃ Nx : Hp → Prop, (∀ H', Nx H' → ∃ m', m' < m ∧ W (i + 1) m' H') ∧ ∀ x H', (Itr lo n).yld i H x H' → B x H' Nx) := by
  refine ⟨fun i m H => m = n - i ∧ i ≤ n ∧ Pv i H, ⟨_, rfl, Nat.zero_le _, h0⟩, ?_⟩
  rintro i m H ⟨rfl, hi, p⟩
  by_cases hlt : i < n
  · refine .inr ⟨hlt, Pv (i + 1), fun H' p' => ⟨n - (i + 1), by omega, rfl, hlt, p'⟩, fun x H' y => ?_⟩
    obtain ⟨rfl, rfl⟩ := y
    exact hs i _ hlt p
  · have e : i = n := by omega
    subst e
    exact .inl ⟨Nat.le_refl _, hd H p⟩
theorem list_loop {K : PySem.W.Frag} {a : Addr} {xs : List V} {Qd : Hp → Prop} {H0 : Hp} {B : V → Hp → (Hp → Prop) → Prop} (Pv : Nat → Hp → Prop) (h0 : Pv 0 H0) (hl : ∀ i H, i ≤ xs.length → Pv i H → SqL K H a xs) (hs : ∀ i x H, xs[i]? = some x → Pv i H → B x H (Pv (i + 1))) (hd : ∀ H, Pv xs.length H → Qd H) :
    ∃ W : Nat → Nat → Hp → Prop, (∃ m, W 0 m H0) ∧ ∀ i m H, W i m H → ((Itl K a).stop i H ∧ Qd H) ∨ ((Itl K a).go i H ∧ ∃ Nx : Hp → Prop, (∀ H', Nx H' → ∃ m', m' < m ∧ W (i + 1) m' H') ∧ ∀ x H', (Itl K a).yld i H x H' → B x H' Nx) := by
  refine ⟨fun i m H => m = xs.length - i ∧ i ≤ xs.length ∧ Pv i H, ⟨_, rfl, Nat.zero_le _, h0⟩, ?_⟩
  rintro i m H ⟨rfl, hi, p⟩
  have q := hl i H hi p
  by_cases hlt : i < xs.length
  · refine .inr ⟨⟨xs, xs[i], q, by simp [hlt]⟩, Pv (i + 1), fun H' p' => ⟨xs.length - (i + 1), by omega, rfl, hlt, p'⟩, fun x H' y => ?_⟩
    obtain ⟨e, y⟩ := y
    subst e
    exact hs i x _ (y xs q) p
  · have e : i = xs.length := by omega
    subst e
    exact .inl ⟨⟨xs, q, Nat.le_refl _⟩, hd H p⟩
theorem tup_loop {K : PySem.W.Frag} {a : Addr} {xs : List V} {Qd : Hp → Prop} {H0 : Hp} {B : V → Hp → (Hp → Prop) → Prop} (Pv : Nat → Hp → Prop) (h0 : Pv 0 H0) (hl : ∀ i H, i ≤ xs.length → Pv i H → SqT K H a xs) (hs : ∀ i x H, xs[i]? = some x → Pv i H → B x H (Pv (i + 1))) (hd : ∀ H, Pv xs.length H → Qd H) :
    ∃ W : Nat → Nat → Hp → Prop, (∃ m, W 0 m H0) ∧ ∀ i m H, W i m H → ((Itt K a).stop i H ∧ Qd H) ∨ ((Itt K a).go i H ∧ ∃ Nx : Hp → Prop, (∀ H', Nx H' → ∃ m', m' < m ∧ W (i + 1) m' H') ∧ ∀ x H', (Itt K a).yld i H x H' → B x H' Nx) := by
  refine ⟨fun i m H => m = xs.length - i ∧ i ≤ xs.length ∧ Pv i H, ⟨_, rfl, Nat.zero_le _, h0⟩, ?_⟩
  rintro i m H ⟨rfl, hi, p⟩
  have q := hl i H hi p
  by_cases hlt : i < xs.length
  · refine .inr ⟨⟨xs, xs[i], q, by simp [hlt]⟩, Pv (i + 1), fun H' p' => ⟨xs.length - (i + 1), by omega, rfl, hlt, p'⟩, fun x H' y => ?_⟩
    obtain ⟨e, y⟩ := y
    subst e
    exact hs i x _ (y xs q) p
  · have e : i = xs.length := by omega
    subst e
    exact .inl ⟨⟨xs, q, Nat.le_refl _⟩, hd H p⟩
/-- a dict made of pairs of whole numbers -/
def toldK (ps : List (Int × Int)) : List (Key × V) := ps.foldl (fun k p => putK k (.inl p.2) (.int p.1)) []
theorem putK_le (c : List (Key × V)) (k : Key) (x : V) : (putK c k x).length ≤ c.length + 1 := by
  unfold putK
  split
  · rw [List.length_map]; omega
  · rw [List.length_append]; exact Nat.le_refl _
theorem toldK_snoc (ps : List (Int × Int)) (p : Int × Int) : toldK (ps ++ [p]) = putK (toldK ps) (.inl p.2) (.int p.1) := by
  unfold toldK
  rw [List.foldl_append]
  rfl
theorem told_all (ps : List (Int × Int)) : ∀ qs : List (Int × Int), (∀ p ∈ qs, p ∈ ps) → ∀ s w, valV (toldK qs) (.inl s) = some w → ∃ v, w = .int v ∧ (v, s) ∈ ps := by
  suffices h : ∀ (qs : List (Int × Int)) (c : List (Key × V)), (∀ p ∈ qs, p ∈ ps) → (∀ s w, valV c (.inl s) = some w → ∃ v, w = .int v ∧ (v, s) ∈ ps) → ∀ s w, valV (qs.foldl (fun k p => putK k (.inl p.2) (.int p.1)) c) (.inl s) = some w → ∃ v, w = .int v ∧ (v, s) ∈ ps from fun qs hq => h qs [] hq (fun s w e => nomatch e)
  intro qs
  induction qs with
  | nil => intro c _ hc; exact hc
  | cons q r ih =>
    intro c hq hc
    refine ih _ (fun p hp => hq p (List.mem_cons_of_mem _ hp)) (fun s w e => ?_)
    rw [valV_put] at e
    split at e
    · rename_i e2
      cases e2
      cases e
      exact ⟨_, rfl, hq q List.mem_cons_self⟩
    · exact hc s w e
theorem told_mem : ∀ (qs : List (Int × Int)) (p : Int × Int), p ∈ qs → ∃ w, valV (toldK qs) (.inl p.2) = some w := by
  suffices h : ∀ (qs : List (Int × Int)) (c : List (Key × V)) (s : Int), ((∃ p ∈ qs, p.2 = s) ∨ ∃ w, valV c (.inl s) = some w) → ∃ w, valV (qs.foldl (fun k p => putK k (.inl p.2) (.int p.1)) c) (.inl s) = some w from fun qs p hp => h qs [] p.2 (.inl ⟨p, hp, rfl⟩)
  intro qs
  induction qs with
  | nil =>
    intro c s h
    rcases h with ⟨_, h, _⟩ | h
    · exact nomatch h
    · exact h
  | cons q r ih =>
    intro c s h
    refine ih _ s ?_
    rcases h with ⟨p, hp, e⟩ | ⟨w, e⟩
    · rcases List.mem_cons.mp hp with rfl | hp
      · exact .inr ⟨_, by rw [valV_put, if_pos (by rw [e])]⟩
      · exact .inl ⟨p, hp, e⟩
    · right
      rw [valV_put]
      split
      · exact ⟨_, rfl⟩
      · exact ⟨w, e⟩
/-- what such a dict tells of a pair -/
theorem told_get {ps : List (Int × Int)} {p : Int × Int} (h : p ∈ ps) : ∃ v, valV (toldK ps) (.inl p.2) = some (.int v) ∧ (v, p.2) ∈ ps := by
  obtain ⟨w, e⟩ := told_mem ps p h
  obtain ⟨v, rfl, hv⟩ := told_all ps ps (fun _ h => h) _ _ e
  exact ⟨v, e, hv⟩
end D

namespace D
open PySem PySem.Spec PyProof.Rows L2
/-! ### dict comprehensions whose keys are tuples (after the layer's own for ints and texts) -/
theorem d_dictSetT {X : Cx} {pins : List (Addr × Obj)} {σ : L2.St} {H : Hp} {s : Shared} {E : Value → Shared → Prop} {D : Addr} {kvs : List (List Key × V)} {k : List Key} {b : Addr} {v : V} {u r : Value} {Q : Unit → Shared → Prop} (hu : X.A.units + 1 < cLine) (I : Inv X pins σ H s) (hD : H D = some (.dT kvs)) (hz : kvs.length < sizeLine)
    (eb : H b = some (.tup (k.map kV))) (ry : RelV (.ref b) u) (rv : RelV v r) (h : ∀ s', Inv X pins σ (upd H D (.dT (putK kvs k v))) s' → Q () s') : wpAny (model X.prog X.w) X.A (dictSet D u r) Q E s := by
  cases (show u = Value.ref b from ry)
  obtain ⟨z, hd, xs, rel, dd⟩ := dt_of I.hok hD
  have hz' : xs.length ≤ sizeLine := by rw [← Paired.length rel]; exact z
  have hl : (putK kvs k v).length ≤ sizeLine := by have := length_putK kvs k v; omega
  refine wpAny_dictSet_heap (hsz := hz') (show (tupleKind (mixKind X.prog X.w)).room X.A from Nat.lt_of_succ_lt hu) (key_of I.hok eb) dd fun h' dd' hs => h _ ?_
  obtain ⟨q, es, ep, hq, h2, h3, h4, _, h5⟩ := dd'
  refine d_write I (by rw [hD]; exact True.intro) hs ⟨q, hq⟩ ⟨hl, hd, _, (rel.put k eb rv).keeps fun c ys ec => ?_, q, es, ep, hq, h2, h3, h4, h5⟩
  rw [upd_ne (ne_of ec hD (fun z => nomatch z))]
  exact ec
theorem key_rd {P : Program} {w : World} {H : Hp} {h : Heap} {a : Addr} {ks : List Key} (ok : HOk P w H h) (e : Rd H a (.tup (ks.map kV))) : (tupleKind (mixKind P w)).is h ks a := by
  obtain ⟨_, its, r, o, h1, h2, n, h3⟩ := (show ObjOk P w H h a (.tup (ks.map kV)) from rd_of ok e)
  exact ⟨o, its.toArray, n, h1, h2, h3, by simpa using items_are r⟩
section
variable {X : Cx}
/-- something holds of all contexts that a block may have -/
abbrev InBlk (X : Cx) (sc : Scope) (F : Cx → Prop) : Prop := ∀ (t : Shared) (G : Hp) (L : Addr) (cells : List (Str × Addr)) (feet : List Addr), F (X.blk t G sc (compEnvC sc cells L X.env) feet)
/-- what a comprehension does with a new dict at D: O what stands there, Put the storing of a pair -/
def tDcG (O : Addr → HO) (Put : Addr → (Hp → Prop) → V → V → Hp → Prop) (walk : TI) (g : TG) (tt : TT) (tk tv : TE) (own : List Nat) : TE := fun σ H Q => walk σ H fun J H1 => ∀ D, H1 D = none → ∃ W : Nat → Nat → Hp → Prop, (∃ m, W 0 m (upd H1 D (O D))) ∧ ∀ i m G, W i m G →
  (J.stop i G ∧ Q (.ref D) G) ∨ (J.go i G ∧ ∃ N : Hp → Prop, (∀ G', N G' → ∃ m', m' < m ∧ W (i + 1) m' G') ∧
    ∀ x G', J.yld i G x G' → g x (wipe σ own) G' fun σ2 G2 => wipe σ2 own = wipe σ own ∧ tt σ2 G2 fun b G3 => if b = true then tk σ2 G3 fun y G4 => tv σ2 G4 fun z G5 => Put D N y z G5 else N G3)
/-- the pair is put into the dict at D -/
def PutT (D : Addr) (N : Hp → Prop) (y z : V) (G : Hp) : Prop := ∃ kvs k b, y = .ref b ∧ G b = some (.tup (k.map kV)) ∧ G D = some (.dT kvs) ∧ kvs.length < sizeLine ∧ N (upd G D (.dT (putK kvs k z)))
/-- what a storing must be -/
def Stores (X : Cx) (Put : Addr → (Hp → Prop) → V → V → Hp → Prop) : Prop := ∀ (B : Cx) (pins : List (Addr × Obj)) (σ : L2.St) (G : Hp) (t : Shared) (D : Addr) (N : Hp → Prop) (y z : V) (u r : Value) (Q : Unit → Shared → Prop) (E : Value → Shared → Prop),
  B.prog = X.prog → B.w = X.w → B.A = X.A → B.K = X.K → Inv B pins σ G t → Put D N y z G → RelV y u → RelV z r → (∀ t' G', Inv B pins σ G' t' → N G' → Q () t') → wpAny (model B.prog B.w) B.A (dictSet D u r) Q E t
theorem pe_dcG {O : Addr → HO} {Put : Addr → (Hp → Prop) → V → V → Hp → Prop} {kx vx tgt it : Expr} {ifs : List Expr} {sc : Scope} {own : List (Str × Nat)} {pos : Pos} {walk : TI} {g : TG} {tt : TT} {tk tv : TE} (mk0 : ∀ (H : Hp) (h : Heap), sysModules < h.objs.size → ObjOk X.prog X.w H (h.push { cls := .type "dict", data := .dict #[] }) h.objs.size (O h.objs.size)) (store : Stores X Put) (calm : X.calm = true) (nod : X.N.Nodup)
    (pi : PI X tgt it walk) (bo : BlkOk X.N X.env.scope sc own) (pg : InBlk X sc fun B => PG B tgt g) (pt : InBlk X sc fun B => PTs B ifs tt) (pk : InBlk X sc fun B => PE B kx tk) (pv : InBlk X sc fun B => PE B vx tv)
    (plain : ∀ x, foldedSetIterable it X.env x = pure x := by intro _; rfl) : PE X (.DictComp kx vx [⟨tgt, it, ifs, 0⟩] sc pos) (tDcG O Put walk g tt tk tv (own.map (·.2))) := ⟨fun pins s σ H Q I h => by
  rw [arm_eval_DictComp]
  have free : ∀ y ∈ sc.names, y.2 = .free → ∃ c, X.env.cells.lookup y.1 = some c := fun y hy e => (bo.free y hy e).elim (fun k => I.ok.has _ (.inl k)) fun k => I.ok.has _ (.inr k)
  refine wpAny_comprehension_free (use := none) rfl plain (closure_ok free) bo.kind (fun y hy e => by rw [bo.uniq y hy, e]) ?_
  -- what is walked, then the empty dict
  refine thn (pi.run pins s σ H _ I h) fun xv s1 hx => thn hx ?_
  rintro itv s2 ⟨ad, feet, tn, J, H2, rfl, I2, T, at2, ft2, q⟩
  refine wpAny_newObj_type (newEnv_comp ?_)
  have fresh : H2 s2.heap.objs.size = none := I2.hok.fresh (Nat.le_refl _)
  obtain ⟨W, ⟨m0, w0⟩, turn⟩ := q _ fresh
  let s3 : Shared := { s2 with heap := s2.heap.push { cls := .type "dict", data := .dict #[] } }
  let D : Addr := s2.heap.objs.size
  let H3 : Hp := upd H2 D (O D)
  let L : Addr := s3.heap.objs.size
  let e3 : Env := compEnvC sc (cellsFrom (L + 1) sc.names (cloFrom X.env.cells sc.names [])) L X.env
  let s4 : Shared := { s3 with heap := pushCells (s3.heap.push { cls := .type "dict", data := .dict #[] }) sc.names }
  have I3 : Inv X pins σ H3 s3 := I2.laid (t' := s2.toks) (fun _ _ e => Heap.get?_push_of_some _ e) (Nat.le_refl _) (mk0 _ s2.heap I2.big)
  have grown : ∀ b o, s2.heap.get? b = some o → s3.heap.get? b = some o := fun _ _ e => Heap.get?_push_of_some _ e
  have low : ∀ b ∈ feet, b < s2.heap.objs.size := fun b hb => Heap.lt_size (T.obj _ _ at2 b hb).choose_spec.1
  have ft3 : ∀ b ∈ feet, FpOk X pins H3 b ∧ b < s3.heap.objs.size := fun b hb => ⟨⟨(upd_ne (Nat.ne_of_lt (low b hb))).trans (ft2 b hb).1, (ft2 b hb).2⟩, by show b < (s2.heap.push _).objs.size; rw [Heap.size_push]; exact Nat.lt_succ_of_lt (low b hb)⟩
  have at3 : tn 0 s3.heap := T.keep _ _ _ at2 fun b _ o e => grown b o e
  have I4 : Inv (X.blk s3 H3 sc e3 feet) [] (wipe σ (own.map (·.2))) H3 s4 := block_start I3 bo nod ft3
  have at4 : tn 0 s4.heap := T.keep _ _ _ at3 fun b _ o e => pushCells_keeps _ _ _ _ (Heap.get?_push_of_some _ e)
  -- the walker's own objects in the block's context
  have foot : ∀ {σ' : L2.St} {G : Hp} {t : Shared}, Inv (X.blk s3 H3 sc e3 feet) [] σ' G t → (∀ b ∈ feet, G b = none) → ∀ b ∈ feet, FpOk (X.blk s3 H3 sc e3 feet) [] G b := by
    intro σ' G t J' none b hb
    refine ⟨none b hb, (J'.ok.exf b hb).1, J'.ok.exfs b hb, .inl hb, fun x c e => (J'.ok.exf b hb).2 x c e, ?_⟩
    intro p hp
    exact nomatch (show p ∈ ([] : List (Addr × Obj)) from by simpa using hp)
  have loop : codeAny (model X.prog X.w) X.A (.compLoop (.DictComp kx vx [⟨tgt, it, ifs, 0⟩] sc pos) 0 (.ref ad) (.ref D) e3) (compPost (model X.prog X.w) X.A X.xe none (fun v t => ∃ x G, Inv X pins σ G t ∧ RelV x v ∧ Q x G) (.ref D) L) s4 := by
    refine compLoop_anyD (fun n t => ∃ i G, Inv (X.blk s3 H3 sc e3 feet) [] (wipe σ (own.map (·.2))) G t ∧ tn i t.heap ∧ (∀ b ∈ feet, G b = none) ∧ W i n G) ?_ m0 ⟨0, H3, I4, at4, fun b hb => (ft3 b hb).1.1, w0⟩
    rintro n t ⟨i, G, IG, atG, nG, wG⟩
    obtain ⟨stop, fin⟩ | ⟨go, N, less, step⟩ := turn i n G wG
    · refine thnF (T.done (X.blk s3 H3 sc e3 feet) rfl rfl rfl calm i [] t _ G (fun _ _ => False) IG (foot IG nG) atG stop) ?_
      rintro r t6 ⟨rfl, I6⟩
      have I7 : Inv X pins σ G t6 := I3.call' (ch := feet) I6.os I6.base I6.hok I6.bare fun b hb => let z := (ft3 b hb).1.2; ⟨z.2.2.1, z.1, z.2.2.2.1, z.2.2.2.2⟩
      obtain ⟨m, names, _⟩ := I6.loc
      obtain ⟨a0, a1, a2, a3, a4, a5⟩ := I3.fpOk (Nat.le_refl _) (show G L = none from I6.free)
      exact ⟨m, names, fun h'' kept => ⟨.ref D, G, I7.turned (t' := t6.toks) (fun b o hb e => (kept.2 b hb).trans e) a0 a1 a3 a4 a5, rfl, fin⟩⟩
    · refine thnF (T.item (X.blk s3 H3 sc e3 feet) rfl rfl rfl calm i [] t _ G (fun _ _ => False) IG (foot IG nG) atG go) ?_
      rintro r t6 ⟨u, rfl, h6⟩
      refine thnF h6 ?_
      rintro _ t7 ⟨x, G7, I7, r7, y7, at7, n7⟩
      refine thnF ((pg _ _ _ _ _).run _ t7 _ G7 x u _ (I7.pinned (foot I7 n7) (T.obj _ _ at7)) r7 (step x G7 y7)) ?_
      rintro _ t8 ⟨σ8, G8, I8, wp8, q8⟩
      refine thnF ((pt _ _ _ _ _).run _ t8 σ8 G8 _ I8 q8) ?_
      rintro b t9 ⟨G9, I9, q9⟩
      have back : ∀ {t' : Shared} {G' : Hp}, Inv (X.blk s3 H3 sc e3 feet) ([] ++ pinsAt feet t7.heap) σ8 G' t' → N G' → ∃ m, m < n ∧ ∃ i G, Inv (X.blk s3 H3 sc e3 feet) [] (wipe σ (own.map (·.2))) G t' ∧ tn i t'.heap ∧ (∀ b ∈ feet, G b = none) ∧ W i m G := by
        intro t' G' I' nx
        obtain ⟨m', lt, w'⟩ := less G' nx
        have held : ∀ b ∈ feet, ∀ o, t7.heap.get? b = some o → t'.heap.get? b = some o ∧ G' b = none := fun b hb o e => let z := I'.pin (b, o) (List.mem_append_right _ (List.mem_append_right _ (mem_pinsAt hb e))); ⟨z.1, z.2.1⟩
        refine ⟨m', lt, i + 1, G', I'.unpinned.weak (by rw [← wp8, wipe_length]) fun j v e => ?_, T.keep _ _ _ at7 fun b hb o e => (held b hb o e).1, fun b hb => ?_, w'⟩
        · exact (wipe_some (wp8 ▸ e)).1
        · obtain ⟨o, e, _⟩ := T.obj _ _ at7 b hb
          exact (held b hb o e).2
      by_cases yes : b = true
      · subst yes
        refine thnF ((pk _ _ _ _ _).run _ t9 σ8 G9 _ I9 q9) ?_
        rintro ku t10 ⟨ky, G10, I10, r10, q10⟩
        refine thnF ((pv _ _ _ _ _).run _ t10 σ8 G10 _ I10 q10) ?_
        rintro vu t11 ⟨vy, G11, I11, r11, putting⟩
        exact store (X.blk s3 H3 sc e3 feet) _ _ _ _ _ _ _ _ _ _ _ _ rfl rfl rfl rfl I11 putting r10 r11 fun t12 G12 I12 nx => back I12 nx
      · have no : b = false := by cases b with | true => exact absurd rfl yes | false => rfl
        subst no
        exact back I9 q9
  exact codeAny_compStart_dict loop (T.self X.A 0 _ _ _ at4 loop)⟩
/-- keys that are tuples of ints and texts -/
abbrev tDcT (walk : TI) (g : TG) (tt : TT) (tk tv : TE) (own : List Nat) : TE := tDcG (fun _ => .dT []) PutT walk g tt tk tv own
theorem stores_T (hu : X.A.units + 1 < cLine) : Stores X PutT := by
  rintro B pins σ G t D N y z u r Q E e1 e2 e3 e4 I ⟨kvs, k, kb, rfl, tup, dict, room, nx⟩ ry rz h
  exact d_dictSetT (by rw [e3]; exact hu) I dict room tup ry rz fun t' I' => h t' _ I' nx
theorem pe_dcT {kx vx tgt it : Expr} {ifs : List Expr} {sc : Scope} {own : List (Str × Nat)} {pos : Pos} {walk : TI} {g : TG} {tt : TT} {tk tv : TE} (hu : X.A.units + 1 < cLine) (calm : X.calm = true) (nod : X.N.Nodup)
    (pi : PI X tgt it walk) (bo : BlkOk X.N X.env.scope sc own) (pg : InBlk X sc fun B => PG B tgt g) (pt : InBlk X sc fun B => PTs B ifs tt) (pk : InBlk X sc fun B => PE B kx tk) (pv : InBlk X sc fun B => PE B vx tv)
    (plain : ∀ x, foldedSetIterable it X.env x = pure x := by intro _; rfl) : PE X (.DictComp kx vx [⟨tgt, it, ifs, 0⟩] sc pos) (tDcT walk g tt tk tv (own.map (·.2))) :=
  pe_dcG (fun _ h b => dt_empty h b) (stores_T hu) calm nod pi bo pg pt pk pv plain
/-! ### dicts whose keys are tuples that may be known to their objects -/
/-- the dict at a: kvs its pairs, ks its keys with the tuples that stand for them -/
def KX (kvs : List (List Key × V)) (ks : List (List Key × Addr)) (xs : List (List Key × Addr × Value)) : Prop := Paired (fun (p : List Key × V) (q : List Key × Addr × Value) => p.1 = q.1 ∧ RelV p.2 q.2.2) kvs xs ∧ xs.map (fun q => (q.1, q.2.1)) = ks
def dXo (P : Program) (w : World) (a : Addr) (kvs : List (List Key × V)) (ks : List (List Key × Addr)) : HO := .ext fun h => kvs.length ≤ sizeLine ∧ (a == sysModules) = false ∧ ∃ xs, KX kvs ks xs ∧ (∃ o es ep, h.get? a = some o ∧ o.ExactDict ∧ o.data = .dict es ep ∧ es.toList = xs.map (entryOfKey (tupleKind (mixKind P w)))) ∧ (xs.map (·.1)).Nodup
theorem dXo_ok {P : Program} {w : World} {H : Hp} {h : Heap} {a : Addr} {kvs : List (List Key × V)} {ks : List (List Key × Addr)} {xs : List (List Key × Addr × Value)} {o : Obj} {es : Array DictEntry} {ep : Nat} (l : kvs.length ≤ sizeLine) (n : (a == sysModules) = false) (r : KX kvs ks xs) (g : h.get? a = some o) (x : o.ExactDict) (d : o.data = .dict es ep)
    (e : es.toList = xs.map (entryOfKey (tupleKind (mixKind P w)))) (nd : (xs.map (·.1)).Nodup) : ObjOk P w H h a (dXo P w a kvs ks) := by
  refine ⟨⟨l, n, xs, r, ⟨o, es, ep, g, x, d, e⟩, nd⟩, ⟨o, g⟩, ?_⟩
  rintro h1 h2 ⟨l1, n1, xs1, r1, ⟨o1, es1, ep1, g1, x1, d1, e1⟩, nd1⟩ same
  exact ⟨l1, n1, xs1, r1, ⟨o1, es1, ep1, same o1 g1, x1, d1, e1⟩, nd1⟩
/-- the tuples stand -/
def KsAt (H : Hp) (ks : List (List Key × Addr)) : Prop := ∀ p ∈ ks, Rd H p.2 (.tup (p.1.map kV))
theorem dXo_at {P : Program} {w : World} {H : Hp} {h : Heap} {a : Addr} {kvs : List (List Key × V)} {ks : List (List Key × Addr)} (ok : HOk P w H h) (e : H a = some (dXo P w a kvs ks)) (t : KsAt H ks) :
    kvs.length ≤ sizeLine ∧ (a == sysModules) = false ∧ ∃ xs, KX kvs ks xs ∧ h.DictOfH (tupleKind (mixKind P w)) a xs := by
  obtain ⟨⟨l, n, xs, r, ⟨o, es, ep, g, x, d, e1⟩, nd⟩, _⟩ := ok a _ e
  refine ⟨l, n, xs, r, o, es, ep, g, x, d, e1, fun q hq => ?_, nd⟩
  have hk : (q.1, q.2.1) ∈ ks := by rw [← r.2]; exact List.mem_map.mpr ⟨q, hq, rfl⟩
  exact key_rd ok (t _ hk)
theorem paired_keys {F : (List Key × V) → (List Key × Addr × Value) → Prop} (hF : ∀ p q, F p q → p.1 = q.1) : ∀ {kvs : List (List Key × V)} {xs : List (List Key × Addr × Value)}, Paired F kvs xs → kvs.map (·.1) = xs.map (·.1) := by
  intro kvs xs r
  induction r with
  | nil => rfl
  | cons h t ih => rw [List.map_cons, List.map_cons, ih, hF _ _ h]
theorem kx_val {kvs : List (List Key × V)} {ks : List (List Key × Addr)} {xs : List (List Key × Addr × Value)} (r : KX kvs ks xs) (k : List Key) : RelO (valV kvs k) ((atKey xs k).map (·.2)) := by
  replace r := r.1
  induction r with
  | nil => exact True.intro
  | @cons p q ps qs h t ih =>
    by_cases c : p.1 = k
    · have c' : q.1 = k := h.1.symm.trans c
      rw [valV_pos c, show atKey (q :: qs) k = some q.2 by simp [atKey, List.find?_cons, c']]
      exact h.2
    · have c' : ¬ q.1 = k := fun z => c (h.1.trans z)
      rw [valV_neg c, show atKey (q :: qs) k = atKey qs k by simp [atKey, List.find?_cons, c']]
      exact ih
/-- the keys behind a storing -/
def ksPut (kvs : List (List Key × V)) (ks : List (List Key × Addr)) (k : List Key) (b : Addr) : List (List Key × Addr) := if (valV kvs k).isSome = true then ks else ks ++ [(k, b)]
theorem kx_put {kvs : List (List Key × V)} {ks : List (List Key × Addr)} {xs : List (List Key × Addr × Value)} (r : KX kvs ks xs) (k : List Key) (b : Addr) {y : V} {u : Value} (ry : RelV y u) : KX (putK kvs k y) (ksPut kvs ks k b) (storedH xs k b u) := by
  have e : (valV kvs k).isSome = (atKey xs k).isSome := by rw [(kx_val r k).isSome_eq, Option.isSome_map]
  obtain ⟨r, rk⟩ := r
  unfold putK storedH ksPut
  rw [valV_any, e]
  by_cases c : (atKey xs k).isSome = true
  · rw [if_pos c, if_pos c, if_pos c]
    refine ⟨?_, ?_⟩
    · clear rk e c
      induction r with
      | nil => exact .nil
      | @cons p q ps qs h t ih =>
        refine .cons ?_ ih
        show (if p.1 = k then (p.1, y) else p).1 = (putAt k u q).1 ∧ RelV (if p.1 = k then (p.1, y) else p).2 (putAt k u q).2.2
        unfold putAt
        by_cases d : p.1 = k
        · rw [if_pos d, if_pos (h.1.symm.trans d)]
          exact ⟨h.1, ry⟩
        · rw [if_neg d, if_neg (fun z => d (h.1.trans z))]
          exact h
    · rw [← rk, List.map_map]
      refine List.map_congr_left fun q _ => ?_
      show ((putAt k u q).1, (putAt k u q).2.1) = _
      unfold putAt
      split <;> rfl
  · rw [if_neg c, if_neg c, if_neg c]
    exact ⟨Paired.snoc r ⟨rfl, ry⟩, by rw [List.map_append, rk]; rfl⟩
def PutX (P : Program) (w : World) (D : Addr) (N : Hp → Prop) (y z : V) (G : Hp) : Prop := ∃ kvs ks k b, y = .ref b ∧ Rd G b (.tup (k.map kV)) ∧ G D = some (dXo P w D kvs ks) ∧ KsAt G ks ∧ kvs.length < sizeLine ∧ N (upd G D (dXo P w D (putK kvs k z) (ksPut kvs ks k b)))
theorem stores_X (hu : X.A.units + 1 < cLine) : Stores X (PutX X.prog X.w) := by
  rintro B pins σ G t D N y z u r Q E e1 e2 e3 e4 I ⟨kvs, ks, k, kb, rfl, tup, dict, kat, room, nx⟩ ry rz h
  cases (show u = Value.ref kb from ry)
  rw [← e1, ← e2] at dict nx
  obtain ⟨l, n, xs, rel, dd⟩ := dXo_at I.hok dict kat
  have lx : xs.length = kvs.length := (Paired.length rel.1).symm
  refine wpAny_dictSet_heap (hsz := by omega) (show (tupleKind (mixKind B.prog B.w)).room B.A from by rw [e3]; exact Nat.lt_of_succ_lt hu) (key_rd I.hok tup) dd fun h' dd' same => h _ _ ?_ nx
  obtain ⟨o, es, ep, g, x, d, e5, _, nd⟩ := dd'
  exact d_write I (by rw [dict]; exact True.intro) same ⟨o, g⟩ (dXo_ok (Nat.le_trans (length_putK kvs k z) room) n (kx_put rel k kb rz) g x d e5 nd)
theorem dXo_empty {P : Program} {w : World} (H : Hp) (h : Heap) (b : sysModules < h.objs.size) : ObjOk P w H (h.push { cls := .type "dict", data := .dict #[] }) h.objs.size (dXo P w h.objs.size [] []) :=
  dXo_ok (xs := []) (Nat.zero_le _) (beq_eq_false_iff_ne.mpr (Ne.symm (Nat.ne_of_lt b))) ⟨.nil, rfl⟩ (Heap.get?_push_size _ rfl) ⟨rfl, rfl, rfl⟩ rfl rfl List.nodup_nil
abbrev tDcX (P : Program) (w : World) (walk : TI) (g : TG) (tt : TT) (tk tv : TE) (own : List Nat) : TE := tDcG (fun D => dXo P w D [] []) (PutX P w) walk g tt tk tv own
theorem pe_dcX {P : Program} {w : World} (hP : X.prog = P) (hw : X.w = w) {kx vx tgt it : Expr} {ifs : List Expr} {sc : Scope} {own : List (Str × Nat)} {pos : Pos} {walk : TI} {g : TG} {tt : TT} {tk tv : TE} (hu : X.A.units + 1 < cLine) (calm : X.calm = true) (nod : X.N.Nodup)
    (pi : PI X tgt it walk) (bo : BlkOk X.N X.env.scope sc own) (pg : InBlk X sc fun B => PG B tgt g) (pt : InBlk X sc fun B => PTs B ifs tt) (pk : InBlk X sc fun B => PE B kx tk) (pv : InBlk X sc fun B => PE B vx tv)
    (plain : ∀ x, foldedSetIterable it X.env x = pure x := by intro _; rfl) : PE X (.DictComp kx vx [⟨tgt, it, ifs, 0⟩] sc pos) (tDcX P w walk g tt tk tv (own.map (·.2))) := by
  subst hP hw
  exact pe_dcG (fun H h b => dXo_empty H h b) (stores_X hu) calm nod pi bo pg pt pk pv plain
/-- d[k] of such a dict -/
def tXGet (P : Program) (w : World) (td ty : TE) : TE := fun σ H Q => td σ H fun x H1 => ty σ H1 fun y H2 => ∃ a kvs ks k b v, x = .ref a ∧ y = .ref b ∧ H2 a = some (dXo P w a kvs ks) ∧ KsAt H2 ks ∧ Rd H2 b (.tup (k.map kV)) ∧ valV kvs k = some v ∧ Q v H2
theorem pe_xget {P : Program} {w : World} (hP : X.prog = P) (hw : X.w = w) (hu : X.A.units + 1 < cLine) {o i : Expr} {td ty : TE} {pos : Pos} (ho : PE X o td) (hi : PE X i ty) (hs : NoSl i) : PE X (.Subscript o i pos) (tXGet P w td ty) := by
  subst hP hw
  refine ⟨fun pins s σ H Q I h => ?_⟩
  refine subD_of PySem.F.slot_dict_getitem.lookup hs (thn (ho.run pins s σ H _ I h) fun ov s1 ⟨x, H1, I1, rx, q1⟩ => thn (hi.run pins s1 σ H1 _ I1 q1) ?_)
  rintro iv s2 ⟨y, H2, I2, ry, a, kvs, ks, k, b, v, rfl, rfl, dict, kat, tup, has, q2⟩
  obtain rfl : ov = Value.ref a := rx
  cases (show iv = Value.ref b from ry)
  obtain ⟨l, n, xs, rel, dd⟩ := dXo_at I2.hok dict kat
  have rv := kx_val rel k
  rw [has] at rv
  obtain ⟨u, hp, ru⟩ := RelO.some_of rv
  obtain ⟨p, hp', rfl⟩ := Option.map_eq_some_iff.mp hp
  refine ⟨?_, wpAny_getItem_heap (tupleKind_room_in1 hu) (key_rd I2.hok tup) dd hp' ?_⟩
  · obtain ⟨o', es, ep, g, x, _⟩ := dd
    exact ⟨o', g, x.1⟩
  · exact ⟨v, H2, I2.tok _, ru, q2⟩
/-- deep membership, in lists and in tuples -/
def rInDT (K : PySem.W.Frag) : R2 := fun x y H Q => ∃ d ds, Dp K H x d ∧ Dp K H y (.tuple ds) ∧ SeqAt.shaped d = true ∧ SeqAt.shaped (.tuple ds) = true ∧ Q (.bl (ds.any fun z => PyData.eqv z d)) H
def rNotInDT (K : PySem.W.Frag) : R2 := fun x y H Q => ∃ d ds, Dp K H x d ∧ Dp K H y (.tuple ds) ∧ SeqAt.shaped d = true ∧ SeqAt.shaped (.tuple ds) = true ∧ Q (.bl (!ds.any fun z => PyData.eqv z d)) H
theorem op_inDT {K : PySem.W.Frag} (hK : X.K = K) (hu : X.A.units + 65 < cLine) : OpR X (compareOp .In) (rInDT K) := by
  subst hK
  intro pins s σ H x y v u Q I rx ry h
  obtain ⟨d, ds, hd, he, sd, se, q⟩ := h
  obtain ⟨as, r1⟩ := Dp.reads I d x v hd rx
  obtain ⟨bs, r2⟩ := Dp.reads I (.tuple ds) y u he ry
  exact SeqAt.in_tuple_reads r2 r1 (SeqAt.canLay_of_shaped se) (SeqAt.canLay_of_shaped sd) (room_in_shaped sd hu) ⟨.bl _, H, I, rfl, q⟩
theorem op_notInDT {K : PySem.W.Frag} (hK : X.K = K) (hu : X.A.units + 65 < cLine) : OpR X (compareOp .NotIn) (rNotInDT K) := by
  subst hK
  intro pins s σ H x y v u Q I rx ry h
  obtain ⟨d, ds, hd, he, sd, se, q⟩ := h
  obtain ⟨as, r1⟩ := Dp.reads I d x v hd rx
  obtain ⟨bs, r2⟩ := Dp.reads I (.tuple ds) y u he ry
  exact SeqAt.notIn_tuple_reads r2 r1 (SeqAt.canLay_of_shaped se) (SeqAt.canLay_of_shaped sd) (room_in_shaped sd hu) ⟨.bl _, H, I, rfl, q⟩
theorem op_inDK {K : PySem.W.Frag} (hK : X.K = K) (hu : X.A.units + 65 < cLine) : OpR X (compareOp .In) (rInD K) := by subst hK; exact op_inD hu
theorem op_notInDK {K : PySem.W.Frag} (hK : X.K = K) (hu : X.A.units + 65 < cLine) : OpR X (compareOp .NotIn) (rNotInD K) := by subst hK; exact op_notInD hu
/-- t.index(n), the first place, of a tuple of ints -/
def rTIdx (K : PySem.W.Frag) : V → List V → Hp → VK → Prop := fun x xs H Q => ∃ p, ∃ ys : List Int, ∃ z j, x = .ref p ∧ xs = [.int z] ∧ SqT K H p (ys.map V.int) ∧ ys[j]? = some z ∧ (∀ m, m < j → ys[m]? ≠ some z) ∧ Q (.int (j : Nat)) H
theorem flat_ints (ys : List Int) : (ys.map V.int).all flatV = true := by induction ys <;> simp_all [flatV]
theorem mt_tup_indexI {K : PySem.W.Frag} (hK : X.K = K) : MtR X "tuple.index" (rTIdx K) := by
  subst hK
  rintro pins s σ H _ _ v us Q I rx rs ⟨p, ys, z, j, rfl, rfl, reads, found, first, q⟩
  cases rx
  obtain ⟨_, rfl, tk, rfl⟩ := vals1 rs
  obtain ⟨its, vals, ⟨⟨_, dd, _, sl⟩, stands, rfl, n, rfl⟩, _⟩ := I.tuple reads
  have size : its.length = ys.length := by simpa using vals.length.symm
  have item : ∀ m : Nat, m < ys.length → ∃ t', its[m]? = some (Value.int (ys.getD m 0) t') := by
    intro m hm
    obtain ⟨w, hw, t', rfl⟩ := vals.get (i := m) (x := V.int (ys.getD m 0)) (by simp [hm])
    exact ⟨t', hw⟩
  have eqs : ∀ (m : Nat) (hm : m < its.toArray.size), eqU (V.int z) its.toArray[m] = decide (ys.getD m 0 = z) := by
    intro m hm
    obtain ⟨t', e⟩ := item m (by simpa [size] using hm)
    have e' : its.toArray[m] = Value.int (ys.getD m 0) t' := by
      have := (List.getElem?_eq_some_iff.mp e).2
      simpa using this
    rw [e']
    rfl
  have inside := (List.getElem?_eq_some_iff.mp found).1
  have jz : ys.getD j 0 = z := by rw [List.getD_eq_getElem?_getD, found]; rfl
  have answer := TI.tuple_indexAt p its.toArray n dd sl (.int z tk) (eqU (.int z)) j (by simpa [size] using inside) (by rw [eqs, jz]; exact decide_eq_true rfl) (fun m hm lt => by
    rw [eqs]
    refine decide_eq_false fun e => first m lt ?_
    have inm : m < ys.length := by simpa [size] using hm
    rw [List.getElem?_eq_getElem inm, ← e, List.getD_eq_getElem?_getD, List.getElem?_eq_getElem inm]
    rfl)
  exact call_meets PySem.F.slot_tuple_index ⟨_, stands, rfl⟩ PySem.F.entry_tuple_index (PySem.F.args_tuple_index_2 _ _) answer
    ⟨stands, fun w hw => mem_eqAt (x := .int z) ⟨tk, rfl⟩ rfl vals (flat_ints ys) w (by simpa using hw), ⟨.int (j : Nat), H, I.tok _, ⟨_, rfl⟩, q⟩⟩
end
/-! ### loops over enumerate and zip, whatever their bodies -/
theorem enumL_loop {K : PySem.W.Frag} {a : Addr} {xs : List V} {Qd : Hp → Prop} {H0 : Hp} {B : V → Hp → (Hp → Prop) → Prop} (Pv : Nat → Hp → Prop) (h0 : Pv 0 H0) (hl : ∀ i H, i ≤ xs.length → Pv i H → SqL K H a xs) (hs : ∀ i x T H, xs[i]? = some x → H T = none → Pv i H → B (.ref T) (upd H T (.tup [.int (i : Nat), x])) (Pv (i + 1))) (hd : ∀ H, Pv xs.length H → Qd H) :
    ∃ W : Nat → Nat → Hp → Prop, (∃ m, W 0 m H0) ∧ ∀ i m H, W i m H → ((Ite K a).stop i H ∧ Qd H) ∨ ((Ite K a).go i H ∧ ∃ Nx : Hp → Prop, (∀ H', Nx H' → ∃ m', m' < m ∧ W (i + 1) m' H') ∧ ∀ x H', (Ite K a).yld i H x H' → B x H' Nx) := by
  refine ⟨fun i m H => m = xs.length - i ∧ i ≤ xs.length ∧ Pv i H, ⟨_, rfl, Nat.zero_le _, h0⟩, ?_⟩
  rintro i m H ⟨rfl, hi, p⟩
  have q := hl i H hi p
  by_cases hlt : i < xs.length
  · refine .inr ⟨⟨xs, xs[i], q, by simp [hlt]⟩, Pv (i + 1), fun H' p' => ⟨xs.length - (i + 1), by omega, rfl, hlt, p'⟩, fun x H' y => ?_⟩
    obtain ⟨T, z, rfl, hT, rfl, hz⟩ := y
    exact hs i z T _ (hz xs q) hT p
  · have e : i = xs.length := by omega
    subst e
    exact .inl ⟨⟨xs, q, Nat.le_refl _⟩, hd H p⟩
theorem enumT_loop {K : PySem.W.Frag} {a : Addr} {xs : List V} {Qd : Hp → Prop} {H0 : Hp} {B : V → Hp → (Hp → Prop) → Prop} (Pv : Nat → Hp → Prop) (h0 : Pv 0 H0) (hl : ∀ i H, i ≤ xs.length → Pv i H → SqT K H a xs) (hs : ∀ i x T H, xs[i]? = some x → H T = none → Pv i H → B (.ref T) (upd H T (.tup [.int (i : Nat), x])) (Pv (i + 1))) (hd : ∀ H, Pv xs.length H → Qd H) :
    ∃ W : Nat → Nat → Hp → Prop, (∃ m, W 0 m H0) ∧ ∀ i m H, W i m H → ((Itet K a).stop i H ∧ Qd H) ∨ ((Itet K a).go i H ∧ ∃ Nx : Hp → Prop, (∀ H', Nx H' → ∃ m', m' < m ∧ W (i + 1) m' H') ∧ ∀ x H', (Itet K a).yld i H x H' → B x H' Nx) := by
  refine ⟨fun i m H => m = xs.length - i ∧ i ≤ xs.length ∧ Pv i H, ⟨_, rfl, Nat.zero_le _, h0⟩, ?_⟩
  rintro i m H ⟨rfl, hi, p⟩
  have q := hl i H hi p
  by_cases hlt : i < xs.length
  · refine .inr ⟨⟨xs, xs[i], q, by simp [hlt]⟩, Pv (i + 1), fun H' p' => ⟨xs.length - (i + 1), by omega, rfl, hlt, p'⟩, fun x H' y => ?_⟩
    obtain ⟨T, z, rfl, hT, rfl, hz⟩ := y
    exact hs i z T _ (hz xs q) hT p
  · have e : i = xs.length := by omega
    subst e
    exact .inl ⟨⟨xs, q, rfl⟩, hd H p⟩
end D
namespace D
open PySem PySem.Spec PyProof.Rows L2
section
variable {X : Cx}
/-- tuple(list): the new object is known to have no dict -/
def rTupF (K : PySem.W.Frag) : List V → Hp → VK → Prop := fun xs H Q => ∃ p ys, xs = [.ref p] ∧ SqL K H p ys ∧ ∀ l o, H l = none → o.cls = .type "tuple" → o.dict = none → Q (.ref l) (upd H l (.frz o (.tup ys)))
theorem call_tupleF {K : PySem.W.Frag} (hK : X.K = K) : CallR X (.type "tuple") (rTupF K) := by
  subst hK
  intro pins s σ H xs us Q I r h
  obtain ⟨p, ys, rfl, hq, q⟩ := h
  obtain ⟨u, rfl, rx⟩ := vals1 r
  cases rx
  obtain ⟨its, r', pl, hz⟩ := I.list hq
  have hlen := r'.length
  refine call_tuple_list pl.isList (fun h' kp => ?_) (by simp only [List.size_toArray] <;> omega)
  have I1 : Inv X pins σ H { s with heap := h' } := I.kept (t' := s.toks) kp
  have I2 : Inv X pins σ (upd H h'.objs.size (.frz { cls := .type "tuple", data := .seq its.toArray } (.tup ys))) { s with heap := h'.push { cls := .type "tuple", data := .seq its.toArray } } :=
    I1.laid (t' := s.toks) (fun b o e => Heap.get?_push_of_some _ e) (Nat.le_refl _) (show ObjOk X.prog X.w _ _ _ (.frz _ (.tup ys)) from ⟨Heap.get?_push_size _ rfl, hz, its, r', IsTup.new _ _⟩)
  exact ⟨.ref h'.objs.size, _, I2, rfl, q _ _ (I1.hok.fresh (Nat.le_refl _)) rfl rfl⟩
/-- t[lo:hi], the cut known to its object -/
def rSlF (K : PySem.W.Frag) : V → Option Int → Option Int → Hp → VK → Prop := fun x lo hi H Q => ∃ a xs, x = .ref a ∧ SqT K H a xs ∧
  (HT.sIx xs.length 0 lo = 0 ∧ HT.sIx xs.length xs.length hi = xs.length → Q (.ref a) H) ∧ (¬ (HT.sIx xs.length 0 lo = 0 ∧ HT.sIx xs.length xs.length hi = xs.length) → ∀ p o, H p = none → o.cls = .type "tuple" → o.dict = none → Q (.ref p) (upd H p (.frz o (.tup (cutV xs lo hi)))))
theorem sl_tupF {K : PySem.W.Frag} (hK : X.K = K) : SlR X (rSlF K) := by
  subst hK
  rintro pins s σ H _ v vl vu lo hi sl Q I rx hs pl pu ⟨a, xs, rfl, reads, all, part⟩
  by_cases whole : HT.sIx xs.length 0 lo = 0 ∧ HT.sIx xs.length xs.length hi = xs.length
  · exact sl_tupA pins s σ H _ v vl vu lo hi sl Q I rx hs pl pu ⟨a, xs, rfl, reads, all, fun z => absurd whole z⟩
  · cases rx
    obtain ⟨its, vals, stands, small⟩ := I.tuple reads
    have size : its.toArray.size = xs.length := by rw [List.size_toArray]; exact vals.length.symm
    refine ⟨"tuple", _, PyProof.Rows.slot_tuple_getitem.lookup, stands.typeIs, HT.getItem_tuple_cut stands hs pl pu (by rw [size]; exact whole) ?_ (by rw [size]; exact small)⟩
    rw [size]
    have cut := (vals.drop (HT.sIx xs.length 0 lo)).take (HT.sIx xs.length xs.length hi - HT.sIx xs.length 0 lo)
    let ob : Obj := { cls := .type "tuple", data := .seq ((its.drop (HT.sIx xs.length 0 lo)).take (HT.sIx xs.length xs.length hi - HT.sIx xs.length 0 lo)).toArray }
    have good : ObjOk X.prog X.w (upd H s.heap.objs.size (.frz ob (.tup (cutV xs lo hi)))) (s.heap.push ob) s.heap.objs.size (.frz ob (.tup (cutV xs lo hi))) := ⟨Heap.get?_push_size _ rfl, Nat.le_trans (cutV_length xs lo hi) small, _, cut, IsTup.new _ _⟩
    exact ⟨.ref s.heap.objs.size, _, I.laid (t' := s.toks) (fun b ob e => Heap.get?_push_of_some _ e) (Nat.le_refl _) good, rfl, part whole _ ob (I.hok.fresh (Nat.le_refl _)) rfl rfl⟩
def tyTup (x : V) (H : Hp) : Prop := ∃ a o u, x = .ref a ∧ H a = some (.frz o u) ∧ o.cls = .type "tuple" ∧ o.dict = none
theorem ty_tup : TyOk X "tuple" tyTup := by
  intro pins σ H s x v I r h
  obtain ⟨a, o, u, rfl, e, hc, hd⟩ := h
  cases r
  obtain ⟨e2, _⟩ := I.hok a _ e
  refine ⟨⟨o, e2, hc⟩, fun b eb => ?_⟩
  cases eb
  exact ⟨o, e2, hd⟩
end
/-- rows -/
def RowAt (M : Ms) (H : Hp) (v : V) (ns : List Int) : Prop := ∃ a, v = .ref a ∧ ¬ M a ∧ Rd H a (.tup (ns.map V.int))
def RowF (M : Ms) (H : Hp) (v : V) (ns : List Int) : Prop := ∃ a o, v = .ref a ∧ ¬ M a ∧ H a = some (.frz o (.tup (ns.map V.int))) ∧ o.cls = .type "tuple" ∧ o.dict = none
theorem RowF.row {M : Ms} {H : Hp} {v : V} {ns : List Int} (h : RowF M H v ns) : RowAt M H v ns := by
  obtain ⟨a, o, e, n, ha, _⟩ := h
  exact ⟨a, e, n, .inr ⟨o, ha⟩⟩
theorem RowAt.sx {M : Ms} {H H' : Hp} {v : V} {ns : List Int} (h : RowAt M H v ns) (s : Sx M H H') : RowAt M H' v ns := by
  obtain ⟨a, e, n, ha⟩ := h
  exact ⟨a, e, n, sx_rd s n ha⟩
theorem RowF.sx {M : Ms} {H H' : Hp} {v : V} {ns : List Int} (h : RowF M H v ns) (s : Sx M H H') : RowF M H' v ns := by
  obtain ⟨a, o, e, n, ha, r⟩ := h
  exact ⟨a, o, e, n, s _ _ n ha, r⟩
theorem RowAt.less {M N : Ms} {H : Hp} {v : V} {ns : List Int} (h : RowAt M H v ns) (f : ∀ a, N a → M a) : RowAt N H v ns := by
  obtain ⟨a, e, n, ha⟩ := h
  exact ⟨a, e, fun z => n (f a z), ha⟩
theorem RowF.less {M N : Ms} {H : Hp} {v : V} {ns : List Int} (h : RowF M H v ns) (f : ∀ a, N a → M a) : RowF N H v ns := by
  obtain ⟨a, o, e, n, ha⟩ := h
  exact ⟨a, o, e, fun z => n (f a z), ha⟩
theorem RowF.fresh {M : Ms} {H : Hp} {v : V} {ns : List Int} {p : Addr} (hp : H p = none) (h : RowF M H v ns) : RowF (also M p) H v ns := by
  obtain ⟨a, o, e, n, ha, r⟩ := h
  refine ⟨a, o, e, fun z => ?_, ha, r⟩
  rcases z with z | z
  · exact n z
  · rw [show a = p from z, hp] at ha
    cases ha
end D

namespace D
open PySem PySem.Spec PyProof.Rows L2
theorem hu65 {A : Around} {k : Nat} (hr : Room k A) : A.units + 65 < cLine := by have := hr.un; omega
/-! ### idents and matches -/
abbrev IP := Int × Int
def idp (ws : List Int) : List IP := ws.mapIdx fun i w => (w, (((ws.take i).count w : Nat) : Int))
theorem idp_len (ws : List Int) : (idp ws).length = ws.length := List.length_mapIdx
theorem idp_at {ws : List Int} {i : Nat} {w : Int} (h : ws[i]? = some w) : (idp ws)[i]? = some (w, (((ws.take i).count w : Nat) : Int)) := by
  unfold idp
  rw [List.getElem?_mapIdx, h]
  rfl
theorem nodup_get {α : Type} {l : List α} : l.Nodup ↔ ∀ i j : Nat, i < j → j < l.length → l[i]? ≠ l[j]? := by
  unfold List.Nodup
  rw [List.pairwise_iff_getElem]
  constructor
  · intro h i j hij hj e
    rw [List.getElem?_eq_getElem (Nat.lt_trans hij hj), List.getElem?_eq_getElem hj] at e
    exact h i j (Nat.lt_trans hij hj) hj hij (Option.some.inj e)
  · intro h i j hi hj hij e
    exact h i j hij hj (by rw [List.getElem?_eq_getElem hi, List.getElem?_eq_getElem hj, e])
theorem idp_nodup (ws : List Int) : (idp ws).Nodup := by
  rw [nodup_get]
  intro i j hij hj
  have hj' : j < ws.length := by rw [idp_len] at hj; exact hj
  have hi' : i < ws.length := Nat.lt_trans hij hj'
  have ei : ws[i]? = some ws[i] := List.getElem?_eq_getElem hi'
  have ej : ws[j]? = some ws[j] := List.getElem?_eq_getElem hj'
  rw [idp_at ei, idp_at ej]
  intro e
  have e' := Option.some.inj e
  have e1 : ws[i] = ws[j] := congrArg Prod.fst e'
  have e2 : (((ws.take i).count ws[i] : Nat) : Int) = ((ws.take j).count ws[j] : Nat) := congrArg Prod.snd e'
  have e3 : (ws.take i).count ws[i] = (ws.take j).count ws[j] := Int.ofNat.inj e2
  rw [← e1] at e3
  have s1 : List.Sublist ((ws.take (i + 1))) (ws.take j) := by
    have : ws.take (i + 1) = (ws.take j).take (i + 1) := by rw [List.take_take]; congr 1; omega
    rw [this]
    exact List.take_sublist _ _
  have c1 := s1.count_le ws[i]
  rw [List.take_add_one, ei, List.count_append] at c1
  have : List.count ws[i] (some ws[i]).toList = 1 := by simp
  omega
def pos (B : List IP) (x : IP) : Option Nat := if x ∈ B then some (B.idxOf x) else none
theorem pos_snoc {B : List IP} {b : IP} (hb : b ∉ B) (x : IP) : pos (B ++ [b]) x = if x = b then some B.length else pos B x := by
  unfold pos
  by_cases e : x = b
  · subst e
    rw [if_pos rfl, if_pos (by simp), List.idxOf_append, if_neg hb]
    simp
  · rw [if_neg e]
    by_cases m : x ∈ B
    · rw [if_pos m, if_pos (by simp [m]), List.idxOf_append, if_pos m]
    · rw [if_neg m, if_neg (by simp [m, e])]
theorem pos_take {B : List IP} (hB : B.Nodup) {i : Nat} {b : IP} (h : B[i]? = some b) (x : IP) : pos (B.take (i + 1)) x = if x = b then some i else pos (B.take i) x := by
  have hi : i < B.length := (List.getElem?_eq_some_iff.mp h).1
  have hb : b ∉ B.take i := by
    intro hm
    obtain ⟨j, hj⟩ := List.mem_iff_getElem?.mp hm
    have hji : j < i := by
      have := (List.getElem?_eq_some_iff.mp hj).1
      rw [List.length_take] at this
      omega
    rw [List.getElem?_take_of_lt hji] at hj
    exact (nodup_get.mp hB) j i hji hi (hj.trans h.symm)
  have e : B.take (i + 1) = B.take i ++ [b] := by rw [List.take_add_one, h]; rfl
  have := pos_snoc hb x
  rw [← e, List.length_take, Nat.min_eq_left (Nat.le_of_lt hi)] at this
  exact this
theorem pos_lt {B : List IP} {x : IP} {i : Nat} (h : pos B x = some i) : i < B.length ∧ B[i]? = some x := by
  unfold pos at h
  split at h
  · rename_i m
    cases h
    have hl := List.idxOf_lt_length_of_mem m
    exact ⟨hl, by rw [List.getElem?_eq_getElem hl, List.getElem_idxOf hl]⟩
  · cases h
/-- the key of an ident in a dict -/
def kk (x : IP) : List Key := [.inl x.1, .inl x.2]
theorem kk_inj {x y : IP} (h : kk x = kk y) : x = y := by
  have h' : [(Sum.inl x.1 : Key), .inl x.2] = [.inl y.1, .inl y.2] := h
  injection h' with h1 h2
  injection h2 with h2 _
  exact Prod.ext (Sum.inl.inj h1) (Sum.inl.inj h2)
/-- what a dict tells of idents -/
def Tells (kvs : List (List Key × V)) (B : List IP) : Prop := ∀ x, valV kvs (kk x) = (pos B x).map fun (i : Nat) => V.int (i : Int)
theorem tells_nil : Tells [] [] := fun x => by
  unfold pos
  rw [if_neg (by simp)]
  rfl
theorem tells_put {kvs : List (List Key × V)} {B : List IP} (hB : B.Nodup) {i : Nat} {b : IP} (h : B[i]? = some b) (t : Tells kvs (B.take i)) : Tells (putK kvs (kk b) (.int (i : Nat))) (B.take (i + 1)) := fun x => by
  rw [valV_put, pos_take hB h]
  by_cases e : x = b
  · subst e
    rw [if_pos rfl, if_pos rfl]
    rfl
  · rw [if_neg (fun z => e (kk_inj z)), if_neg e]
    exact t x
def mst (B : List IP) (x : IP) (j : Nat) : List IP := match pos B x with
  | some i => [((i : Int), (j : Int))]
  | none => []
def mt (B N : List IP) : List IP := (N.mapIdx fun j x => mst B x j).flatten
theorem mt_step (B : List IP) {N : List IP} {j : Nat} {x : IP} (h : N[j]? = some x) : mt B (N.take (j + 1)) = mt B (N.take j) ++ mst B x j := by
  have hj : j < N.length := (List.getElem?_eq_some_iff.mp h).1
  unfold mt
  rw [List.take_add_one, h]
  show (List.mapIdx _ (List.take j N ++ [x])).flatten = _
  rw [List.mapIdx_append, List.flatten_append]
  congr 1
  rw [List.length_take, Nat.min_eq_left (Nat.le_of_lt hj)]
  show [mst B x (0 + j)].flatten = _
  rw [Nat.zero_add]
  simp
theorem mst_take {B : List IP} (hB : B.Nodup) {i : Nat} {b : IP} (h : B[i]? = some b) (x : IP) (j : Nat) : mst (B.take (i + 1)) x j = mst (B.take i) x j ++ if b = x then [((i : Int), (j : Int))] else [] := by
  have hn : b = x → pos (B.take i) x = none := fun e => by
    subst e
    unfold pos
    rw [if_neg]
    intro hm
    obtain ⟨k, hk⟩ := List.mem_iff_getElem?.mp hm
    have hji : k < i := by
      have := (List.getElem?_eq_some_iff.mp hk).1
      rw [List.length_take] at this
      omega
    rw [List.getElem?_take_of_lt hji] at hk
    exact (nodup_get.mp hB) k i hji (List.getElem?_eq_some_iff.mp h).1 (hk.trans h.symm)
  unfold mst
  rw [pos_take hB h]
  by_cases e : x = b
  · rw [if_pos e, hn e.symm, if_pos e.symm]
    rfl
  · rw [if_neg e, if_neg (fun z => e z.symm), List.append_nil]
theorem mst_nil (x : IP) (j : Nat) : mst [] x j = [] := by
  unfold mst pos
  rw [if_neg (by simp)]
theorem mst_mem {B : List IP} {x : IP} {j : Nat} {p : IP} (h : p ∈ mst B x j) : ∃ i, i < B.length ∧ p = ((i : Int), (j : Int)) := by
  unfold mst at h
  split at h
  · rename_i i e
    exact ⟨i, (pos_lt e).1, List.mem_singleton.mp h⟩
  · exact nomatch h
theorem mt_mem {B N : List IP} {p : IP} (h : p ∈ mt B N) : ∃ i j : Nat, i < B.length ∧ j < N.length ∧ p = ((i : Int), (j : Int)) := by
  unfold mt at h
  obtain ⟨l, hl, hp⟩ := List.mem_flatten.mp h
  obtain ⟨j, hj, rfl⟩ := List.mem_mapIdx.mp hl
  obtain ⟨i, hi, e⟩ := mst_mem hp
  exact ⟨i, j, hi, hj, e⟩
theorem mst_len (B : List IP) (x : IP) (j : Nat) : (mst B x j).length ≤ 1 := by
  unfold mst
  split <;> simp
theorem mt_len (B N : List IP) : (mt B N).length ≤ N.length := by
  suffices h : ∀ n, n ≤ N.length → (mt B (N.take n)).length ≤ n by
    have := h N.length (Nat.le_refl _)
    rw [List.take_length] at this
    exact this
  intro n
  induction n with
  | zero => intro _; simp [mt]
  | succ n ih =>
    intro h
    rw [mt_step B (List.getElem?_eq_getElem (by omega : n < N.length)), List.length_append]
    have := ih (by omega)
    have := mst_len B N[n] n
    omega
/-- slips -/
def atI0 (l : List Int) (i : Int) : Int := l.getD i.toNat 0
theorem atI0_nat {l : List Int} {i : Nat} {x : Int} (h : l[i]? = some x) : atI0 l (i : Int) = x := by
  unfold atI0
  rw [Int.toNat_natCast, List.getD_eq_getElem?_getD, h]
  rfl
def sst (o n : List Int) (p : IP) : List IP := if atI0 o p.1 = atI0 n p.2 then [] else [(atI0 o p.1, atI0 n p.2)]
def slp (o n : List Int) (ms : List IP) : List IP := (ms.map (sst o n)).flatten
theorem slp_step (o n : List Int) {ms : List IP} {j : Nat} {p : IP} (h : ms[j]? = some p) : slp o n (ms.take (j + 1)) = slp o n (ms.take j) ++ sst o n p := by
  unfold slp
  rw [List.take_add_one, h, List.map_append, List.flatten_append]
  simp
theorem slp_len (o n : List Int) : ∀ ms : List IP, (slp o n ms).length ≤ ms.length
  | [] => Nat.le_refl _
  | p :: r => by
    have h1 := slp_len o n r
    have h2 : (sst o n p).length ≤ 1 := by unfold sst; split <;> simp
    show ((sst o n p) ++ slp o n r).length ≤ r.length + 1
    rw [List.length_append]
    omega
/-- lost items -/
def lst1 (o : List Int) (ms : List IP) (x : Int) (j : Nat) : List Int := if x ∈ o ∧ (((o.idxOf x : Nat) : Int), (j : Int)) ∉ ms then [x] else []
def lsts (o n : List Int) (ms : List IP) : List Int := (n.mapIdx fun j x => lst1 o ms x j).flatten
theorem lsts_step (o : List Int) (ms : List IP) {n : List Int} {j : Nat} {x : Int} (h : n[j]? = some x) : lsts o (n.take (j + 1)) ms = lsts o (n.take j) ms ++ lst1 o ms x j := by
  have hj : j < n.length := (List.getElem?_eq_some_iff.mp h).1
  unfold lsts
  rw [List.take_add_one, h]
  show (List.mapIdx _ (List.take j n ++ [x])).flatten = _
  rw [List.mapIdx_append, List.flatten_append]
  congr 1
  rw [List.length_take, Nat.min_eq_left (Nat.le_of_lt hj)]
  show [lst1 o ms x (0 + j)].flatten = _
  rw [Nat.zero_add]
  simp
theorem lsts_len (o n : List Int) (ms : List IP) : (lsts o n ms).length ≤ n.length := by
  suffices h : ∀ k, k ≤ n.length → (lsts o (n.take k) ms).length ≤ k by
    have := h n.length (Nat.le_refl _)
    rw [List.take_length] at this
    exact this
  intro k
  induction k with
  | zero => intro _; simp [lsts]
  | succ k ih =>
    intro h
    rw [lsts_step o ms (List.getElem?_eq_getElem (by omega : k < n.length)), List.length_append]
    have := ih (by omega)
    have : (lst1 o ms n[k] k).length ≤ 1 := by unfold lst1; split <;> simp
    omega
/-- deep facts of pairs -/
theorem pD_lay (p : IP) : (pD p).canLay0 = true := by simp [pD, PyData.canLay0, PyData.canLayAll0]
theorem pD_depth (p : IP) : (pD p).depth = 1 := by simp [pD, PyData.depth, PyData.depthAll]
theorem pDs_lay : ∀ ps : List IP, PyData.canLayAll0 (ps.map pD) = true
  | [] => rfl
  | p :: r => by simp [PyData.canLayAll0, pD_lay p, pDs_lay r]
theorem pDs_depth : ∀ ps : List IP, PyData.depthAll (ps.map pD) ≤ 1
  | [] => Nat.zero_le _
  | p :: r => by
    have := pDs_depth r
    simp only [List.map_cons, PyData.depthAll, pD_depth p]
    omega
theorem pD_shaped (p : IP) : SeqAt.shaped (pD p) = true := by
  refine Bool.and_eq_true_iff.mpr ⟨pD_lay p, decide_eq_true ?_⟩
  rw [pD_depth]
  decide
theorem pDs_shapedL (ps : List IP) : SeqAt.shaped (.list (ps.map pD)) = true := by
  refine Bool.and_eq_true_iff.mpr ⟨by simp [PyData.canLay0, pDs_lay ps], decide_eq_true ?_⟩
  have := pDs_depth ps
  simp only [PyData.depth]
  omega
theorem pDs_shapedT (ps : List IP) : SeqAt.shaped (.tuple (ps.map pD)) = true := by
  refine Bool.and_eq_true_iff.mpr ⟨by simp [PyData.canLay0, pDs_lay ps], decide_eq_true ?_⟩
  have := pDs_depth ps
  simp only [PyData.depth]
  omega
theorem pD_eqv (p q : IP) : PyData.eqv (pD p) (pD q) = decide (p = q) := by
  simp only [pD, PyData.eqv, PyData.eqvAll, Bool.and_true]
  rw [Bool.eq_iff_iff]
  simp only [Bool.and_eq_true, decide_eq_true_iff, beq_iff_eq, Prod.ext_iff]
theorem pD_any (ps : List IP) (p : IP) : ((ps.map pD).any fun z => PyData.eqv z (pD p)) = decide (p ∈ ps) := by
  rw [List.any_map, Bool.eq_iff_iff, List.any_eq_true, decide_eq_true_iff]
  constructor
  · rintro ⟨x, hx, e⟩
    have e' : PyData.eqv (pD x) (pD p) = true := e
    rw [pD_eqv, decide_eq_true_iff] at e'
    rw [← e']
    exact hx
  · intro h
    exact ⟨p, h, by show PyData.eqv (pD p) (pD p) = true; rw [pD_eqv]; exact decide_eq_true rfl⟩
end D
namespace D
open PySem PySem.Spec PyProof.Rows L2
/-! ### a list of data that grows beside -/
def Acc (M : Ms) (H : Hp) (D : Addr) (H' : Hp) (ys : List PyData) : Prop := H D = none ∧ Same H H' ∧ ∃ acc, H' D = some (.lst acc) ∧ RpAll (also M D) H' acc ys
theorem Acc.new {M : Ms} {H : Hp} {D : Addr} (hD : H D = none) : Acc M H D (upd H D (.lst [])) [] := ⟨hD, same_new hD, [], upd_same, .nil⟩
theorem Acc.keep {M : Ms} {H H1 H2 : Hp} {D : Addr} {ys : List PyData} (h : Acc M H D H1 ys) (s : Same H1 H2) : Acc M H D H2 ys := by
  obtain ⟨hD, s0, acc, e, r⟩ := h
  exact ⟨hD, s0.trans s, acc, s _ _ e, r.sx (Sx.same s)⟩
theorem Acc.same {M : Ms} {H H1 : Hp} {D : Addr} {ys : List PyData} (h : Acc M H D H1 ys) : Same H H1 := h.2.1
theorem Acc.at {M : Ms} {H H1 : Hp} {D : Addr} {ys : List PyData} (h : Acc M H D H1 ys) : ∃ acc, H1 D = some (.lst acc) ∧ acc.length = ys.length := by
  obtain ⟨hD, s0, acc, e, r⟩ := h
  exact ⟨acc, e, r.length⟩
theorem Acc.put {M : Ms} {H H1 : Hp} {D : Addr} {ys : List PyData} {v : V} {y : PyData} (h : Acc M H D H1 ys) (r : Rp (also M D) H1 v y) (hl : ys.length ≤ 1000000) : ∃ acc, H1 D = some (.lst acc) ∧ acc.length < sizeLine ∧ Acc M H D (upd H1 D (.lst (acc ++ [v]))) (ys ++ [y]) := by
  obtain ⟨hD, s0, acc, e, ra⟩ := h
  refine ⟨acc, e, small1000000 (by rw [ra.length]; exact hl), hD, same_put s0 hD, acc ++ [v], upd_same, ?_⟩
  exact (ra.append (.one r)).sx (Sx.put (.inr rfl))
theorem Acc.mk {M : Ms} {H H1 : Hp} {D : Addr} {ys : List PyData} (h : Acc M H D H1 ys) (hM : Mk M H) : Mk (also M D) H1 := by
  obtain ⟨hD, s0, acc, e, r⟩ := h
  exact (hM.gr (Gr.same s0)).also (ne_none e)
theorem Acc.fin {M : Ms} {H H1 : Hp} {D : Addr} {ys : List PyData} (h : Acc M H D H1 ys) (hM : Mk M H) : Ld M H1 D ys := by
  obtain ⟨hD, s0, acc, e, r⟩ := h
  exact ⟨hM.out hD, acc, e, r.less also_le⟩
theorem Acc.rp {M : Ms} {H H1 : Hp} {D : Addr} {ys : List PyData} (h : Acc M H D H1 ys) (hM : Mk M H) : Rp M H1 (.ref D) (.list ys) := (h.fin hM).rp
/-- what stood ahead is read in the same way beside the list -/
theorem Acc.old {M : Ms} {H H1 : Hp} {D : Addr} {ys : List PyData} {v : V} {d : PyData} (h : Acc M H D H1 ys) (r : Rp M H v d) : Rp (also M D) H1 v d := (r.fresh h.1).sx (Sx.same h.2.1)
theorem Acc.oldM {M : Ms} {H H1 : Hp} {D : Addr} {ys : List PyData} {v : V} {d : PyData} (h : Acc M H D H1 ys) (r : Rp M H v d) : Rp M H1 v d := r.sx (Sx.same h.2.1)
end D
namespace D
open PySem PySem.Spec PyProof.Rows L2
theorem Rp.newT {M : Ms} {H : Hp} {p : Addr} {us : List V} {ds : List PyData} (hM : Mk M H) (hp : H p = none) (r : RpAll M H us ds) : Rp M (upd H p (.tup us)) (.ref p) (.tuple ds) := .tup (hM.out hp) (.inl upd_same) (r.sx (Sx.new hp))
theorem Rp.newL {M : Ms} {H : Hp} {p : Addr} {us : List V} {ds : List PyData} (hM : Mk M H) (hp : H p = none) (r : RpAll M H us ds) : Rp M (upd H p (.lst us)) (.ref p) (.list ds) := .lst (hM.out hp) (.inl upd_same) (r.sx (Sx.new hp))
theorem Mk.new {M : Ms} {H : Hp} {p : Addr} {o : HO} (hM : Mk M H) : Mk M (upd H p o) := hM.gr Gr.upd
def unI : PyData → Int
  | .int i => i
  | _ => 0
theorem perm_ints {es : List PyData} {l : List Int} (h : es.Perm (l.map PyData.int)) : ∃ ns : List Int, ns.Perm l ∧ es = ns.map PyData.int := by
  refine ⟨es.map unI, ?_, ?_⟩
  · have h1 := h.map unI
    rw [List.map_map] at h1
    have e : l.map (unI ∘ PyData.int) = l := by
      have : (unI ∘ PyData.int) = id := rfl
      rw [this, List.map_id]
    rw [e] at h1
    exact h1
  · rw [List.map_map]
    have e : ∀ x ∈ es, (PyData.int ∘ unI) x = x := fun x hx => by
      obtain ⟨i, _, rfl⟩ := List.mem_map.mp (h.mem_iff.mp hx)
      rfl
    exact (List.map_id es).symm.trans (List.map_congr_left fun x hx => (e x hx).symm)
def ten : List Int := [0, 1, 2, 3, 4, 5, 6, 7, 8, 9]
theorem ten_take (n : Nat) : (ten.take n).Nodup ∧ ∀ x ∈ ten.take n, 0 ≤ x ∧ x ≤ 9 :=
  ⟨(show ten.Nodup by decide).sublist (List.take_sublist n ten), fun x hx => (show ∀ x ∈ ten, 0 ≤ x ∧ x ≤ 9 by decide) x (List.mem_of_mem_take hx)⟩
def mxd (m : Nat) (s : Fm) : Nat := max m s.dep
theorem FmAt.two {M : Ms} {H : Hp} {f : Fm} {xs : List V} (h : FmAt M H f xs) : (∃ y z, xs = [.str y, z] ∧ (y = sIs ∨ y = sGet) ∧ f.dep = 1) ∨ ∃ y r, xs = .str y :: r ∧ r ≠ [] ∧ y ≠ sIs ∧ y ≠ sGet ∧ RpAll M H r (f.subs.map Fm.enc) ∧ f.dep = f.subs.foldl mxd 0 + 1 := by
  cases h with
  | is n => exact .inl ⟨_, _, rfl, .inl rfl, rfl⟩
  | get x => exact .inl ⟨_, _, rfl, .inr rfl, rfl⟩
  | @sum f g u w a b =>
    refine .inr ⟨_, _, rfl, by simp, by decide +kernel, by decide +kernel, .cons a (.one b), ?_⟩
    show max f.dep g.dep + 1 = max (max 0 f.dep) g.dep + 1
    omega
  | @same f g u w a b =>
    refine .inr ⟨_, _, rfl, by simp, by decide +kernel, by decide +kernel, .cons a (.one b), ?_⟩
    show max f.dep g.dep + 1 = max (max 0 f.dep) g.dep + 1
    omega
  | @pick f g k u w z a b c =>
    refine .inr ⟨_, _, rfl, by simp, by decide +kernel, by decide +kernel, .cons a (.cons b (.one c)), ?_⟩
    show max f.dep (max g.dep k.dep) + 1 = max (max (max 0 f.dep) g.dep) k.dep + 1
    omega
theorem ints_mem {l : List Int} (h : ∀ n ∈ l, 0 ≤ n ∧ n ≤ 9) {v : V} (hv : v ∈ l.map V.int) : ∃ n, v = .int n ∧ 0 ≤ n ∧ n ≤ 9 := by
  obtain ⟨n, hn, rfl⟩ := List.mem_map.mp hv
  exact ⟨n, rfl, h n hn⟩
/-- a draw of a row -/
def DrR (K : PySem.W.Frag) (M : Ms) (b : Addr) (H : Hp) (R : List Int → Prop) (Q : VK) : Prop := ∀ v H' ns, Sx (one b) H H' → Gr H H' → Bag K M H' b → RowF M H' v ns → R ns → Q v H'
end D

namespace D
open PySem PySem.Spec PyProof.Rows L2
/-! ### rows that a key mixes up -/
theorem flat_ne {α β : Type} (f : α → List β) (l : List α) : (l.map f).flatten ≠ [] ↔ ∃ x ∈ l, f x ≠ [] := by
  induction l with
  | nil => simp
  | cons a r ih =>
    rw [List.map_cons, List.flatten_cons]
    constructor
    · intro h
      by_cases c : f a = []
      · rw [c, List.nil_append] at h
        obtain ⟨x, hx, e⟩ := ih.mp h
        exact ⟨x, List.mem_cons_of_mem _ hx, e⟩
      · exact ⟨a, List.mem_cons_self, c⟩
    · rintro ⟨x, hx, e⟩ z
      obtain ⟨z1, z2⟩ := List.append_eq_nil_iff.mp z
      rcases List.mem_cons.mp hx with rfl | hx
      · exact e z1
      · exact ih.mpr ⟨x, hx, e⟩ z2
theorem flat_ne_idx {α β : Type} (f : Nat → α → List β) (l : List α) : (l.mapIdx f).flatten ≠ [] ↔ ∃ (j : Nat) (x : α), l[j]? = some x ∧ f j x ≠ [] := by
  have h := flat_ne (fun y => y) (l.mapIdx f)
  rw [List.map_id'] at h
  rw [h]
  constructor
  · rintro ⟨y, hy, e⟩
    obtain ⟨j, hj⟩ := List.mem_iff_getElem?.mp hy
    rw [List.getElem?_mapIdx] at hj
    obtain ⟨x, hx, rfl⟩ := Option.map_eq_some_iff.mp hj
    exact ⟨j, x, hx, e⟩
  · rintro ⟨j, x, hx, e⟩
    exact ⟨f j x, List.mem_iff_getElem?.mpr ⟨j, by rw [List.getElem?_mapIdx, hx]; rfl⟩, e⟩
theorem pos_of {B : List IP} (hB : B.Nodup) {i : Nat} {x : IP} (h : B[i]? = some x) : pos B x = some i := by
  have hm : x ∈ B := List.mem_of_getElem? h
  have hi := (List.getElem?_eq_some_iff.mp h).1
  have h2 := List.idxOf_lt_length_of_mem hm
  have e2 : B[B.idxOf x]? = some x := by rw [List.getElem?_eq_getElem h2, List.getElem_idxOf h2]
  unfold pos
  rw [if_pos hm]
  rcases Nat.lt_trichotomy (B.idxOf x) i with c | c | c
  · exact absurd (e2.trans h.symm) (nodup_get.mp hB _ _ c hi)
  · rw [c]
  · exact absurd (h.trans e2.symm) (nodup_get.mp hB _ _ c h2)
theorem mem_mt {B N : List IP} (hB : B.Nodup) (i j : Nat) : ((i : Int), (j : Int)) ∈ mt B N ↔ ∃ x, B[i]? = some x ∧ N[j]? = some x := by
  constructor
  · intro h
    unfold mt at h
    obtain ⟨l, hl, hp⟩ := List.mem_flatten.mp h
    obtain ⟨k, hk, rfl⟩ := List.mem_mapIdx.mp hl
    unfold mst at hp
    cases e : pos B N[k] with
    | none => rw [e] at hp; exact nomatch hp
    | some m =>
      rw [e] at hp
      have hp' := List.mem_singleton.mp hp
      injection hp' with h1 h2
      have h1' : i = m := Int.ofNat.inj h1
      have h2' : j = k := Int.ofNat.inj h2
      subst h1' h2'
      exact ⟨_, (pos_lt e).2, List.getElem?_eq_getElem hk⟩
  · rintro ⟨x, h1, h2⟩
    unfold mt
    refine List.mem_flatten.mpr ⟨mst B x j, List.mem_iff_getElem?.mpr ⟨j, by rw [List.getElem?_mapIdx, h2]; rfl⟩, ?_⟩
    unfold mst
    rw [pos_of hB h1]
    exact List.mem_singleton.mpr rfl
def badB (o n : List Int) (B N : List IP) : Bool := !(slp o n (mt B N)).isEmpty || !(lsts o n (mt B N)).isEmpty
theorem idx_of {n : List Int} (h : n.Nodup) {i : Nat} {x : Int} (e : n[i]? = some x) : n.idxOf x = i := by
  have hi := (List.getElem?_eq_some_iff.mp e).1
  have hx : x ∈ n := List.mem_of_getElem? e
  have h2 := List.idxOf_lt_length_of_mem hx
  have e2 : n[n.idxOf x]? = some x := by rw [List.getElem?_eq_getElem h2, List.getElem_idxOf h2]
  rcases Nat.lt_trichotomy (n.idxOf x) i with c | c | c
  · exact absurd (e2.trans e.symm) (nodup_get.mp h _ _ c hi)
  · exact c
  · exact absurd (e.trans e2.symm) (nodup_get.mp h _ _ c h2)
theorem bad_iff {o n : List Int} {B N : List IP} (ho : o.Nodup) (hB : B.Nodup) (lB : B.length = o.length) (lN : N.length = n.length) :
    badB o n B N = true ↔ ∃ (i j : Nat) (x y : Int) (u v : IP), o[i]? = some x ∧ n[j]? = some y ∧ B[i]? = some u ∧ N[j]? = some v ∧ decide (u = v) ≠ decide (x = y) := by
  have e1 : badB o n B N = true ↔ (slp o n (mt B N) ≠ [] ∨ lsts o n (mt B N) ≠ []) := by
    unfold badB
    rw [Bool.or_eq_true]
    constructor
    · rintro (h | h)
      · left; intro z; rw [z] at h; exact nomatch h
      · right; intro z; rw [z] at h; exact nomatch h
    · rintro (h | h)
      · left; cases e : slp o n (mt B N) with
        | nil => exact absurd e h
        | cons a r => rfl
      · right; cases e : lsts o n (mt B N) with
        | nil => exact absurd e h
        | cons a r => rfl
  rw [e1]
  have at_ : ∀ {i : Nat}, i < o.length → ∃ u, B[i]? = some u := fun {i} h => ⟨B[i]'(by omega), List.getElem?_eq_getElem _⟩
  constructor
  · rintro (h | h)
    · obtain ⟨p, hp, e⟩ := (flat_ne (sst o n) (mt B N)).mp h
      obtain ⟨i, j, hi, hj, rfl⟩ := mt_mem hp
      obtain ⟨w, h1, h2⟩ := (mem_mt hB i j).mp hp
      have x1 : o[i]? = some (o[i]'(by omega)) := List.getElem?_eq_getElem _
      have x2 : n[j]? = some (n[j]'(by omega)) := List.getElem?_eq_getElem _
      refine ⟨i, j, _, _, w, w, x1, x2, h1, h2, ?_⟩
      rw [decide_eq_true rfl]
      intro z
      have z' := of_decide_eq_true z.symm
      apply e
      unfold sst
      rw [atI0_nat x1, atI0_nat x2, if_pos z']
    · obtain ⟨j, x, hx, e⟩ := (flat_ne_idx (fun j x => lst1 o (mt B N) x j) n).mp h
      have hc : x ∈ o ∧ (((o.idxOf x : Nat) : Int), (j : Int)) ∉ mt B N := by
        by_cases c : x ∈ o ∧ (((o.idxOf x : Nat) : Int), (j : Int)) ∉ mt B N
        · exact c
        · exact absurd (if_neg c) e
      have hix := List.idxOf_lt_length_of_mem hc.1
      have hj := (List.getElem?_eq_some_iff.mp hx).1
      obtain ⟨u, hu⟩ := at_ hix
      have hv : N[j]? = some (N[j]'(by omega)) := List.getElem?_eq_getElem _
      refine ⟨o.idxOf x, j, x, x, u, _, by rw [List.getElem?_eq_getElem hix, List.getElem_idxOf hix], hx, hu, hv, ?_⟩
      rw [decide_eq_true (show x = x from rfl)]
      intro z
      have z' := of_decide_eq_true z
      exact hc.2 ((mem_mt hB _ j).mpr ⟨u, hu, by rw [hv, z']⟩)
  · rintro ⟨i, j, x, y, u, v, hx, hy, hu, hv, hne⟩
    by_cases c : u = v
    · left
      subst c
      have hp : ((i : Int), (j : Int)) ∈ mt B N := (mem_mt hB i j).mpr ⟨u, hu, hv⟩
      refine (flat_ne (sst o n) (mt B N)).mpr ⟨_, hp, ?_⟩
      unfold sst
      rw [atI0_nat hx, atI0_nat hy, if_neg]
      · simp
      · intro z
        apply hne
        rw [decide_eq_true rfl, decide_eq_true z]
    · have xy : x = y := by
        by_cases z : x = y
        · exact z
        · exact absurd (by rw [decide_eq_false c, decide_eq_false z]) hne
      subst xy
      right
      refine (flat_ne_idx (fun j x => lst1 o (mt B N) x j) n).mpr ⟨j, x, hy, ?_⟩
      have hm : x ∈ o := List.mem_of_getElem? hx
      show lst1 o (mt B N) x j ≠ []
      unfold lst1
      rw [if_pos]
      · simp
      · refine ⟨hm, fun z => ?_⟩
        rw [idx_of ho hx] at z
        obtain ⟨w, h1, h2⟩ := (mem_mt hB i j).mp z
        exact c ((Option.some.inj (hu.symm.trans h1)).trans (Option.some.inj (h2.symm.trans hv)))
end D

namespace D
open PySem PySem.Spec PyProof.Rows L2
section
variable {X : Cx} {C g : Addr} {n : Nat} {CX : CXT} {sp : Sp} {E : XK} {fd : FuncData} {ps : List Str}
theorem room_in1 {A : Around} (r : Room (n + 1) A) : Room n A.in1 := ⟨r.hd, by have := r.dp; show A.depth + 3 * n + 5 < _; omega, by have := r.un; show A.units + 1 + 16 * n + 200 < _; omega⟩
/-- a def is run one step in -/
theorem run_in1 {pins : List (Addr × Obj)} {σ : L2.St} {H : Hp} {s : Shared} {Q : VK} {us : List Value} {vs : List V} (F : FnOk X.prog X.w X.K X.mg X.base CX n g fd ps sp) (hr : Room (n + 1) X.A) (hb : Binds X.K fd ps []) (hx : Passes CX X E)
    (I : Inv X pins σ H s) (r : Vals vs us) (h : sp vs H Q E) : wpAny (model X.prog X.w) X.A.in1 (call (.ref g) us) (EP X pins σ Q) X.xe s := by
  have hl : (us ++ []).length = ps.length := by rw [List.append_nil, ← r.length]; exact F.len _ _ _ _ h
  have bd := hb s us I.kIn hl
  rw [List.append_nil] at bd
  refine wpAny_call (codeAny_mono (F.run X.A.in1 X.stack s H ⟨us, []⟩ us vs Q E (room_in1 hr) I.env0.in1 bd r h) fun r s' hq => ?_)
  match r, hq with
  | .error e, hq => exact hx pins σ H s e s' I hq
  | .ok (.ret u), hq => exact I.after hq
  | .ok .next, hq => exact False.elim hq
  | .ok .brk, hq => exact False.elim hq
  | .ok .cont, hq => exact False.elim hq
/-- what an instance's own subscript reads: the def at g answers for the instance and the index -/
def tOwnIx (C : Addr) (sp : Sp) (E : XK) (to ti : TE) : TE := fun σ H Q => to σ H fun x H1 => ti σ H1 fun y H2 => ∃ a dx fs, x = .ref a ∧ H2 a = some (.ins C dx fs) ∧ sp [x, y] H2 Q E
theorem pe_ownIx {o i : Expr} {to ti : TE} {pos : Pos} (ho : PE X o to) (hi : PE X i ti) (hs : PySem.W.findIn X.K (.ref C) "__getitem__" = some (some (.ref g))) (hf : PySem.W.fnIn X.K g = true) (hg : PySem.W.isFn X.K (.ref g) = true)
    (F : FnOk X.prog X.w X.K X.mg X.base CX n g fd ps sp) (hb : Binds X.K fd ps []) (hr : Room (n + 1) X.A) (hx : Passes CX X E)
    (hsl : ∀ ov iv, subscripted i true ov iv = runValue (.builtin "lifetime.subscript" ⟨[ov, iv], []⟩)) : PE X (.Subscript o i pos) (tOwnIx C sp E to ti) := by
  refine ⟨fun pins s σ H Q I h => ?_⟩
  refine Subscript_ (thn (ho.run pins s σ H _ I h) fun ov s1 ⟨x, H1, I1, rx, q1⟩ => thn (hi.run pins s1 σ H1 _ I1 q1) fun iv s2 ⟨y, H2, I2, ry, a, dx, fs, ex, ha, q⟩ => ?_)
  subst ex
  obtain rfl : ov = Value.ref a := rx
  obtain ⟨mA, O, _⟩ := ins_get I2.hok ha
  obtain ⟨od, J, _⟩ := O.look
  obtain ⟨m, hF⟩ := I2.fr
  exact PySem.W.sub_K hF I2.ok.mod.kin J hs hf hg (run_in1 (us := [.ref a, iv]) (vs := [.ref a, y]) F hr hb hx I2 (.cons rfl (.cons ry .nil)) q) (hsl _ _)
/-- the store into an instance by its own def -/
theorem wp_ownPut {prog : Program} {w : World} {A : Around} {Ex : Value → Shared → Prop} {s : Shared} {K : PySem.W.Frag} {x C f : Addr} {ox : Obj} {od : Option Obj} {i v : Value} {Q : Unit → Shared → Prop} (hK : K.In s.heap) (J : PySem.W.InstAt s.heap x ox C od)
    (hq : PySem.W.noSeq K C = true) (hs : PySem.W.findIn K (.ref C) "__setitem__" = some (some (.ref f))) (hf : PySem.W.isFn K (.ref f) = true)
    (h : wpAny (model prog w) A (call (.ref f) [.ref x, i, v]) (fun _ => Q ()) Ex s) : wpAny (model prog w) A (setItem (.ref x) i v) Q Ex s := by
  unfold setItem sequenceKey
  have called : wpAny (model prog w) A (callSpecial? (.ref x) "__setitem__" [i, v]) (fun r => match r with | some _ => Q () | none => fun _ => False) Ex s :=
    PySem.W.special_fn hK J hs (beq_iff_eq.mp hf) h
  refine wpAny_holding (wpAny_bind (wpAny_bind (J.type.here (wpAny_bind ((PySem.W.anyM_none hK hq).here ?_)))))
  rw [if_pos (by rfl : (!false) = true)]
  refine wpAny_pure (wpAny_bind (wpAny_mono called (fun r s' z => ?_) fun _ _ z => z))
  match r, z with
  | some _, z => exact wpAny_pure z
/-- x[i] = v, an own def's store -/
def sOwnPut (C : Addr) (sp : Sp) (E : XK) (to ti tv : TE) : TS := fun D σ H => tv σ H fun v H1 => to σ H1 fun x H2 => ti σ H2 fun y H3 => ∃ a dx fs, x = .ref a ∧ H3 a = some (.ins C dx fs) ∧ sp [x, y, v] H3 (fun _ H4 => D.nx σ H4) E
theorem ps_ownPut {o i value : Expr} {pos pos' : Pos} {to ti tv : TE} (ho : PE X o to) (hi : PE X i ti) (hv : PE X value tv) (hq : PySem.W.noSeq X.K C = true) (hs : PySem.W.findIn X.K (.ref C) "__setitem__" = some (some (.ref g))) (hf : PySem.W.isFn X.K (.ref g) = true)
    (F : FnOk X.prog X.w X.K X.mg X.base CX n g fd ps sp) (hb : Binds X.K fd ps []) (hr : Room (n + 1) X.A) (hx : Passes CX X E) (sw : swapsWith value (some (.Subscript o i pos')) pos.line X.env = pure false) :
    PS X (.Assign [.Subscript o i pos'] value pos) (sOwnPut C sp E to ti tv) := by
  refine ⟨fun pins s σ H D I h => ?_⟩
  refine wpAny_Assign_Subscript (thn (hv.run pins s σ H _ I h) fun r s1 ⟨v, H1, I1, rv, q1⟩ => thn (ho.run pins s1 σ H1 _ I1 q1) fun u s2 ⟨x, H2, I2, rx, q2⟩ => thn (hi.run pins s2 σ H2 _ I2 q2) fun iv s3 ⟨y, H3, I3, ry, a, dx, fs, ex, ha, q⟩ => ?_) sw
  subst ex
  obtain rfl : u = Value.ref a := rx
  obtain ⟨mA, O, _⟩ := ins_get I3.hok ha
  obtain ⟨od, J, _⟩ := O.look
  refine wp_ownPut I3.kIn J hq hs hf (wpAny_mono (run_fn (us := [.ref a, iv, r]) (vs := [.ref a, y, v]) F (hr.mono (Nat.le_succ n)) hb .nil hx I3 (.cons rfl (.cons ry (.cons rv .nil))) q) (fun w s' z => ?_) fun _ _ z => z)
  obtain ⟨z', H', I', _, qz⟩ := z
  exact ⟨σ, H', I', qz⟩
theorem pi_zipAK {K : PySem.W.Frag} {e e2 : Expr} {ta : TA} {p pos tpos : Pos} {elts : List Expr} {kk : Nat} (hK : X.K = K) (hg : Gl X "zip") (hm : X.mg "zip" = none) (ha : PA X [e, e2] ta)
    (hs : starEach [e, e2] X.env = (false, eval e X.env) :: starEach [e2] X.env := by rfl) (hpl : (backTo pos (starEach [e2] X.env)).any (·.1) = false := by rfl) :
    PI X (.Tuple elts kk tpos) (.Call (.Name "zip" p) [e, e2] [] pos) (RZ.iZipA K ta) := by subst hK; exact RZ.pi_zipA hg hm ha hs hpl
end
/-- the loop over two tuples side by side, whatever its body -/
theorem zipT_loop {K : PySem.W.Frag} {a b : Addr} {xs ys : List V} {Qd : Hp → Prop} {H0 : Hp} {B : V → Hp → (Hp → Prop) → Prop} (he : xs.length = ys.length) (Pv : Nat → Hp → Prop) (h0 : Pv 0 H0) (hl : ∀ i H, i ≤ xs.length → Pv i H → SqT K H a xs ∧ SqT K H b ys)
    (hs : ∀ i x y T H, xs[i]? = some x → ys[i]? = some y → H T = none → Pv i H → B (.ref T) (upd H T (.tup [x, y])) (Pv (i + 1))) (hd : ∀ H, Pv xs.length H → Qd H) :
    ∃ W : Nat → Nat → Hp → Prop, (∃ m, W 0 m H0) ∧ ∀ i m H, W i m H → ((RZ.ItzT K a b).stop i H ∧ Qd H) ∨ ((RZ.ItzT K a b).go i H ∧ ∃ Nx : Hp → Prop, (∀ H', Nx H' → ∃ m', m' < m ∧ W (i + 1) m' H') ∧ ∀ x H', (RZ.ItzT K a b).yld i H x H' → B x H' Nx) := by
  refine ⟨fun i m H => m = xs.length - i ∧ i ≤ xs.length ∧ Pv i H, ⟨_, rfl, Nat.zero_le _, h0⟩, ?_⟩
  rintro i m H ⟨rfl, hi, p⟩
  obtain ⟨q1, q2⟩ := hl i H hi p
  by_cases hlt : i < xs.length
  · refine .inr ⟨⟨xs, ys, xs[i], ys[i]'(by omega), q1, q2, by simp [hlt], List.getElem?_eq_getElem _⟩, Pv (i + 1), fun H' p' => ⟨xs.length - (i + 1), by omega, rfl, hlt, p'⟩, fun x H' y => ?_⟩
    obtain ⟨T, u, v, rfl, hT, rfl, z1, z2⟩ := y
    exact hs i u v T _ (z1 xs q1) (z2 ys q2) hT p
  · have e : i = xs.length := by omega
    subst e
    exact .inl ⟨⟨xs, ys, q1, q2, .inl (Nat.le_refl _)⟩, hd H p⟩
/-- keys of pairs -/
def idk (p : IP) : List Key := [.inl p.1, .inl p.2]
theorem idk_inj {p q : IP} (h : idk p = idk q) : p = q := by
  unfold idk at h
  injection h with h1 h2
  injection h2 with h2 _
  exact Prod.ext (Sum.inl.inj h1) (Sum.inl.inj h2)
theorem idk_kV (p : IP) : (idk p).map kV = [.int p.1, .int p.2] := rfl
/-- a dict of whole numbers by pairs -/
def DN (kvs : List (List Key × V)) (N : IP → Option Int) : Prop := ∀ p : IP, valV kvs (idk p) = (N p).map V.int
def shownN (l : List IP) (N : IP → Option Int) : IP → Option Int := fun x => if x ∈ l then some ((N x).getD 0) else none
theorem DN.put {kvs : List (List Key × V)} {N : IP → Option Int} (h : DN kvs N) (p : IP) (w : Int) : DN (putK kvs (idk p) (.int w)) (fun x => if x = p then some w else N x) := fun x => by
  rw [valV_put]
  dsimp only
  by_cases c : x = p
  · rw [if_pos (by rw [c]), if_pos c]
    rfl
  · rw [if_neg (fun z => c (idk_inj z)), if_neg c]
    exact h x
theorem DN.show {kvs : List (List Key × V)} {N : IP → Option Int} {l : List IP} {n : IP} (h : DN kvs (shownN l N)) : DN (putK kvs (idk n) (.int ((N n).getD 0))) (shownN (l ++ [n]) N) := fun x => by
  rw [h.put n _ x]
  unfold shownN
  dsimp only
  by_cases c : x = n
  · subst c
    rw [if_pos rfl, if_pos (List.mem_append_right _ (List.mem_singleton.mpr rfl))]
  · rw [if_neg c]
    by_cases d : x ∈ l
    · rw [if_pos d, if_pos (List.mem_append_left _ d)]
    · rw [if_neg d, if_neg (fun z => (List.mem_append.mp z).elim d fun e => c (List.mem_singleton.mp e))]
theorem putK_len {κ : Type} [DecidableEq κ] {c : List (κ × V)} {k : κ} {x y : V} (h : valV c k = some y) : (putK c k x).length = c.length := by
  unfold putK
  rw [if_pos]
  · exact List.length_map _
  · unfold valV at h
    obtain ⟨q, hq, _⟩ := Option.map_eq_some_iff.mp h
    have hq2 := List.find?_some (p := fun kv : κ × V => decide (kv.1 = k)) hq
    exact List.any_eq_true.mpr ⟨q, List.mem_of_find?_eq_some hq, hq2⟩
theorem putK_more {κ : Type} [DecidableEq κ] (c : List (κ × V)) (k : κ) (x : V) : (putK c k x).length ≤ c.length + 1 := by
  unfold putK
  split
  · rw [List.length_map]; omega
  · rw [List.length_append]; exact Nat.le_refl _
end D

namespace D
open PySem PySem.Spec PyProof.Rows L2
section
variable {X : Cx} {es : List Expr} {t : TA} {pos : Pos}
theorem pe_notTK {K : PySem.W.Frag} {a : Expr} {ta : TE} (hK : X.K = K) (ha : PE X a ta) : PE X (.UnaryOp .Not a pos) (tNotT K ta) := by subst hK; exact pe_notT ha
/-- a written tuple, known to its object -/
def tTupF (t : TA) : TE := fun σ H Q => t σ H fun xs H1 => xs.length ≤ sizeLine ∧ ∀ p o, H1 p = none → o.cls = .type "tuple" → o.dict = none → Q (.ref p) (upd H1 p (.frz o (.tup xs)))
theorem pe_tupF {x1} (h : PA X es t) : PE X (.Tuple es x1 pos) (tTupF t) := by
  refine ⟨fun held st sl G C J want => ?_⟩
  refine wpAny_Tuple_spliced (thn (h.run pos held st sl G _ J want) fun vals st2 ⟨items, G2, J2, rel, fits, fin⟩ => ⟨by rw [← rel.length]; exact fits, ?_⟩)
  have unused : G2 st2.heap.objs.size = none := J2.hok.fresh (Nat.le_refl _)
  let made : Obj := { cls := .type "tuple", data := .seq vals.toArray }
  refine ⟨.ref st2.heap.objs.size, upd G2 st2.heap.objs.size (.frz made (.tup items)), J2.laid (t' := st2.toks) (fun _ _ old => Heap.get?_push_of_some _ old) (Nat.le_refl _) ?_, rfl, fin _ made unused rfl rfl⟩
  exact (show ObjOk X.prog X.w _ _ _ (.frz made (.tup items)) from ⟨Heap.get?_push_size _ rfl, fits, vals, rel, ⟨_, Heap.get?_push_size _ rfl, rfl, _, rfl⟩⟩)
/-- t + u, known to its object -/
def rCatF (K : PySem.W.Frag) : R2 := fun x y H Q => ∃ a b xs ys, x = .ref a ∧ y = .ref b ∧ SqT K H a xs ∧ SqT K H b ys ∧ xs.length + ys.length ≤ sizeLine ∧
  (xs = [] → Q (.ref b) H) ∧ (xs ≠ [] → ys = [] → Q (.ref a) H) ∧ (xs ≠ [] → ys ≠ [] → ∀ p o, H p = none → o.cls = .type "tuple" → o.dict = none → Q (.ref p) (upd H p (.frz o (.tup (xs ++ ys)))))
theorem op_catF {K : PySem.W.Frag} (hK : X.K = K) : OpR X (binaryOp .Add) (rCatF K) := by
  subst hK
  intro held st sl G x y v u C J relx rely want
  obtain ⟨one', two, left, right, rfl, rfl, readL, readR, fits, none1, none2, both⟩ := want
  by_cases emp : left = []
  · exact op_catA held st sl G _ _ v u C J relx rely ⟨one', two, left, right, rfl, rfl, readL, readR, fits, none1, fun no => absurd emp no, fun no => absurd emp no⟩
  cases relx
  cases rely
  obtain ⟨itemsL, relL, tupL, _⟩ := J.tuple readL
  obtain ⟨itemsR, relR, tupR, _⟩ := J.tuple readR
  refine HT.cat_tup tupL tupR (fun no => emp (relL.nil_iff.mp no)) (fun no => ⟨.ref one', G, J, rfl, none2 emp (relR.nil_iff.mp no)⟩) (fun full => ?_) (by rw [← relL.length, ← relR.length]; exact fits)
  let made : Obj := { cls := .type "tuple", data := .seq (itemsL ++ itemsR).toArray }
  refine ⟨.ref st.heap.objs.size, _, J.laid (t' := st.toks) (o := .frz made (.tup (left ++ right))) (fun _ _ old => Heap.get?_push_of_some _ old) (Nat.le_refl _) ?_, rfl, both emp (fun no => full (relR.nil_iff.mpr no)) _ made (J.hok.fresh (Nat.le_refl _)) rfl rfl⟩
  exact ⟨Heap.get?_push_size _ rfl, by rw [List.length_append]; exact fits, _, relL.append relR, IsTup.new _ _⟩
theorem dcG_core {pins : List (Addr × Obj)} {s : Shared} {σ : L2.St} {H : Hp} {Q : VK} {O : Addr → HO} {Put : Addr → (Hp → Prop) → V → V → Hp → Prop} {kx vx tgt it : Expr} {ifs : List Expr} {sc : Scope} {own : List (Str × Nat)} {pos pos' : Pos} {walk : TI} {g : TG} {tt : TT} {tk tv : TE} {use : Option (Value → Sem Unit)} {Qf : Value → Shared → Prop}
    (mk0 : ∀ (H : Hp) (h : Heap), sysModules < h.objs.size → ObjOk X.prog X.w H (h.push { cls := .type "dict", data := .dict #[] }) h.objs.size (O h.objs.size)) (store : Stores X Put) (calm : X.calm = true) (nod : X.N.Nodup) (I : Inv X pins σ H s)
    (pi : PI X tgt it walk) (bo : BlkOk X.N X.env.scope sc own) (pg : InBlk X sc fun B => PG B tgt g) (pt : InBlk X sc fun B => PTs B ifs tt) (pk : InBlk X sc fun B => PE B kx tk) (pv : InBlk X sc fun B => PE B vx tv)
    (plain : ∀ x, foldedSetIterable it X.env x = pure x) (h : tDcG O Put walk g tt tk tv (own.map (·.2)) σ H Q)
    (behind : ∀ made frame st names G, Inv X pins σ G st → Q (.ref made) G → st.heap.Ns frame names → FpOk X pins G frame → compPost (model X.prog X.w) X.A X.xe use Qf (.ref made) frame (.ok .next) st) :
    wpAny (model X.prog X.w) X.A (comprehension (.DictComp kx vx [⟨tgt, it, ifs, 0⟩] sc pos) sc X.env pos' newDict false (eval it X.env) use) Qf X.xe s := by
  have free : ∀ y ∈ sc.names, y.2 = .free → ∃ c, X.env.cells.lookup y.1 = some c := fun y hy e => (bo.free y hy e).elim (fun k => I.ok.has _ (.inl k)) fun k => I.ok.has _ (.inr k)
  refine wpAny_comprehension_free (use := use) rfl plain (closure_ok free) bo.kind (fun y hy e => by rw [bo.uniq y hy, e]) ?_
  -- what is walked, then the empty dict
  refine thn (pi.run pins s σ H _ I h) fun xv s1 hx => thn hx ?_
  rintro itv s2 ⟨ad, feet, tn, J, H2, rfl, I2, T, at2, ft2, q⟩
  refine wpAny_newObj_type (newEnv_comp ?_)
  have fresh : H2 s2.heap.objs.size = none := I2.hok.fresh (Nat.le_refl _)
  obtain ⟨W, ⟨m0, w0⟩, turn⟩ := q _ fresh
  let s3 : Shared := { s2 with heap := s2.heap.push { cls := .type "dict", data := .dict #[] } }
  let D : Addr := s2.heap.objs.size
  let H3 : Hp := upd H2 D (O D)
  let L : Addr := s3.heap.objs.size
  let e3 : Env := compEnvC sc (cellsFrom (L + 1) sc.names (cloFrom X.env.cells sc.names [])) L X.env
  let s4 : Shared := { s3 with heap := pushCells (s3.heap.push { cls := .type "dict", data := .dict #[] }) sc.names }
  have I3 : Inv X pins σ H3 s3 := I2.laid (t' := s2.toks) (fun _ _ e => Heap.get?_push_of_some _ e) (Nat.le_refl _) (mk0 _ s2.heap I2.big)
  have grown : ∀ b o, s2.heap.get? b = some o → s3.heap.get? b = some o := fun _ _ e => Heap.get?_push_of_some _ e
  have low : ∀ b ∈ feet, b < s2.heap.objs.size := fun b hb => Heap.lt_size (T.obj _ _ at2 b hb).choose_spec.1
  have ft3 : ∀ b ∈ feet, FpOk X pins H3 b ∧ b < s3.heap.objs.size := fun b hb => ⟨⟨(upd_ne (Nat.ne_of_lt (low b hb))).trans (ft2 b hb).1, (ft2 b hb).2⟩, by show b < (s2.heap.push _).objs.size; rw [Heap.size_push]; exact Nat.lt_succ_of_lt (low b hb)⟩
  have at3 : tn 0 s3.heap := T.keep _ _ _ at2 fun b _ o e => grown b o e
  have I4 : Inv (X.blk s3 H3 sc e3 feet) [] (wipe σ (own.map (·.2))) H3 s4 := block_start I3 bo nod ft3
  have at4 : tn 0 s4.heap := T.keep _ _ _ at3 fun b _ o e => pushCells_keeps _ _ _ _ (Heap.get?_push_of_some _ e)
  -- the walker's own objects in the block's context
  have foot : ∀ {σ' : L2.St} {G : Hp} {t : Shared}, Inv (X.blk s3 H3 sc e3 feet) [] σ' G t → (∀ b ∈ feet, G b = none) → ∀ b ∈ feet, FpOk (X.blk s3 H3 sc e3 feet) [] G b := by
    intro σ' G t J' none b hb
    refine ⟨none b hb, (J'.ok.exf b hb).1, J'.ok.exfs b hb, .inl hb, fun x c e => (J'.ok.exf b hb).2 x c e, ?_⟩
    intro p hp
    exact nomatch (show p ∈ ([] : List (Addr × Obj)) from by simpa using hp)
  have loop : codeAny (model X.prog X.w) X.A (.compLoop (.DictComp kx vx [⟨tgt, it, ifs, 0⟩] sc pos) 0 (.ref ad) (.ref D) e3) (compPost (model X.prog X.w) X.A X.xe use Qf (.ref D) L) s4 := by
    refine compLoop_anyD (fun n t => ∃ i G, Inv (X.blk s3 H3 sc e3 feet) [] (wipe σ (own.map (·.2))) G t ∧ tn i t.heap ∧ (∀ b ∈ feet, G b = none) ∧ W i n G) ?_ m0 ⟨0, H3, I4, at4, fun b hb => (ft3 b hb).1.1, w0⟩
    rintro n t ⟨i, G, IG, atG, nG, wG⟩
    obtain ⟨stop, fin⟩ | ⟨go, N, less, step⟩ := turn i n G wG
    · refine thnF (T.done (X.blk s3 H3 sc e3 feet) rfl rfl rfl calm i [] t _ G (fun _ _ => False) IG (foot IG nG) atG stop) ?_
      rintro r t6 ⟨rfl, I6⟩
      have I7 : Inv X pins σ G t6 := I3.call' (ch := feet) I6.os I6.base I6.hok I6.bare fun b hb => let z := (ft3 b hb).1.2; ⟨z.2.2.1, z.1, z.2.2.2.1, z.2.2.2.2⟩
      obtain ⟨m, names, _⟩ := I6.loc
      exact behind D L t6 m G I7 fin names (I3.fpOk (Nat.le_refl _) (show G L = none from I6.free))
    · refine thnF (T.item (X.blk s3 H3 sc e3 feet) rfl rfl rfl calm i [] t _ G (fun _ _ => False) IG (foot IG nG) atG go) ?_
      rintro r t6 ⟨u, rfl, h6⟩
      refine thnF h6 ?_
      rintro _ t7 ⟨x, G7, I7, r7, y7, at7, n7⟩
      refine thnF ((pg _ _ _ _ _).run _ t7 _ G7 x u _ (I7.pinned (foot I7 n7) (T.obj _ _ at7)) r7 (step x G7 y7)) ?_
      rintro _ t8 ⟨σ8, G8, I8, wp8, q8⟩
      refine thnF ((pt _ _ _ _ _).run _ t8 σ8 G8 _ I8 q8) ?_
      rintro b t9 ⟨G9, I9, q9⟩
      have back : ∀ {t' : Shared} {G' : Hp}, Inv (X.blk s3 H3 sc e3 feet) ([] ++ pinsAt feet t7.heap) σ8 G' t' → N G' → ∃ m, m < n ∧ ∃ i G, Inv (X.blk s3 H3 sc e3 feet) [] (wipe σ (own.map (·.2))) G t' ∧ tn i t'.heap ∧ (∀ b ∈ feet, G b = none) ∧ W i m G := by
        intro t' G' I' nx
        obtain ⟨m', lt, w'⟩ := less G' nx
        have held : ∀ b ∈ feet, ∀ o, t7.heap.get? b = some o → t'.heap.get? b = some o ∧ G' b = none := fun b hb o e => let z := I'.pin (b, o) (List.mem_append_right _ (List.mem_append_right _ (mem_pinsAt hb e))); ⟨z.1, z.2.1⟩
        refine ⟨m', lt, i + 1, G', I'.unpinned.weak (by rw [← wp8, wipe_length]) fun j v e => ?_, T.keep _ _ _ at7 fun b hb o e => (held b hb o e).1, fun b hb => ?_, w'⟩
        · exact (wipe_some (wp8 ▸ e)).1
        · obtain ⟨o, e, _⟩ := T.obj _ _ at7 b hb
          exact (held b hb o e).2
      by_cases yes : b = true
      · subst yes
        refine thnF ((pk _ _ _ _ _).run _ t9 σ8 G9 _ I9 q9) ?_
        rintro ku t10 ⟨ky, G10, I10, r10, q10⟩
        refine thnF ((pv _ _ _ _ _).run _ t10 σ8 G10 _ I10 q10) ?_
        rintro vu t11 ⟨vy, G11, I11, r11, putting⟩
        exact store (X.blk s3 H3 sc e3 feet) _ _ _ _ _ _ _ _ _ _ _ _ rfl rfl rfl rfl I11 putting r10 r11 fun t12 G12 I12 nx => back I12 nx
      · have no : b = false := by cases b with | true => exact absurd rfl yes | false => rfl
        subst no
        exact back I9 q9
  exact codeAny_compStart_dict loop (T.self X.A 0 _ _ _ at4 loop)
theorem ps_setDcG {i : Nat} {y : Str} {py : Pos} {O : Addr → HO} {Put : Addr → (Hp → Prop) → V → V → Hp → Prop} {kx vx tgt it : Expr} {ifs : List Expr} {sc : Scope} {own : List (Str × Nat)} {pos spos : Pos} {walk : TI} {g : TG} {tt : TT} {tk tv : TE}
    (mk0 : ∀ (H : Hp) (h : Heap), sysModules < h.objs.size → ObjOk X.prog X.w H (h.push { cls := .type "dict", data := .dict #[] }) h.objs.size (O h.objs.size)) (store : Stores X Put) (calm : X.calm = true) (nod : X.N.Nodup) (hy : X.N[i]? = some y) (hyl : X.env.scope.names.lookup y = some .local)
    (hsw : swapsWith (.DictComp kx vx [⟨tgt, it, ifs, 0⟩] sc pos) (some (.Name y py)) spos.line X.env = pure true)
    (pi : PI X tgt it walk) (bo : BlkOk X.N X.env.scope sc own) (pg : InBlk X sc fun B => PG B tgt g) (pt : InBlk X sc fun B => PTs B ifs tt) (pk : InBlk X sc fun B => PE B kx tk) (pv : InBlk X sc fun B => PE B vx tv)
    (plain : ∀ x, foldedSetIterable it X.env x = pure x := by intro _; rfl) :
    PS X (.Assign [.Name y py] (.DictComp kx vx [⟨tgt, it, ifs, 0⟩] sc pos) spos) (tAsg (tDcG O Put walk g tt tk tv (own.map (·.2))) (gName i)) := by
  refine ⟨fun held st sl G ends J want => ?_⟩
  rw [exec_Assign_Name_used _ _ _ _ hsw]
  refine wpAny_bind (wpAny_standAt ?_)
  refine wpAny_bind ?_
  show wpAny _ X.A (do let _ ← comprehension (.DictComp kx vx [⟨tgt, it, ifs, 0⟩] sc pos) sc X.env (firstIterPos [⟨tgt, it, ifs, 0⟩] pos) newDict false (eval it X.env) (some (assign (.Name y py) X.env))) _ _ st
  have want : tDcG O Put walk g tt tk tv (own.map (·.2)) sl G (fun x G1 => gName i x sl G1 ends.nx) := want
  refine wpAny_bind (thn (dcG_core (Qf := fun _ st' => SP X held ends .next st') mk0 store calm nod J pi bo pg pt pk pv plain want fun made frame st2 names G2 J2 fin ns foot => ?_) fun _ _ last => wpAny_pure (wpAny_pure last))
  show wpAny _ _ (assign (.Name y py) X.env (.ref made)) _ _ _
  refine wpAny_assign_Name (store_ok2 (v := V.ref made) J2 nod hy (.inl hyl) rfl (fun st3 J3 ⟨place, same, way⟩ => ?_) (.inr hyl))
  obtain ⟨c0, c1, c2, c3, c4, c5⟩ := foot
  have apart : frame ≠ place := by
    rcases way with way | way
    · rw [way]; exact c1
    · exact fun e => c4 y place way e.symm
  refine ⟨names, ns.sameBut same apart, fun st4 same4 => ?_⟩
  exact ⟨_, G2, J3.turned (t' := st3.toks) (fun b _ out e => (same4.2 b out).trans e) c0 c1 c3 c4 c5, fin⟩
theorem sw_trueD {kx vx : Expr} {gs : List Comprehension} {scope : Scope} {pos py : Pos} {y : Str} {l : Nat} {env : Env} (hk : env.scope.kind = .function) (hy : env.scope.names.lookup y = some .local) (hl : (py.line == pos.line) = true)
    (ha : (scope.names.any fun (n, k) => n == y && (k == .local || k == .cell)) = false) : swapsWith (.DictComp kx vx gs scope pos) (some (.Name y py)) l env = pure true := by
  have kind : env.kindOf y = some .local := hy
  have block : env.blockKind = .function := by
    unfold Env.blockKind
    rw [hk]
    rfl
  unfold swapsWith
  simp only [block, kind, ha, Expr.pos, hl]
  rfl
theorem ps_setDcX {P : Program} {w : World} (hP : X.prog = P) (hw : X.w = w) {i : Nat} {y : Str} {py : Pos} {kx vx tgt it : Expr} {ifs : List Expr} {sc : Scope} {own : List (Str × Nat)} {pos spos : Pos} {walk : TI} {g : TG} {tt : TT} {tk tv : TE} (hu : X.A.units + 1 < cLine) (calm : X.calm = true) (nod : X.N.Nodup) (hy : X.N[i]? = some y) (hyl : X.env.scope.names.lookup y = some .local)
    (hsw : swapsWith (.DictComp kx vx [⟨tgt, it, ifs, 0⟩] sc pos) (some (.Name y py)) spos.line X.env = pure true)
    (pi : PI X tgt it walk) (bo : BlkOk X.N X.env.scope sc own) (pg : InBlk X sc fun B => PG B tgt g) (pt : InBlk X sc fun B => PTs B ifs tt) (pk : InBlk X sc fun B => PE B kx tk) (pv : InBlk X sc fun B => PE B vx tv)
    (plain : ∀ x, foldedSetIterable it X.env x = pure x := by intro _; rfl) :
    PS X (.Assign [.Name y py] (.DictComp kx vx [⟨tgt, it, ifs, 0⟩] sc pos) spos) (tAsg (tDcX P w walk g tt tk tv (own.map (·.2))) (gName i)) := by
  subst hP hw
  exact ps_setDcG (fun H h b => dXo_empty H h b) (stores_X hu) calm nod hy hyl hsw pi bo pg pt pk pv plain
theorem ps_setDcT {i : Nat} {y : Str} {py : Pos} {kx vx tgt it : Expr} {ifs : List Expr} {sc : Scope} {own : List (Str × Nat)} {pos spos : Pos} {walk : TI} {g : TG} {tt : TT} {tk tv : TE} (hu : X.A.units + 1 < cLine) (calm : X.calm = true) (nod : X.N.Nodup) (hy : X.N[i]? = some y) (hyl : X.env.scope.names.lookup y = some .local)
    (hsw : swapsWith (.DictComp kx vx [⟨tgt, it, ifs, 0⟩] sc pos) (some (.Name y py)) spos.line X.env = pure true)
    (pi : PI X tgt it walk) (bo : BlkOk X.N X.env.scope sc own) (pg : InBlk X sc fun B => PG B tgt g) (pt : InBlk X sc fun B => PTs B ifs tt) (pk : InBlk X sc fun B => PE B kx tk) (pv : InBlk X sc fun B => PE B vx tv)
    (plain : ∀ x, foldedSetIterable it X.env x = pure x := by intro _; rfl) :
    PS X (.Assign [.Name y py] (.DictComp kx vx [⟨tgt, it, ifs, 0⟩] sc pos) spos) (tAsg (tDcT walk g tt tk tv (own.map (·.2))) (gName i)) :=
  ps_setDcG (fun _ h b => dt_empty h b) (stores_T hu) calm nod hy hyl hsw pi bo pg pt pk pv plain
end
/-- a row with one item more -/
theorem cat_row {K : PySem.W.Frag} {M : Ms} {H : Hp} {v u : V} {r : List Int} {x : Int} {Q : VK} (h : RowF M H v r) (hu : RowF M H u [x]) (lr : r.length ≤ 1000) (hM : Mk M H) (q : ∀ z H', Same H H' → RowF M H' z (r ++ [x]) → Q z H') : rCatF K v u H Q := by
  obtain ⟨a, o, rfl, na, ha, h1, h2⟩ := id h
  obtain ⟨b, o2, rfl, nb, hb, h3, h4⟩ := id hu
  refine ⟨a, b, _, _, rfl, rfl, .inl (.inr ⟨o, ha⟩), .inl (.inr ⟨o2, hb⟩), ?_, fun z => ?_, fun _ z => absurd z (by simp), fun z _ p o3 hp h5 h6 => ?_⟩
  · rw [List.length_map]
    exact Nat.le_of_lt (small1000000 (by show _ + 1 ≤ _; omega))
  · have e : r = [] := by simpa using z
    subst e
    exact q _ _ (Same.refl _) hu
  · refine q _ _ (same_new hp) ⟨p, o3, rfl, hM.out hp, ?_, h5, h6⟩
    rw [upd_same, List.map_append]
theorem row_new {M : Ms} {H : Hp} {p : Addr} {o : Obj} {ns : List Int} (hM : Mk M H) (hp : H p = none) (h1 : o.cls = .type "tuple") (h2 : o.dict = none) : RowF M (upd H p (.frz o (.tup (ns.map V.int)))) (.ref p) ns := ⟨p, o, rfl, hM.out hp, upd_same, h1, h2⟩
/-- rows in a list -/
def RowsAt (good : List Int → Prop) (M : Ms) (H : Hp) (xs : List V) (nss : List (List Int)) : Prop := xs.length = nss.length ∧ ∀ (i : Nat) (ns : List Int), nss[i]? = some ns → ∃ w, xs[i]? = some w ∧ RowF M H w ns ∧ good ns
section
variable {good : List Int → Prop} {M : Ms} {H H' : Hp} {xs : List V} {nss : List (List Int)}
theorem RowsAt.get (h : RowsAt good M H xs nss) {i : Nat} {x : V} (hx : xs[i]? = some x) : ∃ ns, nss[i]? = some ns ∧ RowF M H x ns ∧ good ns := by
  have hi : i < nss.length := by rw [← h.1]; exact (List.getElem?_eq_some_iff.mp hx).1
  obtain ⟨w, hw, q, g⟩ := h.2 i _ (List.getElem?_eq_getElem hi)
  rw [hx] at hw
  cases hw
  exact ⟨_, List.getElem?_eq_getElem hi, q, g⟩
theorem RowsAt.mem (h : RowsAt good M H xs nss) {x : V} (hx : x ∈ xs) : ∃ ns, ns ∈ nss ∧ RowF M H x ns ∧ good ns := by
  obtain ⟨i, hi⟩ := List.mem_iff_getElem?.mp hx
  obtain ⟨ns, h1, h2, h3⟩ := h.get hi
  exact ⟨ns, List.mem_of_getElem? h1, h2, h3⟩
theorem RowsAt.sx (h : RowsAt good M H xs nss) (s : Sx M H H') : RowsAt good M H' xs nss := ⟨h.1, fun i ns e => by
  obtain ⟨w, h1, h2, h3⟩ := h.2 i ns e
  exact ⟨w, h1, h2.sx s, h3⟩⟩
theorem RowsAt.nil : RowsAt good M H [] [] := ⟨rfl, fun i ns e => by simp at e⟩
theorem RowsAt.append {ys : List V} {mss : List (List Int)} (h : RowsAt good M H xs nss) (g : RowsAt good M H ys mss) : RowsAt good M H (xs ++ ys) (nss ++ mss) := by
  refine ⟨by rw [List.length_append, List.length_append, h.1, g.1], fun i ns e => ?_⟩
  by_cases c : i < nss.length
  · rw [List.getElem?_append_left c] at e
    rw [List.getElem?_append_left (by rw [h.1]; exact c)]
    exact h.2 i ns e
  · rw [List.getElem?_append_right (by omega)] at e
    rw [List.getElem?_append_right (by rw [h.1]; omega), h.1]
    exact g.2 _ ns e
theorem RowsAt.one {w : V} {ns : List Int} (q : RowF M H w ns) (g : good ns) : RowsAt good M H [w] [ns] := ⟨rfl, fun i ms e => by
  cases i with
  | zero => cases e; exact ⟨w, rfl, q, g⟩
  | succ i => simp at e⟩
theorem RowsAt.less {N : Ms} (h : RowsAt good M H xs nss) (f : ∀ a, N a → M a) : RowsAt good N H xs nss := ⟨h.1, fun i ns e => by
  obtain ⟨w, h1, h2, h3⟩ := h.2 i ns e
  exact ⟨w, h1, h2.less f, h3⟩⟩
theorem RowsAt.fresh {p : Addr} (h : RowsAt good M H xs nss) (hp : H p = none) : RowsAt good (also M p) H xs nss := ⟨h.1, fun i ns e => by
  obtain ⟨w, h1, h2, h3⟩ := h.2 i ns e
  exact ⟨w, h1, h2.fresh hp, h3⟩⟩
end
end D

namespace D
open PySem PySem.Spec PyProof.Rows L2
/-! ### own errors with one field or more -/
section
variable {K : PySem.W.Frag}
/-- __init__ of an error with one field -/
def sp_err1 (K : PySem.W.Frag) (C : Addr) (f : Str) : Sp := fun vs H Q _ => ∃ (a : Addr) (y : V), vs = [.ref a, y] ∧ OexC K C ∧ PySem.W.findIn K (.ref C) f = some none ∧ H a = some (exo a C none) ∧
  ∀ dx, H dx = none → dx ≠ a → Q .non (upd (upd H dx (exd dx [(f, y)])) a (exo a C (some dx)))
theorem made_heap {H : Hp} {a dx : Addr} {o1 o2 o3 o4 : HO} (ha : H a = none) (ne : dx ≠ a) : upd (del (upd (upd (upd H a o1) dx o2) a o3) a) dx o4 = upd H dx o4 := by
  funext b
  by_cases h1 : b = dx
  · rw [h1, upd_same, upd_same]
  · rw [upd_ne h1, upd_ne h1]
    by_cases h2 : b = a
    · rw [h2, del_same, ha]
    · rw [del_ne h2, upd_ne h2, upd_ne h1, upd_ne h2]
/-- the making of an error with one field: what is asked behind its argument -/
theorem mk_err1 {C : Addr} {f : Str} {H : Hp} {v : V} {E : XK} (ox : OexC K C) (no : PySem.W.findIn K (.ref C) f = some none) (h : ∀ d, H d = none → E (.ref C) (some d) (upd H d (.xd [(f, v)]))) :
    [v].length ≤ 1000 ∧ ∀ a, H a = none → sp_err1 K C f (.ref a :: ([v] ++ [])) (upd H a (exo a C none))
      (fun u H2 => u = .non ∧ ∃ (d : Addr) (fs : List (Str × V)), H2 a = some (exo a C (some d)) ∧ H2 d = some (exd d fs) ∧ H d = none ∧ E (.ref C) (some d) (upd (del H2 a) d (.xd fs))) (fun _ _ _ => False) := by
  refine ⟨by show 1 ≤ 1000; decide, fun a ha => ⟨a, v, rfl, ox, no, upd_same, fun dx hdx hne => ⟨rfl, dx, [(f, v)], upd_same, ?_, ?_, ?_⟩⟩⟩
  · rw [upd_ne hne, upd_same]
  · rw [upd_ne hne] at hdx
    exact hdx
  · rw [made_heap ha hne]
    rw [upd_ne hne] at hdx
    exact h dx hdx
/-- __init__ of an error with two fields -/
def sp_err2 (K : PySem.W.Frag) (C : Addr) (f g : Str) : Sp := fun vs H Q _ => ∃ (a : Addr) (y z : V), vs = [.ref a, y, z] ∧ OexC K C ∧ PySem.W.findIn K (.ref C) f = some none ∧ PySem.W.findIn K (.ref C) g = some none ∧ H a = some (exo a C none) ∧
  ∀ dx, H dx = none → dx ≠ a → Q .non (upd (upd (upd H dx (exd dx [(f, y)])) a (exo a C (some dx))) dx (exd dx [(g, z), (f, y)]))
/-- isinstance facts of an error class -/
theorem kit_err {D C : Addr} {b : Bool} (hd : PySem.W.hasDictIn K C = true) (ty : PySem.W.typeIn K (.ref C) = some (.type "type")) (ne : D ≠ C) (h : PySem.W.subIn K (.ref D) (.ref C) = some b) : PySem.W.kitOne K (.ref D) (.ref C) = some b := by
  obtain ⟨cd, hc, _⟩ := PySem.W.any_some hd
  unfold PySem.W.kitOne
  rw [if_neg (by simpa using ne)]
  show (if ((PySem.W.clsIn K C).isSome && PySem.W.typeIn K (.ref C) == some (.type "type")) = true then PySem.W.subIn K (.ref D) (.ref C) else none) = some b
  rw [if_pos (by rw [hc, ty]; rfl), h]
theorem kit_self {D : Addr} : PySem.W.kitOne K (.ref D) (.ref D) = some true := by
  unfold PySem.W.kitOne
  rw [if_pos (beq_self_eq_true _)]
theorem kit_ty2 {D : Addr} {t : String} {b : Bool} (m : PySem.W.kitMeta t = true) (h : PySem.W.subIn K (.ref D) (.type t) = some b) : PySem.W.kitOne K (.ref D) (.type t) = some b := by
  unfold PySem.W.kitOne
  rw [if_neg (fun z => nomatch (beq_iff_eq.mp z : Value.ref D = Value.type t))]
  show (if PySem.W.kitMeta t = true then PySem.W.subIn K (.ref D) (.type t) else none) = some b
  rw [if_pos m, h]
end
section
variable {X : Cx} {C g : Addr} {n : Nat} {CX : CXT} {sp : Sp} {E : L2.St → XK} {fd : FuncData} {ps : List Str}
/-- isinstance(e, c), e the error that the suite holds -/
def rIsX (K : PySem.W.Frag) (cls : Value) (d : Option Addr) (a : Addr) : List V → Hp → VK → Prop := fun xs H Q => ∃ (D dd : Addr) (fs : List (Str × V)) (c : V) (cv : Value) (b : Bool), cls = .ref D ∧ d = some dd ∧ ExcC K D ∧ H dd = some (.xd fs) ∧
  xs = [.ref a, c] ∧ (∀ u, RelV c u → u = cv) ∧ PySem.W.kitOne K (.ref D) cv = some b ∧ Q (.bl b) H
theorem inst_exc {X : Cx} {pins : List (Addr × Obj)} {σ : L2.St} {H : Hp} {s : Shared} {a D dd : Addr} {oe : Obj} {fs : List (Str × V)} (I : Inv X pins σ H s) (get : s.heap.get? a = some oe) (hz : Zc (.ref D) (some dd) oe) (hf : ∃ vs, oe.data = .fields vs) (ed : H dd = some (.xd fs)) :
    ∃ od, PySem.W.InstAt s.heap a oe D (some od) := by
  have there : ObjOk X.prog X.w H s.heap dd (.xd fs) := I.hok dd _ ed
  obtain ⟨mA, hns, _⟩ := there
  obtain ⟨od, ho, _⟩ := lookIn_ns hns
  obtain ⟨vs, hd⟩ := hf
  exact ⟨od, get, hz.1, by unfold PySem.W.notCls; rw [hd] <;> rfl, by rw [hz.2]; exact ho⟩
theorem call_isX {a : Addr} {oe : Obj} {cls : Value} {d : Option Addr} {pn : List (Addr × Obj)} (hz : Zc cls d oe) (hf : ∃ vs, oe.data = .fields vs) : CallR (X.suite a ((a, oe) :: pn)) (.builtin "isinstance") (rIsX X.K cls d a) := by
  intro held s sl G args vals want J rel h
  obtain ⟨D, dd, fs, c, cv, b, rfl, rfl, EC, ed, rfl, known, kit, q⟩ := h
  match vals, rel with
  | [_, _], .cons rx (.cons rt .nil) =>
    cases rx
    have ec := known _ rt
    subst ec
    obtain ⟨get, _⟩ := J.pin (a, oe) (List.mem_append.mpr (.inl List.mem_cons_self))
    obtain ⟨od, inst⟩ := inst_exc J get hz hf ed
    obtain ⟨cdD, hcD, _⟩ := PySem.W.any_some EC.hd
    exact PySem.W.kia_one (PySem.W.kitx_exc (by rw [hcD]; rfl) EC.hg EC.hk EC.hs EC.ha EC.hn EC.ht EC.hm) J.kIn inst kit (fun z => nomatch z) fun tk => ⟨.bl b, G, J.kept (t' := tk) fun _ _ z => z, rfl, q⟩
/-- isinstance(e, (c, ..)) -/
def rIsXT (K : PySem.W.Frag) (cls : Value) (d : Option Addr) (a : Addr) : List V → Hp → VK → Prop := fun xs H Q => ∃ (D dd p : Addr) (fs : List (Str × V)) (cs : List Addr) (b : Bool), cls = .ref D ∧ d = some dd ∧ ExcC K D ∧ H dd = some (.xd fs) ∧
  xs = [.ref a, .ref p] ∧ H p = some (.tup (cs.map V.ref)) ∧ PySem.W.kitAny K (.ref D) (cs.map Value.ref) = some b ∧ Q (.bl b) H
theorem vals_refs : ∀ {cs : List Addr} {vals : List Value}, Vals (cs.map V.ref) vals → vals = cs.map Value.ref
  | [], _, .nil => rfl
  | c :: r, _, .cons h t => by
    cases h
    rw [vals_refs t]
    rfl
theorem call_isXT {a : Addr} {oe : Obj} {cls : Value} {d : Option Addr} {pn : List (Addr × Obj)} (hz : Zc cls d oe) (hf : ∃ vs, oe.data = .fields vs) : CallR (X.suite a ((a, oe) :: pn)) (.builtin "isinstance") (rIsXT X.K cls d a) := by
  intro held s sl G args vals want J rel h
  obtain ⟨D, dd, p, fs, cs, b, rfl, rfl, EC, ed, rfl, tup, kit, q⟩ := h
  match vals, rel with
  | [_, _], .cons rx (.cons rt .nil) =>
    cases rx
    cases rt
    obtain ⟨get, _⟩ := J.pin (a, oe) (List.mem_append.mpr (.inl List.mem_cons_self))
    obtain ⟨od, inst⟩ := inst_exc J get hz hf ed
    obtain ⟨cdD, hcD, _⟩ := PySem.W.any_some EC.hd
    obtain ⟨_, its, rv, ⟨⟨tc, tdict, tdata, tslots⟩, ho, hc, m, hd⟩⟩ := (show ObjOk X.prog X.w G s.heap p (.tup (cs.map V.ref)) from J.hok p _ tup)
    dsimp only at hc hd
    subst hc hd
    have ei := vals_refs rv
    subst ei
    exact PySem.W.kia_tup (PySem.W.kitx_exc (by rw [hcD]; rfl) EC.hg EC.hk EC.hs EC.ha EC.hn EC.ht EC.hm) J.kIn inst ho kit (fun z => nomatch z) fun tk => ⟨.bl b, G, J.kept (t' := tk) fun _ _ z => z, rfl, q⟩
/-! ### what may raise within a try -/
/-- a def is run one step in, what it raises goes on -/
theorem run_in1S {pins : List (Addr × Obj)} {σ : L2.St} {H : Hp} {s : Shared} {Q : VK} {us : List Value} {vs : List V} (F : FnOk X.prog X.w X.K X.mg X.base CX n g fd ps sp) (hr : Room (n + 1) X.A) (hb : Binds X.K fd ps []) (hx : PassesAt CX X σ (E σ))
    (I : Inv X pins σ H s) (r : Vals vs us) (h : sp vs H Q (E σ)) : wpAny (model X.prog X.w) X.A.in1 (call (.ref g) us) (EP X pins σ Q) X.xe s := by
  have size : (us ++ []).length = ps.length := by rw [List.append_nil, ← r.length]; exact F.len _ _ _ _ h
  have bd := hb s us I.kIn size
  rw [List.append_nil] at bd
  refine wpAny_call (codeAny_mono (F.run X.A.in1 X.stack s H ⟨us, []⟩ us vs Q (E σ) (room_in1 hr) I.env0.in1 bd r h) fun out s' told => ?_)
  match out, told with
  | .error e, told => exact hx pins H s e s' I told
  | .ok (.ret u), told => exact I.after told
  | .ok .next, told => exact False.elim told
  | .ok .brk, told => exact False.elim told
  | .ok .cont, told => exact False.elim told
def tOwnIxS (C : Addr) (sp : Sp) (E : L2.St → XK) (to ti : TE) : TE := fun σ H Q => to σ H fun x H1 => ti σ H1 fun y H2 => ∃ a dx fs, x = .ref a ∧ H2 a = some (.ins C dx fs) ∧ sp [x, y] H2 Q (E σ)
theorem pe_ownIxS {o i : Expr} {to ti : TE} {pos : Pos} (ho : PE X o to) (hi : PE X i ti) (hs : PySem.W.findIn X.K (.ref C) "__getitem__" = some (some (.ref g))) (hf : PySem.W.fnIn X.K g = true) (hg : PySem.W.isFn X.K (.ref g) = true)
    (F : FnOk X.prog X.w X.K X.mg X.base CX n g fd ps sp) (hb : Binds X.K fd ps []) (hr : Room (n + 1) X.A) (hx : ∀ σ, PassesAt CX X σ (E σ))
    (hsl : ∀ ov iv, subscripted i true ov iv = runValue (.builtin "lifetime.subscript" ⟨[ov, iv], []⟩)) : PE X (.Subscript o i pos) (tOwnIxS C sp E to ti) := by
  refine ⟨fun pins s σ H Q I h => ?_⟩
  refine Subscript_ (thn (ho.run pins s σ H _ I h) fun ov s1 ⟨x, H1, I1, rx, q1⟩ => thn (hi.run pins s1 σ H1 _ I1 q1) fun iv s2 ⟨y, H2, I2, ry, a, dx, fs, ex, ha, q⟩ => ?_)
  subst ex
  obtain rfl : ov = Value.ref a := rx
  obtain ⟨mA, O, _⟩ := ins_get I2.hok ha
  obtain ⟨od, J, _⟩ := O.look
  obtain ⟨m, hF⟩ := I2.fr
  exact PySem.W.sub_K hF I2.ok.mod.kin J hs hf hg (run_in1S (us := [.ref a, iv]) (vs := [.ref a, y]) F hr hb (hx σ) I2 (.cons rfl (.cons ry .nil)) q) (hsl _ _)
/-- a method that may raise -/
def tMethS (C : Addr) (m : Str) (sp : Sp) (E : L2.St → XK) (ta : TE) (t : TA) : TE := fun σ H Q => ta σ H fun x H1 => ∃ a dx fs, x = .ref a ∧ H1 a = some (.ins C dx fs) ∧ fs.lookup m = none ∧ t σ H1 fun vs H2 => sp (x :: vs) H2 Q (E σ)
theorem pe_methS {o e : Expr} {es : List Expr} {m : Str} {f : Addr} {pos apos : Pos} {ta : TE} {t : TA} {pl : Sem Bool} (he : PE X o ta) (c : Cls X.K C) (hm : Meth X.K C m f) (F : FnOk X.prog X.w X.K X.mg X.base CX n f fd ps sp) (hr : Room n X.A) (hb : Binds X.K fd ps []) (hx : ∀ σ, PassesAt CX X σ (E σ)) (ha : PA X (e :: es) t)
    (hst : starEach (e :: es) X.env = (false, eval e X.env) :: starEach es X.env := by rfl) (hpl : (backTo pos (starEach es X.env)).any (·.1) = false := by rfl)
    (ht : eval (.Call (.Attribute o m apos) (e :: es) [] pos) X.env = (do
      let ov ← eval o X.env
      standAt apos.atName
      let (f, first) ← holding [ov] (getMethod ov m pl)
      callWith pos f first (backTo pos (starEach (e :: es) X.env)) (backToKw pos (keywordEach [] X.env))) := by rfl) :
    PE X (.Call (.Attribute o m apos) (e :: es) [] pos) (tMethS C m sp E ta t) := by
  refine ⟨fun held st sl G want J told => ?_⟩
  refine PySem.W.methodCall_KW (pl := pl) (thn (he.run held st sl G _ J told) fun u st1 ⟨x, G1, J1, rx, a, dx, fs, ex, ea, l, q⟩ => ?_) ht
  subst ex
  obtain rfl : u = Value.ref a := rx
  refine getmeth_ok J1 ea c hm l (PySem.W.callWith_K (first := [.ref a]) (h₀ := X.base) J1.ok.mod.kin hm.kp (thn (ha.run pos held st1 sl G1 _ J1 q) fun vals st2 ⟨vs, G2, J2, rel, q2⟩ => ⟨J2.kIn, ?_⟩) hst hpl)
  exact run_fnS (us := .ref a :: vals) (vs := .ref a :: vs) F hr hb (hx sl) J2 (.cons rfl rel) q2
/-- x[i] = v, an own def's store that may raise -/
def sOwnPutS (C : Addr) (sp : Sp) (E : L2.St → XK) (to ti tv : TE) : TS := fun D σ H => tv σ H fun v H1 => to σ H1 fun x H2 => ti σ H2 fun y H3 => ∃ a dx fs, x = .ref a ∧ H3 a = some (.ins C dx fs) ∧ sp [x, y, v] H3 (fun _ H4 => D.nx σ H4) (E σ)
theorem ps_ownPutS {o i value : Expr} {pos pos' : Pos} {to ti tv : TE} (ho : PE X o to) (hi : PE X i ti) (hv : PE X value tv) (hq : PySem.W.noSeq X.K C = true) (hs : PySem.W.findIn X.K (.ref C) "__setitem__" = some (some (.ref g))) (hf : PySem.W.isFn X.K (.ref g) = true)
    (F : FnOk X.prog X.w X.K X.mg X.base CX n g fd ps sp) (hb : Binds X.K fd ps []) (hr : Room (n + 1) X.A) (hx : ∀ σ, PassesAt CX X σ (E σ)) (sw : swapsWith value (some (.Subscript o i pos')) pos.line X.env = pure false) :
    PS X (.Assign [.Subscript o i pos'] value pos) (sOwnPutS C sp E to ti tv) := by
  refine ⟨fun pins s σ H D I h => ?_⟩
  refine wpAny_Assign_Subscript (thn (hv.run pins s σ H _ I h) fun r s1 ⟨v, H1, I1, rv, q1⟩ => thn (ho.run pins s1 σ H1 _ I1 q1) fun u s2 ⟨x, H2, I2, rx, q2⟩ => thn (hi.run pins s2 σ H2 _ I2 q2) fun iv s3 ⟨y, H3, I3, ry, a, dx, fs, ex, ha, q⟩ => ?_) sw
  subst ex
  obtain rfl : u = Value.ref a := rx
  obtain ⟨mA, O, _⟩ := ins_get I3.hok ha
  obtain ⟨od, J, _⟩ := O.look
  refine wp_ownPut I3.kIn J hq hs hf (wpAny_mono (run_fnS (us := [.ref a, iv, r]) (vs := [.ref a, y, v]) F (hr.mono (Nat.le_succ n)) hb (hx σ) I3 (.cons rfl (.cons ry (.cons rv .nil))) q) (fun w s' z => ?_) fun _ _ z => z)
  obtain ⟨z', H', I', _, qz⟩ := z
  exact ⟨σ, H', I', qz⟩
end
end D

namespace D
open PySem PySem.Spec PyProof.Rows L2
/-! ### list(o), o of an own class whose __iter__ hands an iterator over a tuple out -/
/-- at it an iterator over the tuple at t, the next place is i -/
def ItT (t it : Addr) (i : Nat) : HO := .ext fun h => h.IsTupleIter it t i
/-- something stands at it -/
def AnyO (it : Addr) : HO := .ext fun h => ∃ o, h.get? it = some o
section
variable {P : Program} {w : World} {H : Hp} {h : Heap} {t it : Addr} {i : Nat}
theorem itT_ok (e : h.IsTupleIter it t i) : ObjOk P w H h it (ItT t it i) := ⟨e, ⟨_, e.choose_spec.1⟩, fun h1 h2 q k => by
  obtain ⟨o, ho, r⟩ := q
  exact ⟨o, k _ ho, r⟩⟩
theorem any_ok {o : Obj} (e : h.get? it = some o) : ObjOk P w H h it (AnyO it) := ⟨⟨_, e⟩, ⟨_, e⟩, fun h1 h2 q k => by
  obtain ⟨o, ho⟩ := q
  exact ⟨o, k _ ho⟩⟩
end
section
variable {X : Cx} {pins : List (Addr × Obj)} {σ : L2.St} {H : Hp} {s : Shared} {t it : Addr} {i : Nat}
theorem itT_get (I : Inv X pins σ H s) (e : H it = some (ItT t it i)) : s.heap.IsTupleIter it t i := (I.hok it _ e).1
/-- iter(t), t a tuple -/
def rIterT (K : PySem.W.Frag) : List V → Hp → VK → Prop := fun xs H Q => ∃ (t : Addr) (zs : List V), xs = [.ref t] ∧ SqT K H t zs ∧ ∀ it, H it = none → Q (.ref it) (upd H it (ItT t it 0))
theorem call_iterT : CallR X (.builtin "iter") (rIterT X.K) := by
  intro pins s σ H xs us Q I r h
  obtain ⟨t, zs, rfl, hq, q⟩ := h
  obtain rfl := Vals.ref1 r
  obtain ⟨its, rv, ⟨o, ho, hc, n, hd⟩, hz⟩ := I.tuple hq
  refine Calls.call_function_entry (by decide +kernel) (by decide +kernel) PySem.W.kdk_entry_iter (PySem.W.kdk_args_iter _) ?_
  unfold Builtin.«iter»
  refine wpAny_bind (m := someArgs "iter" 1 2 _) (wpAny_of_eq (a := [Value.ref t]) (by first | rfl | kernel_rfl!) ?_)
  show wpAny _ _ (pyIter (.ref t) >>= _) _ _ _
  refine wpAny_bind (wpAny_pyIter_tuple (items := its.toArray) ⟨o, ho, hc, n, hd⟩ ?_)
  refine wpAny_pure ⟨_, rfl, ?_⟩
  exact ⟨.ref s.heap.objs.size, _, I.laid (t' := s.toks) (fun b u e => Heap.get?_push_of_some _ e) (Nat.le_refl _) (itT_ok ⟨_, Heap.get?_push_size _ rfl, rfl, rfl⟩), rfl, q _ (I.hok.fresh (Nat.le_refl _))⟩
end
section
variable {prog : Program} {w : World} {A : Around} {E : Value → Shared → Prop} {s : Shared}
theorem tuple_end2 {it t : Addr} {i : Nat} {items : Array Value} {Q : Option Value → Shared → Prop} (hh : A.handled = none)
    (hit : s.heap.IsTupleIter it t i) (ht : s.heap.IsTuple t items) (hx : items[i]? = none)
    (hQ : ∀ h', (∃ o, h'.get? it = some o) → Heap.ExtBut it s.heap h' → Q none { s with heap := h' }) : wpAny (model prog w) A (pyNext (.ref it)) Q E s := by
  obtain ⟨o, ho, hc, hd⟩ := id hit
  obtain ⟨ol, hol, _, nl, hdl⟩ := ht
  unfold pyNext
  refine wpAny_bind (wpAny_attempt (wpAny_callSpecial?_slot (name := Str.ofString "__next__") hit.typeIs F.slot_tuple_iterator_next
    (wpAny_call_entry F.slot_tuple_iterator_next hit.typeIs F.entry_tuple_iterator_next ?_ (F.args_tuple_iterator_next_1 _))))
  show wpAny _ _ (field (.ref it) 0 >>= _) _ _ s
  refine wpAny_bind (wpAny_field ho hd (x := .ref t) rfl ?_)
  show wpAny _ _ (if (Value.ref t == Value.none) = true then _ else _) _ _ s
  rw [if_neg (show ¬ ((Value.ref t == Value.none) = true) from Bool.false_ne_true)]
  show wpAny _ _ (field (.ref it) 1 >>= _) _ _ s
  refine wpAny_bind (wpAny_field ho hd (x := .int i 0) rfl ?_)
  show wpAny _ _ (seqItems? (.ref t) >>= _) _ _ s
  refine wpAny_bind (wpAny_seqItems hol hdl ?_)
  simp only [Int.toNat_natCast, hx]
  refine wpAny_bind (wpAny_rule (wpAny_bind (wpAny_setField ho hd (by simp) ?_)))
  show wpAny _ _ (newExc (.type "StopIteration") [] >>= _) _ _ _
  refine wpAny_bind ?_
  simp only [newExc, newTuple]
  refine wpAny_bind (wpAny_newObj_type ?_ (by size_fits))
  refine wpAny_bind (m := firstArgMember _ _) (wpAny_of_eq (a := Value.none) (by first | rfl | (simp only [firstArgMember]; rfl)) ?_)
  refine wpAny_newObj_type ?_ (by size_fits)
  simp only [raiseNew]
  refine wpAny_bind (wpAny_handled ?_)
  first | rw [show A.in1.handled = none from hh] | rw [hh]
  refine wpAny_bind (wpAny_pure (wpAny_throw ?_))
  refine wpAny_bind (wpAny_isInstance (T := "StopIteration") (b := true) ⟨_, Heap.get?_push_size _ rfl, rfl⟩ PySem.isSubtype_stop ?_)
  refine wpAny_pure (hQ _ ⟨_, Heap.get?_push_of_some _ (Heap.get?_push_of_some _ (Heap.get?_update_self _ ho (Obj.isFreed_of_fields (Obj.data_mapFields hd _))))⟩ (((Heap.SameBut.update ..).extBut.push _).push _))
end
/-- a class whose instances have an own __iter__, without __len__ and __length_hint__ -/
structure ItK (K : PySem.W.Frag) (C fi : Addr) : Prop where
  it : PySem.W.findIn K (.ref C) "__iter__" = some (some (.ref fi))
  itF : PySem.W.isFn K (.ref fi) = true
  nolen : PySem.W.findIn K (.ref C) "__len__" = some none
  nohint : PySem.W.findIn K (.ref C) "__length_hint__" = some none
section
variable {X : Cx} {pins : List (Addr × Obj)} {σ : L2.St} {H : Hp} {s : Shared}
theorem hintK {M : Model} {A : Around} {E : Value → Shared → Prop} {Q : Bool → Shared → Prop} {K : PySem.W.Frag} {a C fi : Addr} {ox : Obj} {od : Option Obj} (hc : ItK K C fi) (hK : K.In s.heap) (J : PySem.W.InstAt s.heap a ox C od) (h : Q true s) :
    wpAny M A (Builtin.List.listLengthHint (.ref a)) Q E s := by
  unfold Builtin.List.listLengthHint
  refine wpAny_bind (wpAny_bind (J.type.here ((PySem.W.looks_findIn hK hc.nolen).here ?_)))
  refine PySem.W.KFB.if_not rfl ?_
  refine PySem.W.KFB.if_not rfl ?_
  refine wpAny_bind (wpAny_bind (J.type.here ((PySem.W.looks_findIn hK hc.nohint).here ?_)))
  exact wpAny_pure h
theorem it_loop {A1 : Around} {it t q : Addr} {xs : List V} {H0 : Hp} {Rs : Result → Shared → Prop} (hh : A1.handled = none) (nqi : q ≠ it) (nti : t ≠ it) (hT : SqT X.K H0 t xs) (htq : t ≠ q) (hl : xs.length ≤ 1000)
    (hdone : ∀ H s, Inv X pins σ H s → (∀ b, b ≠ it → b ≠ q → H b = H0 b) → H q = some (.lst xs) → H it ≠ none → Rs (.ok (.ret .none)) s) :
    ∀ (k i : Nat) (H : Hp) (s : Shared), xs.length - i = k → i ≤ xs.length → Inv X pins σ H s → (∀ b, b ≠ it → b ≠ q → H b = H0 b) → H q = some (.lst (xs.take i)) → H it = some (ItT t it i) →
      codeAny (model X.prog X.w) A1 (.builtin "list.extend.loop" ⟨[.ref q, .ref it, .none], []⟩) Rs s := by
  intro k
  induction k with
  | zero =>
    intro i H s hk hi I hH hq hit
    have ei : i = xs.length := by omega
    subst ei
    have hT' : SqT X.K H t xs := by
      unfold SqT Rd at hT ⊢
      rw [hH t nti htq]
      exact hT
    obtain ⟨its, rv, pl, hz⟩ := I.tuple hT'
    refine codeAny_builtin PySem.F.entry_extend_loop ?_
    rw [Around.under_plainId PySem.F.plain_extend_loop _]
    show wpAny _ A1.in1 (pyNext (.ref it) >>= _) _ _ s
    refine wpAny_bind (tuple_end2 (items := its.toArray) hh (itT_get I hit) (by obtain ⟨o, ho, hc, n, hd⟩ := pl; exact ⟨o, ho, hc, n, hd⟩) (by have := rv.length; simp [← this]) fun h' he hb => ?_)
    have mu : Mut (H it) := by rw [hit]; exact True.intro
    obtain ⟨o', ho'⟩ := he
    have I' := I.write (x := it) (e := it) (t' := s.toks) (o := AnyO it) (h' := h') mu (.inl rfl) (fun b o nb z => hb b o nb z) ⟨_, ho'⟩ (any_ok ho')
    refine wpAny_pure (hdone _ _ I' (fun b h1 h2 => by rw [upd_ne h1]; exact hH b h1 h2) ?_ ?_)
    · rw [upd_ne nqi, hq, List.take_length]
    · rw [upd_same]
      exact fun z => nomatch z
  | succ k ih =>
    intro i H s hk hi I hH hq hit
    have hlt : i < xs.length := by omega
    have hT' : SqT X.K H t xs := by
      unfold SqT Rd at hT ⊢
      rw [hH t nti htq]
      exact hT
    obtain ⟨its, rv, pl, hz⟩ := I.tuple hT'
    obtain ⟨u, hu, ru⟩ := rv.get (i := i) (List.getElem?_eq_getElem hlt)
    refine codeAny_builtin PySem.F.entry_extend_loop ?_
    rw [Around.under_plainId PySem.F.plain_extend_loop _]
    show wpAny _ A1.in1 (pyNext (.ref it) >>= _) _ _ s
    refine wpAny_bind (wpAny_pyNext_tuple_item (items := its.toArray) (x := u) (itT_get I hit) (by obtain ⟨o, ho, hc, n, hd⟩ := pl; exact ⟨o, ho, hc, n, hd⟩) (by rw [List.getElem?_toArray]; exact hu) fun h' e' sb => ?_)
    have mu : Mut (H it) := by rw [hit]; exact True.intro
    have I' := I.write (x := it) (e := it) (t' := s.toks) (o := ItT t it (i + 1)) (h' := h') mu (.inl rfl) (fun b o nb z => (sb.2 b nb).trans z) ⟨_, e'.choose_spec.1⟩ (itT_ok e')
    have hq' : upd H it (ItT t it (i + 1)) q = some (.lst (xs.take i)) := by rw [upd_ne nqi]; exact hq
    show wpAny _ A1.in1 (updateSeq q (·.push u) >>= _) _ _ _
    obtain ⟨z, its2, c, r2, e⟩ := I'.lstM hq'
    have hlen : (xs.take i).length = i := by rw [List.length_take]; omega
    obtain ⟨r2, hl2, e⟩ := (⟨r2, e⟩ : _ ∧ _ ∧ _)
    have l2 : its2.length = i := by rw [← r2.length, hlen]
    refine wpAny_bind (wpAny_updateSeq e rfl (wpAny_pure ⟨plainId_quiet PySem.F.plain_extend_loop _, ?_⟩) (by rw [List.size_toArray, l2, sizeLine_eq]; omega) (by show (its2.toArray.push u).size ≤ sizeLine + 1; rw [Array.size_push, List.size_toArray, l2, sizeLine_eq]; omega))
    refine ih (i + 1) _ _ (by omega) hlt (I'.lset (its' := its2 ++ [u]) (ys := xs.take (i + 1)) (t' := s.toks) hq' e (by simp) ?_ (by rw [List.length_take, sizeLine_eq]; omega)) (fun b h1 h2 => ?_) upd_same ?_
    · rw [List.take_add_one, List.getElem?_eq_getElem hlt]
      exact r2.append (.cons ru .nil)
    · rw [upd_ne h2, upd_ne h1]
      exact hH b h1 h2
    · rw [upd_ne (Ne.symm nqi), upd_same]

/-- list(o): __iter__ hands an iterator over a tuple out -/
def rListIt (K : PySem.W.Frag) (C : Addr) (sp : Sp) (E : XK) : List V → Hp → VK → Prop := fun xs H Q => ∃ a dx fs, xs = [.ref a] ∧ H a = some (.ins C dx fs) ∧
  ∀ q, H q = none → sp [.ref a] (upd H q (.lst [])) (fun v H' => ∃ it t zs, v = .ref it ∧ H' it = some (ItT t it 0) ∧ SqT K H' t zs ∧ t ≠ it ∧ t ≠ q ∧ q ≠ it ∧ H' q = some (.lst []) ∧ H' a = some (.ins C dx fs) ∧ zs.length ≤ 1000 ∧
    ∀ H'', (∀ b, b ≠ it → b ≠ q → H'' b = H' b) → H'' q = some (.lst zs) → H'' it ≠ none → Q (.ref q) H'') E
variable {CI : CXT} {C fi : Addr} {fdI : FuncData} {psI : List Str} {spI : Sp} {EI : XK} {n : Nat}
theorem extend_it {a dx q : Addr} {fs : List (Str × V)} {Hq : Hp} {Q : VK} (sb : Sub X n X.A.in1.in1) (hA : X.A.in1.handled = none) (hc : ItK X.K C fi) (FI : FnOk X.prog X.w X.K X.mg X.base CI n fi fdI psI spI) (bI : Binds X.K fdI psI []) (xI : Passes CI X EI) (I2 : Inv X pins σ Hq s) (hqq : Hq q = some (.lst [])) (ha2 : Hq a = some (.ins C dx fs))
    (hsp : spI [.ref a] Hq (fun v H' => ∃ it t zs, v = .ref it ∧ H' it = some (ItT t it 0) ∧ SqT X.K H' t zs ∧ t ≠ it ∧ t ≠ q ∧ q ≠ it ∧ H' q = some (.lst []) ∧ H' a = some (.ins C dx fs) ∧ zs.length ≤ 1000 ∧
      ∀ H'', (∀ b, b ≠ it → b ≠ q → H'' b = H' b) → H'' q = some (.lst zs) → H'' it ≠ none → Q (.ref q) H'') EI) :
    wpAny (model X.prog X.w) X.A.in1.in1 (Builtin.List.listExtendWith (.ref q) (.ref a) .none)
      (fun fin s' => match fin with | .done f => wants (fun r s₂ => r = .none ∧ EP X pins σ Q (.ref q) s₂) X.xe (.ok f) s' | .again c' => c'.quiet = true ∧ codeAny (model X.prog X.w) X.A.in1 c' (wants (fun r s₂ => r = .none ∧ EP X pins σ Q (.ref q) s₂) X.xe) s') (fun e s' => wants (fun r s₂ => r = .none ∧ EP X pins σ Q (.ref q) s₂) X.xe (.error e) s') s := by
  have hne : q ≠ a := ne_of hqq ha2 (fun z => nomatch z)
  obtain ⟨mA, J, _⟩ := ins_get I2.hok ha2
  obtain ⟨od, J, _⟩ := J.look
  obtain ⟨m0, hF⟩ := I2.fr
  unfold Builtin.List.listExtendWith
  refine wpAny_bind (J.type.here ?_)
  have h1 : Builtin.List.listSameRef (.ref q) (.ref a) = false := by simp [Builtin.List.listSameRef, hne]
  have h2 : (Value.ref C == Value.type "list") = false := rfl
  have h3 : (Value.ref C == Value.type "tuple") = false := rfl
  simp only [h1, h2, h3, Bool.or_false, Bool.false_eq_true, if_false]
  refine wpAny_bind (PySem.W.owit_iter hF I2.ok.mod.kin J hc.it hc.itF ?_)
  have e0 : Env0 X.prog X.w X.K X.mg X.base X.A.in1.in1 X.stack s Hq := by
    have e := I2.env0
    exact ⟨by rw [sb.fr]; exact e.frames, e.mod, e.bs, e.bsz, e.funs, e.frf, e.hok, e.bare⟩
  have hl := FI.len _ _ _ _ hsp
  have r2 : Vals [V.ref a] [Value.ref a] := .cons rfl .nil
  refine wpAny_call (codeAny_mono (FI.run X.A.in1.in1 X.stack s Hq ⟨[.ref a], []⟩ [.ref a] [.ref a] _ EI sb.room e0 (by
    have := bI s [.ref a] I2.kIn (by simpa using hl)
    simpa using this) r2 hsp) fun r s' hq' => ?_)
  cases r with
  | error e => exact xI pins σ Hq s e s' I2 hq'
  | ok fl =>
    cases fl with
    | next => exact False.elim hq'
    | brk => exact False.elim hq'
    | cont => exact False.elim hq'
    | ret u =>
      obtain ⟨v, H', I', rv, it, t, zs, ev, hit, hT, nti, ntq, nqi, hq2, ha', hz, q2⟩ := I2.after hq'
      subst ev
      cases rv
      unfold PySem.W.OwitIt
      have hty := (itT_get I' hit).typeIs (s := s')
      refine wpAny_specialOf hty F.slot_tuple_iterator_next.lookup ?_
      obtain ⟨mA', J', _⟩ := ins_get I'.hok ha'
      obtain ⟨od', J', _⟩ := J'.look
      refine wpAny_bind (wpAny_holding (hintK hc I'.kIn J' ?_))
      obtain ⟨z, its, k, r3, hl3, e3⟩ := I'.lstM hq2
      cases r3
      have hloop : ∀ s2, Inv X pins σ H' s2 → codeAny (model X.prog X.w) X.A.in1 (.builtin "list.extend.loop" ⟨[.ref q, .ref it, .none], []⟩) (wants (fun r s₂ => r = .none ∧ EP X pins σ Q (.ref q) s₂) X.xe) s2 := fun s2 I4 =>
        it_loop (A1 := X.A.in1) hA nqi nti hT ntq hz (fun H5 s5 I5 a1 a2 a3 => ⟨rfl, .ref q, H5, I5, rfl, q2 H5 a1 a2 a3⟩) _ 0 H' s2 rfl (Nat.zero_le _) I4 (fun _ _ _ => rfl) hq2 hit
      refine wpAny_ite_split (fun _ => ?_) (fun _ => wpAny_pure ⟨plainId_quiet PySem.F.plain_extend_loop _, hloop s' I'⟩)
      refine wpAny_bind (wpAny_rule ?_)
      refine wpAny_bind ?_
      show wpAny _ _ (updateSeq q (·.push .none) >>= fun _ => updateSeq q (·.pop)) _ _ _
      refine wpAny_bind (wpAny_updateSeq e3 rfl ?_)
      have I3 := I'.lset (f := (·.push Value.none)) (its' := [Value.none]) (ys := [.non]) (t' := s'.toks) hq2 e3 (by simp) (.cons rfl .nil) (by rw [List.length_singleton, sizeLine_eq]; decide)
      obtain ⟨z4, its4, k4, r4, hl4, e4⟩ := I3.lstM upd_same
      obtain ⟨u4, rfl, ru4⟩ := r4.one
      refine wpAny_updateSeq e4 rfl ?_ (by show 1 ≤ sizeLine; rw [sizeLine_eq]; decide) (by show 0 ≤ sizeLine + 1; exact Nat.zero_le _)
      refine wpAny_pure ⟨plainId_quiet PySem.F.plain_extend_loop _, hloop _ ?_⟩
      have I5 := I3.lset (f := (·.pop)) (its := [u4]) (its' := []) (ys := []) (t' := s'.toks) upd_same e4 (by rfl) .nil (Nat.zero_le _)
      rw [upd_upd] at I5
      have hH : upd H' q (.lst []) = H' := by
        funext b
        by_cases hb : b = q
        · rw [hb, upd_same, hq2]
        · rw [upd_ne hb]
      rw [hH] at I5
      exact I5
theorem call_listIt (hc : ItK X.K C fi) (FI : FnOk X.prog X.w X.K X.mg X.base CI n fi fdI psI spI) (bI : Binds X.K fdI psI []) (xI : Passes CI X EI) (hr : Room (n + 2) X.A) : CallR X (.type "list") (rListIt X.K C spI EI) := by
  intro pins s σ H xs us Q I rv h
  obtain ⟨a, dx, fs, rfl, ha, hq⟩ := h
  obtain ⟨u, rfl, ru⟩ := rv.one
  cases ru
  have sb : Sub X n X.A.in1.in1 := (Sub.in1 (Sub.in1 (⟨hr, rfl⟩ : Sub X (n + 2) X.A)))
  refine callType_codes (Q₁ := fun obj s₁ => obj = .ref s.heap.objs.size ∧ s₁ = { s with heap := s.heap.push { cls := .type "list", data := .seq #[] } }) PySem.F.called_list (PySem.F.typeCall_list_1 _) PySem.F.entry_list_init
    (code_list_new _ ⟨rfl, rfl⟩) fun obj s₁ h₁ => ?_
  obtain ⟨rfl, rfl⟩ := h₁
  have hS : (s.heap.push { cls := .type "list", data := .seq #[] }).get? s.heap.objs.size = some { cls := .type "list", data := .seq #[] } := Heap.get?_push_size _ rfl
  refine ⟨⟨_, hS, rfl⟩, PySem.F.args_list_init_2 _ _, ?_⟩
  have fr : H s.heap.objs.size = none := I.hok.fresh (Nat.le_refl _)
  have hsp := hq _ fr
  have I1 : Inv X pins σ (upd H s.heap.objs.size (.lst [])) { s with heap := s.heap.push { cls := .type "list", data := .seq #[] } } := I.lnew (its := []) (t' := s.toks) .nil (Nat.zero_le _)
  show wpAny _ _ (do let old ← Builtin.List.listItems (.ref s.heap.objs.size); Builtin.List.listUpdate (.ref s.heap.objs.size) (fun _ => #[]); letGo old.toList.reverse; Builtin.List.listExtendWith (.ref s.heap.objs.size) (.ref a) .none) _ _ _
  refine wpAny_bind ?_
  unfold Builtin.List.listItems
  refine wpAny_bind (wpAny_seqItems hS rfl (wpAny_pure ?_))
  show wpAny _ _ (updateSeq s.heap.objs.size (fun _ => #[]) >>= fun _ => letGo (#[] : Array Value).toList.reverse >>= fun _ => Builtin.List.listExtendWith (.ref s.heap.objs.size) (.ref a) .none) _ _ _
  refine wpAny_bind (wpAny_updateSeq hS rfl ?_)
  have I2 := I1.lset (f := fun _ => #[]) (its := []) (its' := []) (ys := []) (t' := s.toks) upd_same hS rfl .nil (Nat.zero_le _)
  rw [upd_upd] at I2
  refine wpAny_bind (wpAny_letGo ?_)
  have ha2 : upd H s.heap.objs.size (.lst []) a = some (.ins C dx fs) := by rw [upd_ne (ne_of_none ha fr)]; exact ha
  exact extend_it sb hr.hd hc FI bI xI I2 upd_same ha2 hsp
end
end D

namespace D
open PySem PySem.Spec PyProof.Rows L2
/-! ### texts as rows of signs -/
abbrev sg (z : Str) : List Nat := z.cps.toList
theorem sg_len (z : Str) : (sg z).length = z.length := Array.length_toList
theorem sg_ext {a b : Str} (h : sg a = sg b) : a = b := by
  cases a
  cases b
  congr 1
  exact Array.toList_inj.mp h
theorem sg_app (a b : Str) : sg (a ++ b) = sg a ++ sg b := Array.toList_append
theorem sg_one (c : Nat) : sg ⟨#[c]⟩ = [c] := rfl
theorem sg_cut (z : Str) (k : Nat) : sg (cutS z none (some (k : Int))) = (sg z).take k := by
  unfold cutS
  show ((z.cps.toList.drop 0).take (HT.sIx z.length z.length (some (k : Int)) - 0)) = _
  rw [HT.sIx_nat, List.drop_zero, Nat.sub_zero, ← sg_len]
  by_cases c : k ≤ (sg z).length
  · rw [Nat.min_eq_left c]
  · rw [Nat.min_eq_right (by omega), List.take_of_length_le (Nat.le_refl _), List.take_of_length_le (by omega)]
theorem sg_from (z : Str) (k : Nat) : sg (cutS z (some (k : Int)) none) = (sg z).drop k := by
  unfold cutS
  show ((z.cps.toList.drop (HT.sIx z.length 0 (some (k : Int)))).take (HT.sIx z.length z.length none - HT.sIx z.length 0 (some (k : Int)))) = _
  rw [HT.sIx_nat, HT.sIx_none, ← sg_len]
  by_cases c : k ≤ (sg z).length
  · rw [Nat.min_eq_left c, List.take_of_length_le (by rw [List.length_drop]; exact Nat.le_refl _)]
  · rw [Nat.min_eq_right (by omega), List.drop_of_length_le (Nat.le_refl _), List.drop_of_length_le (by omega)]
    simp
theorem sg_join0 : ∀ ys : List Str, sg (Str.join (Str.ofString "") ys) = (ys.map sg).flatten
  | [] => rfl
  | [y] => by
    show sg y = _
    simp
  | x :: y :: r => by
    show sg (x ++ (Str.ofString "") ++ Str.join (Str.ofString "") (y :: r)) = _
    rw [sg_app, sg_app, sg_join0 (y :: r), show sg (Str.ofString "") = [] from by decide +kernel]
    simp
end D

namespace D
open PySem PySem.Spec PyProof.Rows L2
/-! ### errors whose suites call defs -/
section
variable {X : Cx} {e : Expr} {es : List Expr} {ta : TA} {p pos : Pos}
/-- the making of an own error, outside of a suite, for the ways out that tell its context -/
theorem pmk_oexN {CX : CXT} {x : Str} {C fI : Addr} {k : Nat} {fd : FuncData} {ps : List Str} {sp : Sp} {ds : List Value} {dvs : List V} (T : OexC X.K C) (iC : PySem.W.findIn X.K (.ref C) "__init__" = some (some (.ref fI))) (tI : PySem.W.typeIn X.K (.ref fI) = some (.type "function"))
    (F1 : FnOk X.prog X.w X.K X.mg X.base CX k fI fd ps sp) (hr : Room (k + 1) X.A) (hb : Binds X.K fd ps ds) (hd : Vals dvs ds) (hx : Passes CX X (fun _ _ _ => False)) (hg : Gl X x) (hm : X.mg x = some (.ref C)) (ha : PA X (e :: es) ta)
    (hdb : (x == ("__debug__" : Str)) = false := by decide) (he : starEach (e :: es) X.env = (false, eval e X.env) :: starEach es X.env := by rfl) (hpl : (backTo pos (starEach es X.env)).any (·.1) = false := by rfl) :
    L2N.PMk X (.Call (.Name x p) (e :: es) [] pos) (tMkO C sp dvs ta) := by
  intro pins s σ H Q I h
  obtain ⟨nm, q, N, bs, bm, sn, sub, ab, col, dd, k0, k1, k2, k3, k5, hC, hbm⟩ := T.cls
  refine wpAny_Call_Name_kw (ld_glob I hg hm ?_ hdb)
  refine PySem.W.callWith_K (h₀ := X.base) I.ok.mod.kin T.kC (thn (ha.run pos pins s σ H _ I h) fun us s1 ⟨vs, H1, I1, r1, hz, q1⟩ => ⟨I1.kIn, ?_⟩) he hpl
  show wpAny _ _ (call (.ref C) us) _ _ _
  obtain ⟨hp, g, dr, tk, os⟩ := s1
  have hsz : hp.objs.size ≤ hp.objs.size + 1 := Nat.le_succ _
  have hn : H1 (hp.objs.size + 1) = none := I1.hok.fresh hsz
  have hq := q1 (hp.objs.size + 1) hn
  have kk : ∀ b o, hp.get? b = some o → ((hp.push (PySem.W.kdv_tup us)).push (PySem.HandSPX.excO C hp.objs.size)).get? b = some o := fun b o e => Heap.get?_push_of_some _ (Heap.get?_push_of_some _ e)
  have hget : ((hp.push (PySem.W.kdv_tup us)).push (PySem.HandSPX.excO C hp.objs.size)).get? (hp.objs.size + 1) = some (PySem.HandSPX.excO C hp.objs.size) := by heap_get
  have I2 : Inv X pins σ (upd H1 (hp.objs.size + 1) (exo (hp.objs.size + 1) C none)) ⟨(hp.push (PySem.W.kdv_tup us)).push (PySem.HandSPX.excO C hp.objs.size), g, dr, tk, os⟩ :=
    I1.laid (t' := tk) (a := hp.objs.size + 1) (o := exo (hp.objs.size + 1) C none) (h' := (hp.push (PySem.W.kdv_tup us)).push (PySem.HandSPX.excO C hp.objs.size)) kk hsz (exo_ok hget)
  have r2 : Vals (V.ref (hp.objs.size + 1) :: (vs ++ dvs)) (Value.ref (hp.objs.size + 1) :: (us ++ ds)) := .cons rfl (r1.append hd)
  have hl : (Value.ref (hp.objs.size + 1) :: us ++ ds).length = ps.length := by
    have e := r2.length
    rw [F1.len _ _ _ _ hq] at e
    exact e.symm
  have hus : us.length ≤ sizeLine := by
    rw [← Paired.length r1, sizeLine_eq]
    omega
  refine wpAny_call (PySem.HandSPX.call_own F.excBase_ValueError (fun Y => PySem.HandSPX.refsVE_contains Y bm hbm) (I1.kIn _ _ hC) (PySem.W.looks_findIn I1.kIn iC) (fun self => PySem.W.bind_fn I1.kIn self tI) hus
    (codeAny_mono (F1.run _ X.stack _ _ ⟨Value.ref (hp.objs.size + 1) :: us, []⟩ (Value.ref (hp.objs.size + 1) :: (us ++ ds)) _ _ (fun _ _ _ => False) (hr.make C us []) (I2.env0.make C us []) (hb _ (Value.ref (hp.objs.size + 1) :: us) I2.kIn hl) r2 hq) fun r s' hq' => ?_))
  cases r with
  | error er => exact hx pins σ _ _ er s' I2 hq'
  | ok fl =>
    cases fl with
    | ret u =>
      obtain ⟨v, H2, os2, bare2, un2, hok2, rv, ev, d, fs, ea, ed, hd1, q2⟩ := hq'
      subst ev
      obtain ⟨h2, g2, d2, t2, os'⟩ := s'
      obtain ⟨t0, G, J, kG, ge, hoe, na⟩ := mk_end0 (d2 := d2) (t2 := t2) I1 hsz kk un2 hok2 os2 bare2 ea ed hd1
      refine ⟨rv, ⟨hp.objs.size + 1, _, _, ⟨G, g2, d2, t2, os'⟩, _, .ref C, some d, rfl, J, kG, ge, hoe, ⟨rfl, rfl, fun vs hv => ?_⟩, rfl, rfl, na, rfl, bare2, raises_own T.exC T.tyC, q2⟩⟩
      cases hv
      rfl
    | next => exact False.elim hq'
    | brk => exact False.elim hq'
    | cont => exact False.elim hq'
end
section
variable {P : Program} {w : World} {K : PySem.W.Frag} {mg : Str → Option Value} {base : Heap}
/-- as Fun.okX, for the ways out that tell the error's context -/
theorem Fun.okXN {x qual : Str} {st : Stmt} {f : Addr} {fd : FuncData} {N ps : List Str} {k : Nat} {sp : Sp} (F : Fun K x qual st f fd) (S : FnScope N ps (defScope st)) (len : ∀ vs H Q E, sp vs H Q E → vs.length = ps.length)
    (hbody : ∀ (cdv : Value) (A : Around) (outer : List Env) (s : Shared) (H : Hp) (vs : List V) (Q : VK) (E : XK), Room k (A.deeper (envOfC qual (defScope st) s.heap.objs.size f cdv)) → sp vs H Q E →
      ∃ t, PSs (cxOf (L2N.CX P w) P w K mg base N qual (defScope st) f cdv A outer s H E) (defBody st) t ∧ t { nx := fun _ H' => Q .non H', rt := Q } (start N vs) H) : FnOk P w K mg base (L2N.CX P w) (k + 1) f fd ps sp := by
  obtain ⟨oc, od, kV, doc, pm, an, cdv, ct, osl, rfl, lk, hcd⟩ := F.ex
  exact fn_of lk hcd S len fun A outer s H vs Q E hr hsp => hbody cdv A outer s H vs Q E hr hsp
theorem takes0N {X : Cx} : L2N.Takes X (fun _ _ _ _ => False) := fun _ _ x => by
  obtain ⟨_, _, _, _, _, _, _, _, _, _, _, _, _, _, _, _, z⟩ := x
  exact z.elim
/-- as Fun.ok, for a def that is called in an except suite -/
theorem Fun.okH {x qual : Str} {st : Stmt} {f : Addr} {fd : FuncData} {N ps : List Str} {k : Nat} {sp : Sp} (F : Fun K x qual st f fd) (S : FnScope N ps (defScope st)) (len : ∀ vs H Q E, sp vs H Q E → vs.length = ps.length)
    (hbody : ∀ (cdv : Value) (A : Around) (outer : List Env) (s : Shared) (H : Hp) (vs : List V) (Q : VK) (E : XK) (p : Addr × Obj), L2H.RoomH k (A.deeper (envOfC qual (defScope st) s.heap.objs.size f cdv)) → sp vs H Q E →
      ∃ t, PSs (L2H.cxH CX0 P w K mg base N qual (defScope st) f cdv A outer s H E p) (defBody st) t ∧ t { nx := fun _ H' => Q .non H', rt := Q } (start N vs) H) : L2H.FnH P w K mg base CX0 (k + 1) f fd ps sp := by
  obtain ⟨oc, od, kV, doc, pm, an, cdv, ct, osl, rfl, lk, hcd⟩ := F.ex
  exact L2H.fn_ofH lk hcd S len fun A outer s H vs Q E p hot hr hsp => hbody cdv A outer s H vs Q E p hr hsp
theorem hot_suite {X : Cx} {a : Addr} {oe : Obj} {cls : Value} {d : Option Addr} {pn : List (Addr × Obj)} (hz : L2N.Zn cls d oe) (hf : ∃ vs, oe.data = .fields vs) : L2H.HotC (X.suite a ((a, oe) :: pn)) := by
  obtain ⟨vs, hv⟩ := hf
  exact ⟨(a, oe), ⟨rfl, vs, hv, hz.2.2 vs hv⟩, List.mem_cons_self⟩
theorem room_suite {k j : Nat} {A : Around} (r : Room k A) (h : j ≤ k) (v : Option Value) : L2H.RoomH j (A.mark v) := L2H.RoomH.mono ⟨r.dp, r.un⟩ h
theorem passH {X : Cx} {E : L2.St → XK} : ∀ σ, PassesAt CX0 X σ (E σ) := fun _ _ _ _ _ _ _ h => h.elim
end
end D

/-! defs that show data as text: no guard of a repr stands open where they are called -/
namespace D
open PySem PySem.Spec PyProof.Rows L2
section
variable {P : Program} {w : World} {K : PySem.W.Frag} {mg : Str → Option Value} {base : Heap} {CX : CXT} {k : Nat} {f : Addr} {fd : FuncData} {ps : List Str} {sp : Sp}
/-- as FnOk, called where no guard stands open -/
structure FnG (P : Program) (w : World) (K : PySem.W.Frag) (mg : Str → Option Value) (base : Heap) (CX : CXT) (k : Nat) (f : Addr) (fd : FuncData) (ps : List Str) (sp : Sp) : Prop where
  ln : ∀ vs H Q E, sp vs H Q E → vs.length = ps.length
  go : ∀ (A : Around) (fr : List Env) (s : Shared) (H : Hp) (args : Args) (us : List Value) (vs : List V) (Q : VK) (E : XK), A.guards = some [] → Room k A → Env0 P w K mg base A fr s H → BindsTo s fd args (ps.zip us) → Vals vs us → sp vs H Q E → codeAny (model P w) A (.call (.ref f) args) (CR CX fr P w H s Q E) s
theorem FnG.of (F : FnOk P w K mg base CX k f fd ps sp) : FnG P w K mg base CX k f fd ps sp := ⟨F.len, fun A fr s H args us vs Q E _ hr he hb hv hs => F.run A fr s H args us vs Q E hr he hb hv hs⟩
theorem FnG.bodyG {name qual : Str} {pr : Arguments} {body : List Stmt} {sc : Scope} {dV kV doc pm c ct oc : Value} {an od : Option Addr} {osl : Array (Option Value)} {N : List Str}
    (lk : K.lookup f = some ⟨oc, od, .func (PySem.W.fnOf name qual pr body sc dV kV doc pm an c ct), osl⟩) (hc : PySem.W.codeIn K c qual = true) (S : FnScope N ps sc) (ln : ∀ vs H Q E, sp vs H Q E → vs.length = ps.length)
    (hb : ∀ (A : Around) (fr : List Env) (s : Shared) (H : Hp) (vs : List V) (Q : VK) (E : XK), (A.deeper (envOfC qual sc s.heap.objs.size f c)).guards = some [] → Room k (A.deeper (envOfC qual sc s.heap.objs.size f c)) → sp vs H Q E →
      ∃ t, PSs (cxOf CX P w K mg base N qual sc f c A fr s H E) body t ∧ t { nx := fun _ H' => Q .non H', rt := Q } (start N vs) H) : FnG P w K mg base CX (k + 1) f (PySem.W.fnOf name qual pr body sc dV kV doc pm an c ct) ps sp := by
  refine ⟨ln, fun A fr s H args us vs Q E gd hr e0 bd rv hs => ?_⟩
  have n1 := ln _ _ _ _ hs
  have kin : K.In s.heap := e0.mod.kin.keeps fun x o e => (e0.bs x o e).1
  have nl : s.heap.NoLimit := e0.mod.nolimit.keeps fun x o e => (e0.bs x o e).1
  have kd : ∀ y ∈ ps.zip us, sc.names.lookup y.1 = some .local ∨ (sc.names.lookup y.1 = some .cell ∧ ((cellsFrom (s.heap.objs.size + 1) sc.names []).lookup y.1).isSome = true) := by
    rintro ⟨m, v⟩ hy
    exact (S.par m (List.of_mem_zip hy).1).imp id fun z => ⟨z, PySem.W.cellsFrom_some _ _ _ (.inl z)⟩
  refine codeAny_call_function hr.depth (kin _ _ lk) rfl S.co S.gen rfl (PySem.W.codeRec_of kin hc) (bd _ _ _ _ (wpAny_newFunctionEnv_cells S.kind kd fun ev he s1 x => ?_))
  cases he
  refine ⟨nl.keeps x.toInCall.keep, codeAny_func ?_⟩
  obtain ⟨t, ht, hq⟩ := hb A fr s H vs Q E gd (hr.deeper _) hs
  refine wpAny_mono (ht.run [] s1 (start N vs) H _ (inv_start S hr.hd e0 n1 rv x) hq) (fun fl s' z => ?_) fun e s' z => z
  cases fl with
  | ret u =>
    obtain ⟨v, σ', H', J, r, q⟩ := z
    exact ⟨v, H', J.os, J.bare, J.base, J.hok, r, q⟩
  | next =>
    obtain ⟨σ', H', J, q⟩ := z
    exact ⟨V.non, H', J.os, J.bare, J.base, J.hok, rfl, q⟩
  | brk =>
    obtain ⟨_, _, _, z⟩ := z
    exact False.elim z
  | cont =>
    obtain ⟨_, _, _, z⟩ := z
    exact False.elim z
theorem Fun.okG {x qual : Str} {st : Stmt} {N : List Str} (F : Fun K x qual st f fd) (S : FnScope N ps (defScope st)) (ln : ∀ vs H Q E, sp vs H Q E → vs.length = ps.length)
    (hb : ∀ (c : Value) (A : Around) (fr : List Env) (s : Shared) (H : Hp) (vs : List V) (Q : VK) (E : XK), (A.deeper (envOfC qual (defScope st) s.heap.objs.size f c)).guards = some [] → Room k (A.deeper (envOfC qual (defScope st) s.heap.objs.size f c)) → sp vs H Q E →
      ∃ t, PSs (cxOf CX0 P w K mg base N qual (defScope st) f c A fr s H E).nox (defBody st) t ∧ t { nx := fun _ H' => Q .non H', rt := Q } (start N vs) H) : FnG P w K mg base CX0 (k + 1) f fd ps sp := by
  obtain ⟨oc, od, kV, doc, pm, an, c, ct, osl, rfl, lk, hc⟩ := F.ex
  refine FnG.bodyG lk hc S ln fun A fr s H vs Q E gd hr hs => ?_
  obtain ⟨t, h, q⟩ := hb c A fr s H vs Q E gd hr hs
  exact ⟨t, h.nox, q⟩
end
section
variable {X : Cx} {CX : CXT} {k : Nat} {f : Addr} {fd : FuncData} {ps : List Str} {sp : Sp} {E : XK} {x : Str} {p pos : Pos} {e : Expr} {es : List Expr} {t : TA}
theorem run_fnG {pins : List (Addr × Obj)} {σ : L2.St} {H : Hp} {s : Shared} {Q : VK} {us : List Value} {vs : List V} (F : FnG X.prog X.w X.K X.mg X.base CX k f fd ps sp) (gd : X.A.guards = some []) (hr : Room k X.A) (hb : Binds X.K fd ps []) (hx : Passes CX X E)
    (I : Inv X pins σ H s) (r : Vals vs us) (h : sp vs H Q E) : wpAny (model X.prog X.w) X.A (call (.ref f) us) (EP X pins σ Q) X.xe s := by
  have hl : (us ++ ([] : List Value)).length = ps.length := by rw [List.append_nil, ← r.length]; exact F.ln _ _ _ _ h
  have bd := hb s us I.kIn hl
  rw [List.append_nil] at bd
  refine wpAny_call (codeAny_mono (F.go X.A X.stack s H ⟨us, []⟩ us vs Q E gd hr I.env0 bd r h) fun z s' hq => ?_)
  cases z with
  | error er => exact hx pins σ H s er s' I hq
  | ok fl =>
    cases fl with
    | ret u => exact I.after hq
    | next => exact hq.elim
    | brk => exact hq.elim
    | cont => exact hq.elim
theorem pe_callG (F : FnG X.prog X.w X.K X.mg X.base CX k f fd ps sp) (gd : X.A.guards = some []) (hr : Room k X.A) (hg : Gl X x) (hm : X.mg x = some (.ref f)) (hk : PySem.W.keepIn X.K (.ref f) = true) (hb : Binds X.K fd ps []) (hx : Passes CX X E) (ha : PA X (e :: es) t)
    (hdb : (x == ("__debug__" : Str)) = false := by decide) (he : starEach (e :: es) X.env = (false, eval e X.env) :: starEach es X.env := by rfl) (hpl : (backTo pos (starEach es X.env)).any (·.1) = false := by rfl) : PE X (.Call (.Name x p) (e :: es) [] pos) (tCall sp [] E t) := by
  refine ⟨fun pins s σ H Q I h => wpAny_Call_Name_kw (ld_glob I hg hm ?_ hdb)⟩
  refine PySem.W.callWith_K (h₀ := X.base) I.ok.mod.kin hk (thn (ha.run pos pins s σ H _ I h) fun us s1 ⟨vs, H1, I1, r, q⟩ => ⟨I1.kIn, ?_⟩) he hpl
  have q0 : sp (vs ++ []) H1 Q E := q
  rw [List.append_nil] at q0
  exact run_fnG F gd hr hb hx I1 r q0
theorem pe_call0G (F : FnG X.prog X.w X.K X.mg X.base CX k f fd ps sp) (gd : X.A.guards = some []) (hr : Room k X.A) (hg : Gl X x) (hm : X.mg x = some (.ref f)) (hk : PySem.W.keepIn X.K (.ref f) = true) (hb : Binds X.K fd ps []) (hx : Passes CX X E)
    (hdb : (x == ("__debug__" : Str)) = false := by decide) : PE X (.Call (.Name x p) [] [] pos) (tCall sp [] E tNil) :=
  ⟨fun pins s σ H Q I h => wpAny_Call_Name_kw (ld_glob I hg hm (PySem.W.callWith_K0 I.kIn hk (run_fnG (us := []) (vs := []) F gd hr hb hx I .nil h)) hdb)⟩
/-- repr of data -/
theorem call_reprD (gd : X.A.guards = some []) (hu : X.A.units + 200 < cLine) : CallR X (.builtin "repr") (fun xs H Q => ∃ a d, xs = [.ref a] ∧ Dp X.K H (.ref a) d ∧ d.showable = true ∧ d.hasDict = false ∧ d.depth ≤ 64 ∧ d.shown.length ≤ sizeLine ∧ Q (.str d.shown) H) := by
  intro pins s σ H xs us Q I r h
  obtain ⟨a, d, rfl, hd, h1, h2, h3, h4, q⟩ := h
  obtain ⟨u, rfl, ru⟩ := vals1 r
  obtain ⟨as, rd⟩ := Dp.reads I d _ _ hd ru
  cases ru
  exact repr_of_reads' rd h1 (fun z => by rw [h2] at z; cases z) gd (by omega) (fun b o e => e) (fun h' u tk hk => ⟨.str d.shown, H, I.kept hk, ⟨u, rfl⟩, q⟩) h4
end
end D
/-! ### all kinds -/
namespace D
open PySem PySem.Spec PyProof.Rows L2
section
variable {X : Cx}
/-- repr of data of any kind -/
theorem call_reprV (gd : X.A.guards = some []) (hu : X.A.units + 200 < cLine) : CallR X (.builtin "repr") (fun vs H Q => ∃ v d, vs = [v] ∧ Dp X.K H v d ∧ d.showable = true ∧ d.hasDict = false ∧ d.depth ≤ 64 ∧ d.shown.length ≤ sizeLine ∧ Q (.str d.shown) H) := by
  rintro pins s σ H vs us Q I r ⟨v, d, rfl, hd, h1, h2, h3, h4, q⟩
  cases hd with
  | lst h k => exact call_reprD gd hu pins s σ H _ us Q I r ⟨_, _, rfl, .lst h k, h1, h2, h3, h4, q⟩
  | tup h k => exact call_reprD gd hu pins s σ H _ us Q I r ⟨_, _, rfl, .tup h k, h1, h2, h3, h4, q⟩
  | non =>
    obtain ⟨u, rfl, ru⟩ := vals1 r
    cases (show u = Value.none from ru)
    rw [PyData.shown_none] at q
    exact PySem.P.repr_of_none ⟨.str _, H, I.tok _, ⟨_, rfl⟩, q⟩
  | bl b =>
    obtain ⟨u, rfl, ru⟩ := vals1 r
    cases (show u = Value.bool b from ru)
    rw [PyData.shown_bool] at q
    exact PySem.P.repr_of_bool ⟨.str _, H, I.tok _, ⟨_, rfl⟩, q⟩
  | int i =>
    obtain ⟨u, rfl, t, rfl⟩ := vals1 r
    rw [PyData.shown_int] at q
    exact PySem.P.repr_of_int (of_decide_eq_true h1) ⟨.str _, H, I.tok _, ⟨_, rfl⟩, q⟩
  | str y =>
    obtain ⟨u, rfl, t, rfl⟩ := vals1 r
    rw [PyData.shown_str] at q h4
    exact PySem.P.repr_of_str ⟨.str _, H, I.tok _, ⟨_, rfl⟩, q⟩ h4
end
end D
namespace D
open PySem PySem.Spec PyProof.Rows L2
/-- join, its row's part of the module named -/
theorem pe_joinK {X : Cx} {K : PySem.W.Frag} {o e : Expr} {to te : TE} {apos pos : Pos} (h : X.K = K) (ho : PE X o to) (he : PE X e te) (hs : starEach [e] X.env = [(false, eval e X.env)] := by rfl) (hb : attributeBase o "join" X.env (eval o X.env) = eval o X.env := by rfl) (hl : (apos.endLine == pos.line) = true := by rfl) :
    PE X (.Call (.Attribute o "join" apos) [e] [] pos) (tM1 (fun x xs H Q => ∃ a p, ∃ ys : List Str, x = .str a ∧ xs = [.ref p] ∧ (SqL K H p (ys.map V.str) ∨ SqT K H p (ys.map V.str)) ∧ (ys.map (·.length)).sum + ys.length * a.length ≤ 16777216 ∧ Q (.str (Txt.join a ys)) H) to te) := by
  subst h
  exact pe_join ho he hs hb hl
end D
/-! ### the law's own call: no guard stands open there -/
namespace D
open PySem PySem.Spec PyProof.Rows L2
theorem un200 {A : Around} {k : Nat} (r : Room k A) : A.units + 200 < cLine := by
  have z := r.un
  omega
section
variable {P : Program} {w : World} {K : PySem.W.Frag} {mg mb : Str → Option Value} {CX : CXT} {k : Nat} {fa a : Addr} {fd : FuncData} {x : Str} {sp : Sp} {z : Shared} {us : List Value} {ns : List Int}
theorem top_run (kx : K.In z.heap) (h1 : z.heap.Ns mainGlobals mg) (h2 : z.heap.Ns builtinsNs mb) (h3 : ∀ y : Str, y ≠ "__name__" → mb y = bootBuiltins y) (h4 : z.heap.NoLimit) (h5 : z.gens = #[]) (ha : z.heap.get? a = some { cls := .type "list", data := .seq us.toArray })
    (hr : Room k callerA) (F : ∀ base : Heap, K.In base → base.Ns mainGlobals mg → FnG P w K mg base CX k fa fd [x] sp) (bd : ∀ (s : Shared) (u : Value), BindsTo s fd ⟨[u], []⟩ [(x, u)]) (cx : ∀ H e s', CX [] H z (fun _ _ _ => False) e s' → False)
    {H : Hp} (only : Only H) (hsp : sp [.ref a] H (fun v _ => v = .bl true) fun _ _ _ => False) (hok : HOk P w H z.heap) (own : ∀ b, H b ≠ none → b = a ∧ K.lookup b = none) :
    codeAny (model P w) callerA (.call (.ref fa) ⟨[.ref a], []⟩) (fun r s' => r = .ok (.ret (.bool true)) ∧ OldK z.heap s'.heap ∧ s'.os = z.os ∧ AllBare s'.gens) z := by
  have out : ∀ {b : Addr} {o : Obj} {es : Array DictEntry} {n : Nat}, z.heap.get? b = some o → o.data = .dict es n → H b = none := fun {b o es n} e d => by
    by_cases q : H b = none
    · exact q
    · obtain ⟨rfl, _⟩ := own b q
      rw [ha] at e
      cases e
      cases (show Data.seq us.toArray _ = Data.dict es n from d)
  have ns' : ∀ {b : Addr} {m : Str → Option Value}, z.heap.Ns b m → (hidT z.heap H).Ns b m := fun {b m} h => by
    obtain ⟨o, es, n, e, d, r⟩ := h
    exact ⟨o, es, n, hidT_get e (out e d), d, r⟩
  have kb : K.In (hidT z.heap H) := fun b o e => by
    refine hidT_get (kx b o e) ?_
    by_cases q : H b = none
    · exact q
    · rw [(own b q).2] at e
      cases e
  obtain ⟨mc, l1, l2⟩ := h4
  have md : Mod K mg (hidT z.heap H) := ⟨kb, ns' h1, ⟨mb, ns' h2, h3⟩, mc, ns' l1, l2⟩
  have ev : Env0 P w K mg (hidT z.heap H) callerA [] z H := ⟨rfl, md, fun _ _ e => of_hidT e, by rw [hidT_size]; exact Nat.le_refl _, trivial, fun b m => (by cases m), hok, .of_eq h5⟩
  have run := (F _ kb (ns' h1)).go callerA [] z H ⟨[.ref a], []⟩ [.ref a] [.ref a] (fun v _ => v = .bl true) (fun _ _ _ => False) rfl hr ev (bd z (.ref a)) (.cons rfl .nil) hsp
  refine codeAny_mono run fun r s' c => ?_
  rcases r with er | fl
  · exact absurd c (cx H er s')
  · cases fl with
    | next => exact c.elim
    | brk => exact c.elim
    | cont => exact c.elim
    | ret u =>
      obtain ⟨v, H2, o1, b1, un, ok2, rv, ev⟩ := c
      cases (show v = V.bl true from ev)
      cases (show u = Value.bool true from rv)
      refine ⟨rfl, OldK.of_keep fun b o e => ?_, o1, b1⟩
      cases q : H b with
      | none => exact un.keep b o e q (fun m => by cases m) (fun m => by cases m)
      | some t =>
        rcases only b with y | ⟨ob, xs, y⟩
        · rw [q] at y; cases y
        · obtain ⟨e1, _⟩ := hok b _ y
          obtain ⟨e2, _⟩ := ok2 b _ (un.frzs b ob _ y)
          rw [e] at e1
          cases e1
          exact e2
end
theorem walk_ofG {l : PySem.W.OpenLaw} {n k : Nat} {q : Program} {loose : List Str} {XP : (Str → Option Value) → Heap → Prop} {YP : World → Heap → Prop} {d : DefRec} {K : Params → PySem.W.Frag} {sp : PySem.W.Frag → Sp} {x : Str}
    (hn : l.most = some n) (hn2 : n ≤ sizeLine) (hdf : d.params.defaults = []) (hr : Room k callerA) (hY : ∀ (w : World) (h : Heap), YP w h → (K w.params).In h)
    (F : ∀ (w : World) (mg : Str → Option Value) (fa : Addr) (h : Heap), (K w.params).In h → h.Ns mainGlobals mg → mg d.name = some (.ref fa) →
      ∃ fd : FuncData, (∀ (s : Shared) (u : Value), BindsTo s fd ⟨[u], []⟩ [(x, u)]) ∧ ∀ base : Heap, (K w.params).In base → base.Ns mainGlobals mg → FnG l.prog w (K w.params) mg base CX0 k fa fd [x] (sp (K w.params)))
    (hsp : ∀ (K : PySem.W.Frag) (H : Hp) (a : Addr) (ns : List Int), ns.length ≤ n → SqL K H a (ns.map V.int) → sp K [.ref a] H (fun v _ => v = .bl true) fun _ _ _ => False) :
    PySem.W.WalkO q loose XP YP l.row.toRowW d [] (fun f vs => PySem.call f vs) := by
  refine Att.attach_call hn hdf fun w s0 z mg mb fa o pm cd dc a us ns G Y ho hd hcd hm hob hi hle hg => ?_
  have kx := hY w _ Y
  obtain ⟨fd, bd, hF⟩ := F w mg fa _ kx G.T.g hm
  have lv := vals_ints hi
  have le1 : (ns.map V.int).length ≤ sizeLine := by
    rw [List.length_map]
    omega
  cases hk : (K w.params).lookup a with
  | some u =>
    have e := kx a u hk
    rw [hob] at e
    cases e
    have hS : SqL (K w.params) (fun _ => none) a (ns.map V.int) := .inr ⟨_, us.toArray, _, hk, rfl, rfl, rfl, by rw [List.size_toArray, ← lv.length]; exact le1, by simpa using lv⟩
    exact top_run kx G.T.g G.T.b G.T.builtins G.T.nolimit hg hob hr hF bd (fun _ _ _ c => c) (fun _ => .inl rfl) (hsp _ _ _ _ hle hS) (fun b t c => by cases (show (none : Option HO) = some t from c)) fun b c => absurd rfl c
  | none =>
    obtain ⟨H, eH⟩ : ∃ H : Hp, H = upd (fun _ => none) a (.frz { cls := .type "list", data := .seq us.toArray } (.lst (ns.map V.int))) := ⟨_, rfl⟩
    have ea : H a = some (.frz { cls := .type "list", data := .seq us.toArray } (.lst (ns.map V.int))) := by rw [eH]; exact upd_same
    have en : ∀ b, b ≠ a → H b = none := fun b c => by rw [eH]; exact upd_ne c
    refine top_run kx G.T.g G.T.b G.T.builtins G.T.nolimit hg hob hr hF bd (fun _ _ _ c => c) (H := H) (fun b => ?_) (hsp _ _ _ _ hle (.inl (.inr ⟨_, ea⟩))) (fun b t c => ?_) fun b c => ?_
    · by_cases e : b = a
      · exact .inr ⟨_, _, by rw [e]; exact ea⟩
      · exact .inl (en b e)
    · by_cases e : b = a
      · rw [e] at c
        rw [ea] at c
        cases c
        rw [e]
        exact ⟨hob, le1, us, _, lv, hob⟩
      · rw [en b e] at c
        cases c
    · by_cases e : b = a
      · rw [e]
        exact ⟨rfl, hk⟩
      · exact absurd (en b e) c
end D

namespace D
open PySem PySem.Spec PyProof.Rows L2
/-! ### texts cut at one sign -/
def sp1 (k : Nat) : List Nat → List Nat → List (List Nat)
  | acc, [] => [acc]
  | acc, c :: r => if c = k then acc :: sp1 k [] r else sp1 k (acc ++ [c]) r
theorem spl_sp1 (k : Nat) : ∀ (l acc : List Nat), TL.spl [k] 0 acc l = sp1 k acc l
  | [], acc => rfl
  | c :: r, acc => by
    have hp : TL.pre [k] (c :: r) = decide (c = k) := by
      unfold TL.pre
      show ([c] == [k]) = _
      by_cases e : c = k
      · subst e
        simp
      · simp [e]
    unfold TL.spl sp1
    rw [hp]
    by_cases e : c = k
    · rw [decide_eq_true e, if_pos rfl, if_pos e]
      exact congrArg _ (spl_sp1 k r [])
    · rw [decide_eq_false e, if_neg Bool.false_ne_true, if_neg e]
      exact spl_sp1 k r _
theorem sp1_ne (k : Nat) : ∀ (l acc : List Nat), sp1 k acc l ≠ []
  | [], _ => fun h => nomatch h
  | c :: r, acc => by
    unfold sp1
    by_cases e : c = k
    · rw [if_pos e]
      exact fun h => nomatch h
    · rw [if_neg e]
      exact sp1_ne k r _
/-- the first part begins with what was read -/
theorem sp1_head (k : Nat) : ∀ (l acc : List Nat), ∃ x rest, sp1 k acc l = (acc ++ x) :: rest
  | [], acc => ⟨[], [], by rw [List.append_nil]; rfl⟩
  | c :: r, acc => by
    unfold sp1
    by_cases e : c = k
    · rw [if_pos e]
      exact ⟨[], _, by rw [List.append_nil]⟩
    · rw [if_neg e]
      obtain ⟨x, rest, h⟩ := sp1_head k r (acc ++ [c])
      exact ⟨c :: x, rest, by rw [h, List.append_assoc]; rfl⟩
theorem sp1_free (k : Nat) : ∀ (l acc : List Nat), k ∉ l → sp1 k acc l = [acc ++ l]
  | [], acc, _ => by rw [List.append_nil]; rfl
  | c :: r, acc, h => by
    unfold sp1
    rw [if_neg (fun e => h (by rw [e]; exact List.mem_cons_self)), sp1_free k r _ (fun m => h (List.mem_cons_of_mem _ m)), List.append_assoc]
    rfl
theorem sp1_cut (k : Nat) : ∀ (p acc r : List Nat), k ∉ p → sp1 k acc (p ++ k :: r) = (acc ++ p) :: sp1 k [] r
  | [], acc, r, _ => by
    show sp1 k acc (k :: r) = _
    unfold sp1
    rw [if_pos rfl, List.append_nil]
    cases r <;> rfl
  | c :: p, acc, r, h => by
    show sp1 k acc (c :: (p ++ k :: r)) = _
    rw [sp1, if_neg (fun e => h (by rw [e]; exact List.mem_cons_self)), sp1_cut k p _ r (fun m => h (List.mem_cons_of_mem _ m)), List.append_assoc]
    rfl
theorem cut_at (k : Nat) : ∀ t : List Nat, k ∉ t ∨ ∃ p r, t = p ++ k :: r ∧ k ∉ p
  | [] => .inl (by simp)
  | c :: t => by
    by_cases e : c = k
    · exact .inr ⟨[], t, by rw [e]; rfl, by simp⟩
    · rcases cut_at k t with h | ⟨p, r, rfl, h⟩
      · exact .inl fun m => (List.mem_cons.mp m).elim (fun z => e z.symm) h
      · exact .inr ⟨c :: p, r, rfl, fun m => (List.mem_cons.mp m).elim (fun z => e z.symm) h⟩
theorem join_cons (y p : List Nat) {l : List (List Nat)} (h : l ≠ []) : TL.joinL y (p :: l) = p ++ y ++ TL.joinL y l := by
  cases l with
  | nil => exact absurd rfl h
  | cons q r => first | rfl | simp [TL.joinL]
theorem join_sp1 (k : Nat) : ∀ (l acc : List Nat), TL.joinL [k] (sp1 k acc l) = acc ++ l
  | [], acc => by
    show acc = _
    rw [List.append_nil]
  | c :: r, acc => by
    unfold sp1
    by_cases e : c = k
    · rw [if_pos e, join_cons _ _ (sp1_ne k r []), join_sp1 k r [], e, List.nil_append, List.append_assoc]
      rfl
    · rw [if_neg e, join_sp1 k r, List.append_assoc]
      rfl
theorem join_snoc (y p : List Nat) : ∀ {l : List (List Nat)}, l ≠ [] → TL.joinL y (l ++ [p]) = TL.joinL y l ++ y ++ p
  | [], h => absurd rfl h
  | [q], _ => by
    show TL.joinL y [q, p] = _
    rw [join_cons _ _ (by simp)]
    rfl
  | q :: q2 :: r, _ => by
    show TL.joinL y (q :: ((q2 :: r) ++ [p])) = _
    rw [join_cons _ _ (by simp), join_snoc y p (by simp : q2 :: r ≠ []), join_cons y q (by simp : q2 :: r ≠ [])]
    simp only [List.append_assoc]
/-! ### numbers of one or two digits -/
def isD (c : Nat) : Bool := decide (48 ≤ c ∧ c ≤ 57)
def isNum (w : List Nat) : Bool := decide (1 ≤ w.length ∧ w.length ≤ 2) && w.all isD && (decide (w.length = 1) || decide (w[0]? ≠ some 48))
def valN (w : List Nat) : Nat := w.foldl (fun n c => 10 * n + (c - 48)) 0
def dig (n : Nat) : List Nat := if n < 10 then [48 + n] else [48 + n / 10, 48 + n % 10]
theorem isNum_cases {w : List Nat} (h : isNum w = true) : (∃ a, w = [48 + a] ∧ a < 10) ∨ ∃ a b, w = [48 + a, 48 + b] ∧ 1 ≤ a ∧ a < 10 ∧ b < 10 := by
  simp only [isNum, Bool.and_eq_true, Bool.or_eq_true, decide_eq_true_eq, List.all_eq_true] at h
  obtain ⟨⟨⟨h1, h2⟩, h3⟩, h4⟩ := h
  match w, h1, h2 with
  | [c], _, _ =>
    have := of_decide_eq_true (h3 c (by simp))
    exact .inl ⟨c - 48, by congr 1; omega, by omega⟩
  | [c, d], _, _ =>
    have hc := of_decide_eq_true (h3 c (by simp))
    have hd := of_decide_eq_true (h3 d (by simp))
    have n48 : c ≠ 48 := fun e => by
      rcases h4 with z | z
      · simp at z
      · exact z (by rw [e]; rfl)
    exact .inr ⟨c - 48, d - 48, by congr 1; omega; congr 1; omega, by omega, by omega, by omega⟩
theorem isNum_one {a : Nat} (h : a < 10) : isNum [48 + a] = true := by
  have h1 : isD (48 + a) = true := decide_eq_true ⟨by omega, by omega⟩
  simp [isNum, h1]
theorem isNum_two {a b : Nat} (h0 : 1 ≤ a) (h : a < 10) (h2 : b < 10) : isNum [48 + a, 48 + b] = true := by
  have h1 : isD (48 + a) = true := decide_eq_true ⟨by omega, by omega⟩
  have h3 : isD (48 + b) = true := decide_eq_true ⟨by omega, by omega⟩
  have h4 : 48 + a ≠ 48 := by omega
  simp [isNum, h1, h3]
  omega
theorem isNum_dig {n : Nat} (h : n < 100) : isNum (dig n) = true := by
  unfold dig
  by_cases c : n < 10
  · rw [if_pos c]
    exact isNum_one c
  · rw [if_neg c]
    exact isNum_two (by omega) (by omega) (Nat.mod_lt _ (by decide))
theorem valN_dig {n : Nat} (h : n < 100) : valN (dig n) = n := by
  unfold dig valN
  by_cases c : n < 10
  · rw [if_pos c]
    show 10 * 0 + (48 + n - 48) = n
    omega
  · rw [if_neg c]
    show 10 * (10 * 0 + (48 + n / 10 - 48)) + (48 + n % 10 - 48) = n
    omega
theorem dig_valN {w : List Nat} (h : isNum w = true) : dig (valN w) = w ∧ valN w < 100 := by
  rcases isNum_cases h with ⟨a, rfl, ha⟩ | ⟨a, b, rfl, a0, ha, hb⟩
  · have e : valN [48 + a] = a := by show 10 * 0 + (48 + a - 48) = a; omega
    rw [e]
    refine ⟨?_, by omega⟩
    unfold dig
    rw [if_pos ha]
  · have e : valN [48 + a, 48 + b] = 10 * a + b := by show 10 * (10 * 0 + (48 + a - 48)) + (48 + b - 48) = _; omega
    rw [e]
    refine ⟨?_, by omega⟩
    unfold dig
    rw [if_neg (by omega), show (10 * a + b) / 10 = a by omega, show (10 * a + b) % 10 = b by omega]
theorem dig_mem {n c : Nat} (h : c ∈ dig n) (hn : n < 100) : 48 ≤ c ∧ c ≤ 57 := by
  unfold dig at h
  split at h
  · simp at h
    omega
  · simp at h
    omega
theorem dig_ne (n : Nat) : dig n ≠ [] := by
  unfold dig
  split <;> simp
/-! ### places -/
def rdStep (t : List Nat) : Option (List Nat) := if (sp1 58 [] t).length ≤ 2 ∧ (sp1 58 [] t).all isNum = true then some ((sp1 58 [] t).map valN) else none
def rdAll : List (List Nat) → Option (List (List Nat))
  | [] => some []
  | w :: r => (rdStep w).bind fun a => (rdAll r).map (a :: ·)
def wrS (S : List Nat) : List Nat := TL.joinL [58] (S.map dig)
def wrP (P : List (List Nat)) : List Nat := TL.joinL [47] (P.map wrS)
def goodS (S : List Nat) : Prop := 1 ≤ S.length ∧ S.length ≤ 2 ∧ ∀ n ∈ S, n < 100
theorem wrS_mem {S : List Nat} (h : goodS S) : ∀ c ∈ wrS S, (48 ≤ c ∧ c ≤ 57) ∨ c = 58 := by
  obtain ⟨h1, h2, h3⟩ := h
  intro c hc
  match S, h1, h2 with
  | [a], _, _ => exact .inl (dig_mem hc (h3 a (by simp)))
  | [a, b], _, _ =>
    have hc : c ∈ dig a ++ [58] ++ dig b := by
      have : wrS [a, b] = dig a ++ [58] ++ dig b := join_cons _ _ (by simp)
      rw [← this]; exact hc
    simp only [List.mem_append, List.mem_singleton] at hc
    rcases hc with (z | z) | z
    · exact .inl (dig_mem z (h3 a (by simp)))
    · exact .inr z
    · exact .inl (dig_mem z (h3 b (by simp)))
theorem wrS_ne {S : List Nat} (h : goodS S) : wrS S ≠ [] := by
  obtain ⟨h1, h2, h3⟩ := h
  match S, h1, h2 with
  | [a], _, _ => exact dig_ne a
  | [a, b], _, _ =>
    have : wrS [a, b] = dig a ++ [58] ++ dig b := join_cons _ _ (by simp)
    rw [this]
    simp
theorem sp1_join {k : Nat} {parts : List (List Nat)} (hne : parts ≠ []) (h : ∀ p ∈ parts, k ∉ p) : sp1 k [] (TL.joinL [k] parts) = parts := by
  rw [← spl_sp1]
  exact TL.spl_join hne h
theorem rd_wrS {S : List Nat} (h : goodS S) : rdStep (wrS S) = some S := by
  obtain ⟨h1, h2, h3⟩ := id h
  have e : sp1 58 [] (wrS S) = S.map dig := sp1_join (fun z => by rw [List.map_eq_nil_iff.mp z] at h1; exact absurd h1 (by decide)) fun p hp z => by
    obtain ⟨n, hn, rfl⟩ := List.mem_map.mp hp
    have := dig_mem z (h3 n hn)
    omega
  unfold rdStep
  rw [e, if_pos ⟨by rw [List.length_map]; exact h2, by
    rw [List.all_map]
    exact List.all_eq_true.mpr fun n hn => isNum_dig (h3 n hn)⟩, List.map_map]
  congr 1
  exact (List.map_congr_left fun n hn => valN_dig (h3 n hn)).trans (List.map_id _)
theorem rdAll_map : ∀ {P : List (List Nat)}, (∀ S ∈ P, goodS S) → rdAll (P.map wrS) = some P
  | [], _ => rfl
  | S :: r, h => by
    show (rdStep (wrS S)).bind _ = _
    rw [rd_wrS (h S List.mem_cons_self)]
    show (rdAll (r.map wrS)).map _ = _
    rw [rdAll_map fun z hz => h z (List.mem_cons_of_mem _ hz)]
    rfl
/-- what is written is read back -/
theorem rd_wr {P : List (List Nat)} (hn : P ≠ []) (h : ∀ S ∈ P, goodS S) : rdAll (sp1 47 [] (wrP P)) = some P := by
  have e : sp1 47 [] (wrP P) = P.map wrS := sp1_join (fun z => hn (List.map_eq_nil_iff.mp z)) fun p hp z => by
    obtain ⟨S, hS, rfl⟩ := List.mem_map.mp hp
    have := wrS_mem (h S hS) _ z
    omega
  rw [e, rdAll_map h]
theorem rdStep_some {t S : List Nat} (h : rdStep t = some S) : goodS S ∧ wrS S = t := by
  unfold rdStep at h
  split at h
  · rename_i c
    injection h with h
    subst h
    have hall := List.all_eq_true.mp c.2
    refine ⟨⟨?_, by rw [List.length_map]; exact c.1, fun n hn => ?_⟩, ?_⟩
    · rw [List.length_map]
      exact List.length_pos_iff.mpr (sp1_ne 58 t [])
    · obtain ⟨w, hw, rfl⟩ := List.mem_map.mp hn
      exact (dig_valN (hall w hw)).2
    · unfold wrS
      rw [List.map_map, (List.map_congr_left fun w hw => (dig_valN (hall w hw)).1 : (sp1 58 [] t).map (dig ∘ valN) = (sp1 58 [] t).map id), List.map_id, join_sp1]
      rfl
  · cases h
theorem rdAll_some : ∀ {ws : List (List Nat)} {P : List (List Nat)}, rdAll ws = some P → P.map wrS = ws ∧ (∀ S ∈ P, goodS S) ∧ P.length = ws.length
  | [], P, h => by
    injection h with h
    subst h
    exact ⟨rfl, fun _ z => (nomatch z), rfl⟩
  | w :: r, P, h => by
    have h : (rdStep w).bind (fun a => (rdAll r).map (a :: ·)) = some P := h
    cases e1 : rdStep w with
    | none => rw [e1] at h; cases h
    | some a =>
      rw [e1] at h
      have h : (rdAll r).map (a :: ·) = some P := h
      cases e2 : rdAll r with
      | none => rw [e2] at h; cases h
      | some Q =>
        rw [e2] at h
        injection h with h
        subst h
        obtain ⟨i1, i2, i3⟩ := rdAll_some e2
        obtain ⟨g, e⟩ := rdStep_some e1
        refine ⟨?_, fun S hS => ?_, by rw [List.length_cons, List.length_cons, i3]⟩
        · rw [List.map_cons, e, i1]
        · rcases List.mem_cons.mp hS with rfl | z
          · exact g
          · exact i2 S z
/-- what is read is written again -/
theorem wr_rd {t : List Nat} {P : List (List Nat)} (h : rdAll (sp1 47 [] t) = some P) : wrP P = t ∧ (∀ S ∈ P, goodS S) ∧ P ≠ [] := by
  obtain ⟨h1, h2, h3⟩ := rdAll_some h
  refine ⟨?_, h2, fun z => ?_⟩
  · unfold wrP
    rw [h1, join_sp1]
    rfl
  · rw [z] at h3
    exact sp1_ne 47 t [] (List.length_eq_zero_iff.mp h3.symm)
/-! ### the law's own reading, sign by sign -/
def run : List (List Nat) → List Nat → List Nat → List Nat → Option (List (List Nat))
  | P, _, _, [] => some P
  | P, S, d, c :: r => if isD c = true then (if d.length = 2 ∨ d = [48] then none else run P S (d ++ [c]) r)
    else if c = 58 ∨ c = 47 then (if d = [] ∨ S.length = 2 then none else if c = 47 then run (P ++ [S ++ [valN d]]) [] [] r else run P (S ++ [valN d]) [] r) else none
def stp : List Nat → List Nat → List Nat → Option (List Nat)
  | S, d, [] => if d = [] ∨ S.length = 2 then none else some (S ++ [valN d])
  | S, d, c :: r => if isD c = true then (if d.length = 2 ∨ d = [48] then none else stp S (d ++ [c]) r) else if c = 58 then (if d = [] ∨ S.length = 2 then none else stp (S ++ [valN d]) [] r) else none
theorem run_cons (P : List (List Nat)) (S d : List Nat) (c : Nat) (r : List Nat) : run P S d (c :: r) = if isD c = true then (if d.length = 2 ∨ d = [48] then none else run P S (d ++ [c]) r)
    else if c = 58 ∨ c = 47 then (if d = [] ∨ S.length = 2 then none else if c = 47 then run (P ++ [S ++ [valN d]]) [] [] r else run P (S ++ [valN d]) [] r) else none := by
  rw [run]
theorem stp_nil (S d : List Nat) : stp S d [] = if d = [] ∨ S.length = 2 then none else some (S ++ [valN d]) := by
  rw [stp]
theorem stp_cons (S d : List Nat) (c : Nat) (r : List Nat) : stp S d (c :: r) = if isD c = true then (if d.length = 2 ∨ d = [48] then none else stp S (d ++ [c]) r) else if c = 58 then (if d = [] ∨ S.length = 2 then none else stp (S ++ [valN d]) [] r) else none := by
  rw [stp]
theorem run_piece : ∀ (p : List Nat) (P : List (List Nat)) (S d r : List Nat), 47 ∉ p → run P S d (p ++ 47 :: r) = (stp S d p).bind fun S' => run (P ++ [S']) [] [] r
  | [], P, S, d, r, _ => by
    show run P S d (47 :: r) = _
    rw [run_cons, stp_nil]
    rw [if_neg (by decide), if_pos (.inr rfl)]
    by_cases c : d = [] ∨ S.length = 2
    · rw [if_pos c, if_pos c]
      rfl
    · rw [if_neg c, if_neg c, if_pos rfl]
      rfl
  | c :: p, P, S, d, r, h => by
    have hp : 47 ∉ p := fun m => h (List.mem_cons_of_mem _ m)
    have hc : c ≠ 47 := fun e => h (by rw [e]; exact List.mem_cons_self)
    show run P S d (c :: (p ++ 47 :: r)) = _
    rw [run_cons, stp_cons]
    by_cases e1 : isD c = true
    · rw [if_pos e1, if_pos e1]
      by_cases e2 : d.length = 2 ∨ d = [48]
      · rw [if_pos e2, if_pos e2]
        rfl
      · rw [if_neg e2, if_neg e2]
        exact run_piece p P S _ r hp
    · rw [if_neg e1, if_neg e1]
      by_cases e2 : c = 58
      · rw [if_pos (.inl e2), if_pos e2]
        by_cases e3 : d = [] ∨ S.length = 2
        · rw [if_pos e3, if_pos e3]
          rfl
        · rw [if_neg e3, if_neg e3, if_neg hc]
          exact run_piece p P _ _ r hp
      · rw [if_neg (fun z => z.elim e2 hc), if_neg e2]
        rfl
theorem num_long {d x : List Nat} {c : Nat} (hd : isNum d = true) (h : d.length = 2 ∨ d = [48]) : isNum (d ++ [c] ++ x) = false := by
  rcases h with h | h
  · cases e : isNum (d ++ [c] ++ x)
    · rfl
    · simp only [isNum, Bool.and_eq_true, decide_eq_true_eq, List.length_append, List.length_singleton] at e
      omega
  · subst h
    cases e : isNum ([48] ++ [c] ++ x)
    · rfl
    · simp [isNum] at e
theorem num_odd {d x : List Nat} {c : Nat} (h : isD c ≠ true) : isNum (d ++ [c] ++ x) = false := by
  cases e : isNum (d ++ [c] ++ x)
  · rfl
  · simp only [isNum, Bool.and_eq_true, List.all_eq_true] at e
    exact absurd (e.1.2 c (by simp)) h
theorem stp_eq : ∀ (p S d : List Nat), S.length ≤ 2 → (d = [] ∨ isNum d = true) → stp S d p = if S.length + (sp1 58 d p).length ≤ 2 ∧ (sp1 58 d p).all isNum = true then some (S ++ (sp1 58 d p).map valN) else none
  | [], S, d, hS, hd => by
    unfold stp sp1
    by_cases e : d = [] ∨ S.length = 2
    · rw [if_pos e, if_neg]
      rintro ⟨z1, z2⟩
      rcases e with e | e
      · subst e
        exact absurd z2 (by decide)
      · rw [e] at z1
        simp at z1
    · rw [if_neg e, if_pos]
      · rfl
      · refine ⟨?_, ?_⟩
        · show S.length + 1 ≤ 2
          have : S.length ≠ 2 := fun z => e (.inr z)
          omega
        · rcases hd with z | z
          · exact absurd (.inl z) e
          · simp [z]
  | c :: p, S, d, hS, hd => by
    unfold stp sp1
    by_cases e1 : isD c = true
    · have hc : c ≠ 58 := fun z => by rw [z] at e1; exact absurd e1 (by decide)
      rw [if_pos e1, if_neg hc]
      by_cases e2 : d.length = 2 ∨ d = [48]
      · rw [if_pos e2, if_neg]
        rintro ⟨z1, z2⟩
        obtain ⟨x, rest, h⟩ := sp1_head 58 p (d ++ [c])
        rw [h, List.all_cons, num_long (hd.resolve_left (fun z => by rw [z] at e2; simp at e2)) e2] at z2
        cases z2
      · rw [if_neg e2]
        refine stp_eq p S _ hS (.inr ?_)
        have hc2 := of_decide_eq_true e1
        rcases hd with z | z
        · subst z
          have := isNum_one (a := c - 48) (by omega)
          rw [show 48 + (c - 48) = c by omega] at this
          exact this
        · rcases isNum_cases z with ⟨a, rfl, ha⟩ | ⟨a, b, rfl, _⟩
          · have a0 : a ≠ 0 := fun z => e2 (.inr (by rw [z]))
            have := isNum_two (a := a) (b := c - 48) (by omega) ha (by omega)
            rw [show 48 + (c - 48) = c by omega] at this
            exact this
          · exact absurd (.inl rfl) e2
    · rw [if_neg e1]
      by_cases e2 : c = 58
      · rw [if_pos e2, if_pos e2]
        by_cases e3 : d = [] ∨ S.length = 2
        · rw [if_pos e3, if_neg]
          rintro ⟨z1, z2⟩
          rcases e3 with e | e
          · subst e
            rw [List.all_cons] at z2
            exact absurd z2 (by rw [show isNum [] = false from by decide]; simp)
          · rw [List.length_cons] at z1
            omega
        · have hn := hd.resolve_left fun z => e3 (.inl z)
          have hl : S.length ≠ 2 := fun z => e3 (.inr z)
          rw [if_neg e3, stp_eq p (S ++ [valN d]) [] (by rw [List.length_append]; show S.length + 1 ≤ 2; omega) (.inl rfl)]
          simp only [List.length_append, List.length_cons, List.length_nil, List.all_cons, hn, Bool.true_and, List.map_cons, List.append_assoc, List.singleton_append]
          by_cases e4 : S.length + (0 + 1) + (sp1 58 [] p).length ≤ 2 ∧ (sp1 58 [] p).all isNum = true
          · rw [if_pos e4, if_pos ⟨by omega, e4.2⟩]
          · rw [if_neg e4, if_neg fun z => e4 ⟨by omega, z.2⟩]
      · rw [if_neg e2, if_neg e2, if_neg]
        rintro ⟨z1, z2⟩
        obtain ⟨x, rest, h⟩ := sp1_head 58 p (d ++ [c])
        rw [h, List.all_cons, num_odd e1] at z2
        cases z2
theorem stp_rd (p : List Nat) : stp [] [] p = rdStep p := by
  rw [stp_eq p [] [] (by decide) (.inl rfl)]
  unfold rdStep
  simp only [List.length_nil, Nat.zero_add, List.nil_append]
theorem run_rd : ∀ (n : Nat) (t : List Nat) (P : List (List Nat)), t.length ≤ n → run P [] [] (t ++ [47]) = (rdAll (sp1 47 [] t)).map (P ++ ·) := by
  intro n
  induction n with
  | zero =>
    intro t P h
    have : t = [] := List.length_eq_zero_iff.mp (by omega)
    subst this
    rw [run_piece [] P [] [] [] (by simp), stp_rd]
    rfl
  | succ n ih =>
    intro t P h
    rcases cut_at 47 t with c | ⟨p, r, rfl, c⟩
    · rw [run_piece t P [] [] [] c, stp_rd, sp1_free 47 t [] c, List.nil_append]
      show _ = ((rdStep t).bind fun a => (rdAll []).map (a :: ·)).map _
      cases rdStep t <;> rfl
    · rw [List.append_assoc, List.cons_append, run_piece p P [] [] (r ++ [47]) c, stp_rd, sp1_cut 47 p [] r c, List.nil_append]
      show _ = ((rdStep p).bind fun a => (rdAll (sp1 47 [] r)).map (a :: ·)).map _
      cases rdStep p with
      | none => rfl
      | some a =>
        show run (P ++ [a]) [] [] (r ++ [47]) = ((rdAll (sp1 47 [] r)).map (a :: ·)).map _
        rw [ih r (P ++ [a]) (by rw [List.length_append, List.length_cons] at h; omega), Option.map_map]
        congr 1
        funext z
        show P ++ [a] ++ z = P ++ a :: z
        rw [List.append_assoc]
        rfl
end D
namespace D
open PySem PySem.Spec PyProof.Rows L2
/-- a for over a text -/
theorem for_txt {z : Str} {g : TG} {tb : TS} {D : Ends} {σ : L2.St} {H : Hp} (Pv : Nat → L2.St → Hp → Prop) (h0 : Pv 0 σ H) (hs : ∀ i c σ H, z.cps.toList[i]? = some c → Pv i σ H → g (.str ⟨#[c]⟩) σ H fun σ2 H2 => tb { D with nx := Pv (i + 1), ct := Pv (i + 1), bk := D.nx } σ2 H2)
    (hd : ∀ σ H, Pv z.cps.toList.length σ H → D.nx σ H) : ∃ W : Nat → Nat → L2.St → Hp → Prop, (∃ m, W 0 m σ H) ∧ ∀ i m σ H, W i m σ H →
      ((Its z).stop i H ∧ D.nx σ H) ∨ ((Its z).go i H ∧ ∃ N : L2.St → Hp → Prop, (∀ σ' H', N σ' H' → ∃ m', m' < m ∧ W (i + 1) m' σ' H') ∧ ∀ x H', (Its z).yld i H x H' → g x σ H' fun σ2 H2 => tb { D with nx := N, ct := N, bk := D.nx } σ2 H2) := by
  rw [Array.length_toList] at hd
  refine ⟨fun i m σ H => m = z.cps.size - i ∧ i ≤ z.cps.size ∧ Pv i σ H, ⟨_, rfl, Nat.zero_le _, h0⟩, ?_⟩
  rintro i m σ H ⟨rfl, le, p⟩
  by_cases lt : i < z.cps.size
  · refine .inr ⟨lt, Pv (i + 1), fun σ' H' p' => ⟨z.cps.size - (i + 1), by omega, rfl, lt, p'⟩, ?_⟩
    rintro x H' ⟨e, c, hc, rfl⟩
    subst e
    exact hs i c _ _ (by rw [Array.getElem?_toList]; exact hc) p
  · obtain rfl : i = z.cps.size := by omega
    exact .inl ⟨Nat.le_refl _, hd _ _ p⟩
end D

namespace D
open PySem PySem.Spec PyProof.Rows L2
local macro_rules | `(tactic| walk_at "st") => `(tactic| first | exact SqT.of (by assumption) | exact Or.inl (by assumption) | exact SqT.of upd_same | fail "st")
local macro_rules | `(tactic| walk_at "ixt") => `(tactic| refine ⟨_, _, _, _, rfl, rfl, (by walk_at "st" : SqT _ _ _ _), by rfl, ?_⟩)
local macro_rules | `(tactic| walk_at "sq") => `(tactic| first | exact SqL.of (by assumption) | assumption | exact Or.inl (by assumption) | exact SqL.of upd_same | fail "sq")
local macro_rules | `(tactic| walk_at "ix") => `(tactic| refine ⟨_, _, _, _, rfl, rfl, (by walk_at "sq" : SqL _ _ _ _), by rfl, ?_⟩)
local macro_rules | `(tactic| walk_at "set") => `(tactic| refine ⟨_, _, _, _, rfl, rfl, by first | assumption | exact upd_same, by rfl, ?_⟩)
local macro_rules | `(tactic| walk_at "len") => `(tactic| refine ⟨_, _, rfl, Or.inl (by walk_at "sq" : SqL _ _ _ _), ?_⟩)
local macro_rules | `(tactic| walk_at "g") => `(tactic| repeat (first | refine ⟨_, rfl, ?_⟩ | refine ⟨_, _, rfl, rfl, ?_⟩ | refine ⟨Or.inr (by decide), ?_⟩ | refine ⟨Or.inl (by decide), ?_⟩ | refine ⟨(by decide : (0 : Int) < _), ?_⟩ | refine ⟨(⟨by decide, by decide⟩ : CDiv _ _), ?_⟩ | refine ⟨(⟨by decide, by decide, by decide⟩ : CPow _ _), ?_⟩ | refine Or.inl ⟨_, rfl, ?_⟩ | refine ⟨rfl, ?_⟩ | walk_at "ix" | walk_at "ixt" | walk_at "len" | fail "g"))
local macro_rules | `(tactic| walk_at "if") => `(tactic| refine ite2 (fun e => ?_) (fun e => ?_))
def topS (i : Nat) : Stmt := PySem.Challenge.pw_drawnanew_k76_places_written.main.body.getD i (.Pass ⟨0, 0, 0, 0⟩)
abbrev s_write_place : Stmt := topS 1
theorem sc_write_place : FnScope ["place", "step", "number"] ["place"] (defScope s_write_place) := ⟨rfl, rfl, rfl, by decide +kernel, rfl, by decide +kernel, by decide +kernel⟩
abbrev s_is_number : Stmt := topS 4
theorem sc_is_number : FnScope ["word", "most", "sign"] ["word", "most"] (defScope s_is_number) := ⟨rfl, rfl, rfl, by decide +kernel, rfl, by decide +kernel, by decide +kernel⟩
abbrev s__read_step : Stmt := topS 7
theorem sc__read_step : FnScope ["text", "words", "word"] ["text"] (defScope s__read_step) := ⟨rfl, rfl, rfl, by decide +kernel, rfl, by decide +kernel, by decide +kernel⟩
abbrev s_read_place : Stmt := topS 8
theorem sc_read_place : FnScope ["text", "steps", "step"] ["text"] (defScope s_read_place) := ⟨rfl, rfl, rfl, by decide +kernel, rfl, by decide +kernel, by decide +kernel⟩
abbrev s__law_mixed : Stmt := topS 10
theorem sc__law_mixed : FnScope ["_law_number", "_law_turn", "_law_first", "_law_second"] ["_law_number", "_law_turn"] (defScope s__law_mixed) := ⟨rfl, rfl, rfl, by decide +kernel, rfl, by decide +kernel, by decide +kernel⟩
abbrev s__law_bag : Stmt := topS 11
theorem sc__law_bag : FnScope ["_law_script", "_law_cell", "_law_numbers", "_law_seed", "_law_at"] ["_law_script"] (defScope s__law_bag) := ⟨rfl, rfl, rfl, by decide +kernel, rfl, by decide +kernel, by decide +kernel⟩
abbrev s__law_pick : Stmt := topS 12
theorem sc__law_pick : FnScope ["_law_bag_here", "_law_many", "_law_turn", "_law_cell", "_law_worth"] ["_law_bag_here", "_law_many"] (defScope s__law_pick) := ⟨rfl, rfl, rfl, by decide +kernel, rfl, by decide +kernel, by decide +kernel⟩
abbrev s__law_choice : Stmt := topS 13
theorem sc__law_choice : FnScope ["_law_bag_here", "_law_things"] ["_law_bag_here", "_law_things"] (defScope s__law_choice) := ⟨rfl, rfl, rfl, by decide +kernel, rfl, by decide +kernel, by decide +kernel⟩
abbrev s__law_drawn_place : Stmt := topS 14
theorem sc__law_drawn_place : FnScope ["_law_bag_here", "_law_many", "_law_out", "_law_step", "_law_numbers"] ["_law_bag_here"] (defScope s__law_drawn_place) := ⟨rfl, rfl, rfl, by decide +kernel, rfl, by decide +kernel, by decide +kernel⟩
abbrev s__law_place_text : Stmt := topS 15
theorem sc__law_place_text : FnScope ["_law_place", "_law_text", "_law_step"] ["_law_place"] (defScope s__law_place_text) := ⟨rfl, rfl, rfl, by decide +kernel, rfl, by decide +kernel, by decide +kernel⟩
abbrev s__law_place_of : Stmt := topS 16
theorem sc__law_place_of : FnScope ["_law_text", "_law_place", "_law_step", "_law_digits", "_law_sign"] ["_law_text"] (defScope s__law_place_of) := ⟨rfl, rfl, rfl, by decide +kernel, rfl, by decide +kernel, by decide +kernel⟩
abbrev s__law_spoilt_text : Stmt := topS 17
theorem sc__law_spoilt_text : FnScope ["_law_bag_here", "_law_text", "_law_signs", "_law_step", "_law_at", "_law_sign", "_law_way"] ["_law_bag_here", "_law_text"] (defScope s__law_spoilt_text) := ⟨rfl, rfl, rfl, by decide +kernel, rfl, by decide +kernel, by decide +kernel⟩
abbrev s_law : Stmt := topS 18
theorem sc_law : FnScope ["_law_script", "_law_bag_here", "_law_turn", "_law_place", "_law_text", "_law_way", "_law_other", "_law_due", "_law_told"] ["_law_script"] (defScope s_law) := ⟨rfl, rfl, rfl, by decide +kernel, rfl, by decide +kernel, by decide +kernel⟩

structure Txt (K : PySem.W.Frag) (mg : Str → Option Value) where
  f_write_place : Addr
  d_write_place : FuncData
  F_write_place : Fun K "write_place" "write_place" s_write_place f_write_place d_write_place
  b_write_place : Binds K d_write_place ["place"] []
  g_write_place : mg "write_place" = some (.ref f_write_place)
  f_is_number : Addr
  d_is_number : FuncData
  F_is_number : Fun K "is_number" "is_number" s_is_number f_is_number d_is_number
  b_is_number : Binds K d_is_number ["word", "most"] []
  g_is_number : mg "is_number" = some (.ref f_is_number)
  f__read_step : Addr
  d__read_step : FuncData
  F__read_step : Fun K "_read_step" "_read_step" s__read_step f__read_step d__read_step
  b__read_step : Binds K d__read_step ["text"] []
  g__read_step : mg "_read_step" = some (.ref f__read_step)
  f_read_place : Addr
  d_read_place : FuncData
  F_read_place : Fun K "read_place" "read_place" s_read_place f_read_place d_read_place
  b_read_place : Binds K d_read_place ["text"] []
  g_read_place : mg "read_place" = some (.ref f_read_place)
  f__law_mixed : Addr
  d__law_mixed : FuncData
  F__law_mixed : Fun K "_law_mixed" "_law_mixed" s__law_mixed f__law_mixed d__law_mixed
  b__law_mixed : Binds K d__law_mixed ["_law_number", "_law_turn"] []
  g__law_mixed : mg "_law_mixed" = some (.ref f__law_mixed)
  f__law_bag : Addr
  d__law_bag : FuncData
  F__law_bag : Fun K "_law_bag" "_law_bag" s__law_bag f__law_bag d__law_bag
  b__law_bag : Binds K d__law_bag ["_law_script"] []
  g__law_bag : mg "_law_bag" = some (.ref f__law_bag)
  f__law_pick : Addr
  d__law_pick : FuncData
  F__law_pick : Fun K "_law_pick" "_law_pick" s__law_pick f__law_pick d__law_pick
  b__law_pick : Binds K d__law_pick ["_law_bag_here", "_law_many"] []
  g__law_pick : mg "_law_pick" = some (.ref f__law_pick)
  f__law_choice : Addr
  d__law_choice : FuncData
  F__law_choice : Fun K "_law_choice" "_law_choice" s__law_choice f__law_choice d__law_choice
  b__law_choice : Binds K d__law_choice ["_law_bag_here", "_law_things"] []
  g__law_choice : mg "_law_choice" = some (.ref f__law_choice)
  f__law_drawn_place : Addr
  d__law_drawn_place : FuncData
  F__law_drawn_place : Fun K "_law_drawn_place" "_law_drawn_place" s__law_drawn_place f__law_drawn_place d__law_drawn_place
  b__law_drawn_place : Binds K d__law_drawn_place ["_law_bag_here"] []
  g__law_drawn_place : mg "_law_drawn_place" = some (.ref f__law_drawn_place)
  f__law_place_text : Addr
  d__law_place_text : FuncData
  F__law_place_text : Fun K "_law_place_text" "_law_place_text" s__law_place_text f__law_place_text d__law_place_text
  b__law_place_text : Binds K d__law_place_text ["_law_place"] []
  g__law_place_text : mg "_law_place_text" = some (.ref f__law_place_text)
  f__law_place_of : Addr
  d__law_place_of : FuncData
  F__law_place_of : Fun K "_law_place_of" "_law_place_of" s__law_place_of f__law_place_of d__law_place_of
  b__law_place_of : Binds K d__law_place_of ["_law_text"] []
  g__law_place_of : mg "_law_place_of" = some (.ref f__law_place_of)
  f__law_spoilt_text : Addr
  d__law_spoilt_text : FuncData
  F__law_spoilt_text : Fun K "_law_spoilt_text" "_law_spoilt_text" s__law_spoilt_text f__law_spoilt_text d__law_spoilt_text
  b__law_spoilt_text : Binds K d__law_spoilt_text ["_law_bag_here", "_law_text"] []
  g__law_spoilt_text : mg "_law_spoilt_text" = some (.ref f__law_spoilt_text)
  f_law : Addr
  d_law : FuncData
  F_law : Fun K "law" "law" s_law f_law d_law
  b_law : Binds K d_law ["_law_script"] []
  g_law : mg "law" = some (.ref f_law)
  m_abs : mg "abs" = none
  m_all : mg "all" = none
  m_enumerate : mg "enumerate" = none
  m_int : mg "int" = none
  m_isinstance : mg "isinstance" = none
  m_len : mg "len" = none
  m_range : mg "range" = none
  m_repr : mg "repr" = none
  m_str : mg "str" = none
  m_tuple : mg "tuple" = none
  t_PLACE_DIGITS : Tok
  c_PLACE_DIGITS : mg "PLACE_DIGITS" = some (.int 2 t_PLACE_DIGITS)
section
variable {P : Program} {w : World} {K : PySem.W.Frag} {mg : Str → Option Value} {base : Heap}
def sp_mixed : Sp := fun vs H Q _ => ∃ a t : Int, vs = [.int a, .int t] ∧ ∀ w : Int, 0 ≤ w → Q (.int w) H
theorem ok_mixed (T : Txt K mg) : FnOk P w K mg base CX0 1 T.f__law_mixed T.d__law_mixed ["_law_number", "_law_turn"] sp_mixed := by
  refine T.F__law_mixed.ok sc__law_mixed (fun vs H Q E h => ?_) (fun cdv A outer s H vs Q E hr h => ?_)
  · obtain ⟨a, t, rfl, _⟩ := h
    rfl
  · obtain ⟨a, t, rfl, q⟩ := h
    refine ⟨_, (pss_cons (ps_set (i := 2) sc__law_mixed.nd rfl (Or.inl rfl) (pe_op op_mod (pe_callTy call_int1 (by rfl) T.m_int (by decide +kernel) (pa_cons (pe_op op_add (pe_op op_mul (pe_op op_add (pv 0) pe_int) pe_int) (pe_op op_mul (pe_op op_add (pv 1) pe_int) pe_int)) pa_nil)) pe_int))
      (pss_cons (ps_set (i := 3) sc__law_mixed.nd rfl (Or.inl rfl) (pe_op op_mod (pe_callTy call_int1 (by rfl) T.m_int (by decide +kernel) (pa_cons (pe_op op_add (pe_op op_add (pe_op op_mul (pv 2) (pv 2)) (pe_op op_mul (pv 2) pe_int)) (pe_op op_mul (pe_op op_add (pv 1) pe_int) pe_int)) pa_nil)) pe_int))
      (pss_one (ps_ret (pe_op op_mod (pe_callTy call_int1 (by rfl) T.m_int (by decide +kernel) (pa_cons (pe_op op_add (pe_op op_add (pe_op op_fdiv (pv 3) pe_int) (pe_op op_mul (pv 3) pe_int)) (pv 1)) pa_nil)) pe_int))))), ?_⟩
    walk_at "g"
    have h0 := Int.emod_nonneg ((a + 1) * 48271 + (t + 1) * 1103515245) (by decide : (2147483647 : Int) ≠ 0)
    have h1 := Int.emod_lt_of_pos ((a + 1) * 48271 + (t + 1) * 1103515245) (by decide : (0 : Int) < 2147483647)
    refine ⟨Or.inr ⟨by omega, by omega⟩, ?_⟩
    walk_at "g"
    refine q _ (Int.emod_nonneg _ (by decide))
/-- the bag is made -/
def sp_bag (K : PySem.W.Frag) : Sp := fun vs H Q _ => ∃ (a : Addr) (ns : List Int), vs = [.ref a] ∧ SqL K H a (ns.map V.int) ∧ ns.length ≤ 63 ∧
  ∀ b H', Same H H' → H b = none → Bag K (one b) H' b → Q (.ref b) H'
theorem ok_bag (T : Txt K mg) : FnOk P w K mg base CX0 1 T.f__law_bag T.d__law_bag ["_law_script"] (sp_bag K) := by
  refine T.F__law_bag.ok sc__law_bag (fun vs H Q E h => ?_) (fun cdv A outer s H vs Q E hr h => ?_)
  · obtain ⟨a, t, rfl, _⟩ := h
    rfl
  · obtain ⟨a, ns, rfl, hS, hlen, q⟩ := h
    refine ⟨_, (pss_cons (ps_setLc (i := 2) (own := [("_law_cell", 1)]) (g := gName 1) (tt := tYes) (by rfl) sc__law_bag.nd rfl rfl (sw_true rfl rfl rfl (by decide +kernel)) (pi_listK (K := K) rfl (pv 0)) (blkOk_by (own := [("_law_cell", 1)]) (N := ["_law_script", "_law_cell", "_law_numbers", "_law_seed", "_law_at"]) (sc := defScope s__law_bag) (by decide +kernel)) (fun _ _ _ _ _ => (pg_name (i := 1) sc__law_bag.nd rfl (Or.inl rfl))) (fun _ _ _ _ _ => pts_nil) (fun _ _ _ _ _ => (pe_callTy call_int1 (by rfl) T.m_int (by decide +kernel) (pa_cons (pv 1) pa_nil))))
      (pss_cons (ps_set (i := 3) sc__law_bag.nd rfl (Or.inl rfl) (pe_callB (call_lenK (K := K) rfl) (by rfl) T.m_len PySem.boot_len (pa_cons (pv 2) pa_nil)))
      (pss_cons (ps_for PassesOwn.never rfl (pi_enumK (K := K) rfl (by rfl) T.m_enumerate (pa_cons (pe_slice (sl_listK (K := K) rfl) (pv 2) po_none (po_some pe_int)) pa_nil)) (pg_tupK (K := K) rfl rfl (pgs_cons (pg_name (i := 4) sc__law_bag.nd rfl (Or.inl rfl)) (pgs_cons (pg_name (i := 1) sc__law_bag.nd rfl (Or.inl rfl)) pgs_nil))) (pss_one (ps_set (i := 3) sc__law_bag.nd rfl (Or.inl rfl) (pe_op op_mod (pe_callTy call_int1 (by rfl) T.m_int (by decide +kernel) (pa_cons (pe_op op_add (pe_op op_add (pe_op op_mul (pv 3) pe_int) (pe_op op_mod (pe_callTy call_int1 (by rfl) T.m_int (by decide +kernel) (pa_cons (pe_callB call_abs (by rfl) T.m_abs (by decide +kernel) (pa_cons (pv 1) pa_nil)) pa_nil)) pe_int)) (pe_op op_mul_ib (pe_op op_add (pv 4) pe_int) (pe_cmpR op_lt (pv 1) pe_int (nomark _)))) pa_nil)) pe_int))))
      (pss_one (ps_ret (pe_lst (pa_cons (pv 2) (pa_cons pe_int (pa_cons pe_int (pa_cons pe_int (pa_cons (pv 3) pa_nil))))))))))), ?_⟩
    refine ⟨.ref a, rfl, a, rfl, ⟨_, hS⟩, fun n hn => ?_⟩
    refine lc_list (K := K) (a := a) (xs := ns.map V.int) (fun i H' => Same H H' ∧ H' n = some (.lst ((ns.take i).map V.int))) ⟨same_new hn, by rw [upd_same]; rfl⟩ (fun i H' _ h => h.1.seq hS) (fun i x H' hx h => ?_) (fun H' h => ?_)
    · rw [List.getElem?_map] at hx
      obtain ⟨z, hz, rfl⟩ := Option.map_eq_some_iff.mp hx
      refine ⟨rfl, ?_⟩
      refine ⟨_, rfl, ?_⟩
      refine Or.inl ⟨_, rfl, ?_⟩
      refine ⟨_, h.2, ?_, fun b o e => ?_, ?_⟩
      · rw [List.length_map, List.length_take]
        exact small1000 (by omega)
      · rw [upd_ne (ne_of_none e hn)]
        exact h.1 b o e
      · rw [upd_same, List.take_add_one, hz, List.map_append]
        rfl
    · have h2 : H' n = some (.lst (ns.map V.int)) := by
        have e := h.2
        rwa [List.length_map, List.take_length] at e
      refine ⟨_, rfl, n, _, rfl, .inl (SqL.of h2), ?_⟩
      refine ⟨_, rfl, 63, rfl, n, _, rfl, SqL.of h2, fun c hc => ?_⟩
      have hcut : cutV (ns.map V.int) none (some 63) = ns.map V.int := by
        unfold cutV
        rw [show HT.sIx (ns.map V.int).length 0 none = 0 from HT.sIx_none .., show HT.sIx (ns.map V.int).length (ns.map V.int).length (some 63) = min 63 (ns.map V.int).length from HT.sIx_nat _ _ 63, List.drop_zero, Nat.sub_zero]
        rw [List.length_map, Nat.min_eq_right hlen]
        exact List.take_of_length_le (by rw [List.length_map]; exact Nat.le_refl _)
      rw [hcut]
      have hn' : n ≠ c := ne_of_none h2 hc
      refine ⟨c, _, rfl, SqL.of upd_same, ?_⟩
      refine for_enum (a := c) (xs := ns.map V.int) (fun i σ H2 => (∃ y1 z y4, σ = [some (.ref a), y1, some (.ref n), some (.int z), y4]) ∧ Same H H2 ∧ H2 n = some (.lst (ns.map V.int)) ∧ H2 c = some (.lst (ns.map V.int))) ⟨⟨_, _, _, rfl⟩, fun b o e => ?_, ?_, ?_⟩ (fun i σ H2 _ p => SqL.of p.2.2.2) (fun i x T σ H2 hx hT p => ?_) (fun σ H2 p => ?_)
      · rw [upd_ne (fun z => ?_)]
        · exact h.1 b o e
        · subst z
          rw [h.1 b o e] at hc
          cases hc
      · rw [upd_ne hn']
        exact h2
      · exact upd_same
      · obtain ⟨⟨y1, z, y4, rfl⟩, hs, e2, e3⟩ := p
        rw [List.getElem?_map] at hx
        obtain ⟨v, hv, rfl⟩ := Option.map_eq_some_iff.mp hx
        refine ⟨T, _, rfl, SqT.of upd_same, rfl, _, _, rfl, _, _, rfl, rfl, ?_⟩
        walk_at "g"
        have nT : n ≠ T := ne_of_none e2 hT
        have cT : c ≠ T := ne_of_none e3 hT
        refine ⟨⟨_, _, _, rfl⟩, fun b o e => same_new hT b o (hs b o e), ?_, ?_⟩
        · rw [upd_ne nT]
          exact e2
        · rw [upd_ne cT]
          exact e3
      · obtain ⟨⟨y1, z, y4, rfl⟩, hs, e2, e3⟩ := p
        refine ⟨_, rfl, _, rfl, (by show 5 ≤ sizeLine; decide), fun b hb => ?_⟩
        refine q b _ (fun x o e => same_new hb x o (hs x o e)) (hs.free hb) ⟨rfl, n, ns, 0, 0, 0, z, upd_same, fun e => ?_, .inl ?_, by decide, by decide⟩
        · exact ne_of_none e2 hb e
        · rw [upd_ne (ne_of_none e2 hb)]
          exact e2
/-- a number is drawn -/
def sp_pick (K : PySem.W.Frag) : Sp := fun vs H Q _ => ∃ (b : Addr) (m : Int) (M : Ms), vs = [.ref b, .int m] ∧ Bag K M H b ∧ 0 < m ∧ m < 1073741824 ∧
  ∀ (w : Int) (H' : Hp), 0 ≤ w → w < m → At b H H' → Bag K M H' b → Q (.int w) H'
theorem At.bag {M : Ms} {H H' : Hp} {b n : Addr} {ns : List Int} {p r t s : Int} (w : M b) (hn : ¬ M n) (rd : Rd H n (.lst (ns.map V.int))) (h : At b H H') (e : H' b = some (.lst [.ref n, .int p, .int r, .int t, .int s])) (hp : 0 ≤ p) (hr : 0 ≤ r) : Bag K M H' b :=
  ⟨w, n, ns, p, r, t, s, e, hn, sx_rd h.sx (fun z => hn (by rw [show n = b from z]; exact w)) rd, hp, hr⟩
theorem At.trans {H H1 H2 : Hp} {b : Addr} (h : At b H H1) (h' : At b H1 H2) : At b H H2 := fun a n => (h' a n).trans (h a n)
theorem ok_pick (T : Txt K mg) : FnOk P w K mg base CX0 2 T.f__law_pick T.d__law_pick ["_law_bag_here", "_law_many"] (sp_pick K) := by
  have G__law_mixed := ok_mixed (P := P) (w := w) (base := base) T
  refine T.F__law_pick.ok sc__law_pick (fun vs H Q E h => ?_) (fun cdv A outer s H vs Q E hr h => ?_)
  · obtain ⟨_, _, _, rfl, _⟩ := h
    rfl
  · obtain ⟨b, m, M, rfl, ⟨wb, n, ns, p, r, t, sd, hb, hn, rd, hp, hr0⟩, hm, hm2, q⟩ := h
    refine ⟨_, (pss_cons (ps_set (i := 2) sc__law_pick.nd rfl (Or.inl rfl) (pe_ix (ix_listK (K := K) rfl) (pv 0) pe_int (fun _ _ => rfl)))
      (pss_cons (ps_asg (pe_op op_add (pv 2) pe_int) (pg_sub (pv 0) pe_int set_list))
      (pss_cons (ps_if (PW.pt (pw_and (pt_cmpR op_eq (pe_ix (ix_listK (K := K) rfl) (pv 0) pe_int (fun _ _ => rfl)) pe_int (nomark _)) (pw_and1 (pt_cmpR op_lt (pe_ix (ix_listK (K := K) rfl) (pv 0) pe_int (fun _ _ => rfl)) (pe_callB (call_lenK (K := K) rfl) (by rfl) T.m_len PySem.boot_len (pa_cons (pe_ix (ix_listK (K := K) rfl) (pv 0) pe_int (fun _ _ => rfl)) pa_nil)) (nomark _))))) (pss_cons (ps_set (i := 3) sc__law_pick.nd rfl (Or.inl rfl) (pe_ix (ix_listK (K := K) rfl) (pe_ix (ix_listK (K := K) rfl) (pv 0) pe_int (fun _ _ => rfl)) (pe_ix (ix_listK (K := K) rfl) (pv 0) pe_int (fun _ _ => rfl)) (fun _ _ => rfl)))
      (pss_cons (ps_asg (pe_op op_add (pe_ix (ix_listK (K := K) rfl) (pv 0) pe_int (fun _ _ => rfl)) pe_int) (pg_sub (pv 0) pe_int set_list))
      (pss_cons (ps_if (pt_cmpR op_lt (pe_callB call_abs (by rfl) T.m_abs (by decide +kernel) (pa_cons (pv 3) pa_nil)) (pe_op op_pow pe_int pe_int) (nomark _)) (pss_one (ps_ret (pe_op op_mod (pe_callTy call_int1 (by rfl) T.m_int (by decide +kernel) (pa_cons (pe_call G__law_mixed (hr.mono (by omega)) (by rfl) T.g__law_mixed T.F__law_mixed.kp T.b__law_mixed .nil pass0 (pa_cons (pe_op op_add_ib (pe_op op_mul pe_int (pe_callB call_abs (by rfl) T.m_abs (by decide +kernel) (pa_cons (pv 3) pa_nil))) (pe_cmpR op_lt (pv 3) pe_int (nomark _))) (pa_cons (pv 2) pa_nil))) pa_nil)) (pv 1)))) pss_nil)
      (pss_one (ps_asg (pe_callB call_abs (by rfl) T.m_abs (by decide +kernel) (pa_cons (pv 3) pa_nil)) (pg_sub (pv 0) pe_int set_list)))))) pss_nil)
      (pss_cons (ps_if (pt_cmpR op_eq (pe_ix (ix_listK (K := K) rfl) (pv 0) pe_int (fun _ _ => rfl)) pe_int (nomark _)) (pss_one (ps_ret (pe_op op_mod (pe_callTy call_int1 (by rfl) T.m_int (by decide +kernel) (pa_cons (pe_call G__law_mixed (hr.mono (by omega)) (by rfl) T.g__law_mixed T.F__law_mixed.kp T.b__law_mixed .nil pass0 (pa_cons (pe_ix (ix_listK (K := K) rfl) (pv 0) pe_int (fun _ _ => rfl)) (pa_cons (pv 2) pa_nil))) pa_nil)) (pv 1)))) pss_nil)
      (pss_cons (ps_set (i := 4) sc__law_pick.nd rfl (Or.inl rfl) (pe_op op_mod (pe_callTy call_int1 (by rfl) T.m_int (by decide +kernel) (pa_cons (pe_ix (ix_listK (K := K) rfl) (pv 0) pe_int (fun _ _ => rfl)) pa_nil)) (pv 1)))
      (pss_cons (ps_asg (pe_op op_fdiv (pe_ix (ix_listK (K := K) rfl) (pv 0) pe_int (fun _ _ => rfl)) (pv 1)) (pg_sub (pv 0) pe_int set_list))
      (pss_one (ps_ret (pv 4))))))))), ?_⟩
    -- turn
    walk_at "g"
    walk_at "set"
    generalize e1 : upd H b _ = H1
    have a1 : At b H H1 := by rw [← e1]; exact At.upd
    have b1 : H1 b = some (.lst [.ref n, .int p, .int r, .int (t + 1), .int sd]) := by rw [← e1, upd_same]; rfl
    have rd1 : Rd H1 n (.lst (ns.map V.int)) := sx_rd a1.sx (fun z => hn (by rw [show n = b from z]; exact wb)) rd
    clear e1
    have fin : ∀ (w : Int) (H' : Hp) (p' r' t' : Int), At b H H' → H' b = some (.lst [.ref n, .int p', .int r', .int t', .int sd]) → 0 ≤ p' → 0 ≤ r' → Q (.int (w % m)) H' := fun w H' p' r' t' ha e h1 h2 =>
      q _ _ (Int.emod_nonneg _ (by omega)) (Int.emod_lt_of_pos _ hm) ha (ha.bag wb hn rd e h1 h2)
    with_reducible refine seq_join (fun σ H' => ∃ y3 p' r', σ = [some (.ref b), some (.int m), some (.int t), y3, none] ∧ At b H H' ∧ H' b = some (.lst [.ref n, .int p', .int r', .int (t + 1), .int sd]) ∧ 0 ≤ p' ∧ 0 ≤ r') (fun hN => ?_) (fun σ H' c => ?_)
    · have hN0 := hN _ _ ⟨none, p, r, rfl, a1, b1, hp, hr0⟩
      walk_at "g"
      walk_at "if"
      · walk_at "g"
        walk_at "if"
        · rename_i ep
          have ep' : p < ((ns.map V.int).length : Int) := of_decide_eq_true ep
          obtain ⟨j, rfl⟩ : ∃ j : Nat, p = (j : Int) := ⟨p.toNat, by omega⟩
          have hj : j < ns.length := by
            rw [List.length_map] at ep'
            omega
          have hcell : (ns.map V.int)[j]? = some (.int ns[j]) := by
            rw [List.getElem?_map, List.getElem?_eq_getElem hj]
            rfl
          walk_at "g"
          refine ⟨n, _, _, _, rfl, rfl, Or.inl rd1, atI_nat hcell, ?_⟩
          walk_at "g"
          walk_at "set"
          generalize e2 : upd H1 b _ = H2
          have a2 : At b H H2 := by rw [← e2]; exact a1.trans At.upd
          have b2 : H2 b = some (.lst [.ref n, .int ((j : Int) + 1), .int r, .int (t + 1), .int sd]) := by rw [← e2, upd_same]; rfl
          clear e2
          generalize ns[j] = c
          walk_at "g"
          walk_at "if"
          · walk_at "g"
            refine ⟨_, _, rfl, fun z hz => ?_⟩
            walk_at "g"
            refine ⟨hm, ?_⟩
            exact fin _ _ _ _ _ a2 b2 (by omega) hr0
          · walk_at "g"
            walk_at "set"
            exact hN _ _ ⟨_, _, _, rfl, a2.trans At.upd, upd_same, by omega, by split <;> omega⟩
        · exact hN0
      · exact hN0
    · obtain ⟨y3, p', r', rfl, a2, b2, hp2, hr2⟩ := c
      walk_at "g"
      walk_at "if"
      · walk_at "g"
        refine ⟨_, _, rfl, fun z hz => ?_⟩
        walk_at "g"
        refine ⟨hm, ?_⟩
        exact fin _ _ _ _ _ a2 b2 hp2 hr2
      · walk_at "g"
        refine ⟨hm, ?_⟩
        walk_at "g"
        refine ⟨⟨hm, hm2⟩, ?_⟩
        walk_at "g"
        walk_at "set"
        walk_at "g"
        exact fin _ _ _ _ _ (a2.trans At.upd) upd_same hp2 (Int.ediv_nonneg hr2 (by omega))
/-- one thing of a list is chosen -/
def sp_choice (K : PySem.W.Frag) : Sp := fun vs H Q _ => ∃ (b a : Addr) (xs : List V) (M : Ms), vs = [.ref b, .ref a] ∧ Bag K M H b ∧ SqL K H a xs ∧ a ≠ b ∧ 0 < xs.length ∧ xs.length < 1000000 ∧
  ∀ (v : V) (H' : Hp), v ∈ xs → At b H H' → Bag K M H' b → Q v H'
theorem at_pos {α : Type} {xs : List α} {w : Int} (h0 : 0 ≤ w) (h1 : w < (xs.length : Int)) : ∃ v, atI xs w = some v ∧ v ∈ xs ∧ xs[w.toNat]? = some v := by
  obtain ⟨j, rfl⟩ : ∃ j : Nat, w = (j : Int) := ⟨w.toNat, by omega⟩
  have hj : j < xs.length := by omega
  exact ⟨xs[j], atI_nat (List.getElem?_eq_getElem hj), List.getElem_mem hj, List.getElem?_eq_getElem hj⟩
theorem ok_choice (T : Txt K mg) : FnOk P w K mg base CX0 3 T.f__law_choice T.d__law_choice ["_law_bag_here", "_law_things"] (sp_choice K) := by
  have G__law_pick := ok_pick (P := P) (w := w) (base := base) T
  refine T.F__law_choice.ok sc__law_choice (fun vs H Q E h => ?_) (fun cdv A outer s H vs Q E hr h => ?_)
  · obtain ⟨_, _, _, _, rfl, _⟩ := h
    rfl
  · obtain ⟨b, a, xs, M, rfl, hB, hS, hab, hl, hl2, q⟩ := h
    refine ⟨_, (pss_one (ps_ret (pe_ix (ix_listK (K := K) rfl) (pv 1) (pe_call G__law_pick (hr.mono (by omega)) (by rfl) T.g__law_pick T.F__law_pick.kp T.b__law_pick .nil pass0 (pa_cons (pv 0) (pa_cons (pe_callB (call_lenK (K := K) rfl) (by rfl) T.m_len PySem.boot_len (pa_cons (pv 1) pa_nil)) pa_nil))) (fun _ _ => rfl)))), ?_⟩
    walk_at "g"
    refine ⟨b, _, M, rfl, hB, by omega, by omega, fun w H' h0 h1 hA hB' => ?_⟩
    have hS' := sx_l hA.sx (fun z : a = b => hab z) hS
    obtain ⟨v, hv, hm, _⟩ := at_pos h0 h1
    exact ⟨_, _, _, _, rfl, rfl, hS', hv, q v H' hm hA hB'⟩
end
end D

namespace D
open PySem PySem.Spec PyProof.Rows L2
local macro_rules | `(tactic| walk_at "st") => `(tactic| first | exact SqT.of (by assumption) | exact Or.inl (by assumption) | exact SqT.of upd_same | fail "st")
local macro_rules | `(tactic| walk_at "ixt") => `(tactic| refine ⟨_, _, _, _, rfl, rfl, (by walk_at "st" : SqT _ _ _ _), by rfl, ?_⟩)
local macro_rules | `(tactic| walk_at "sq") => `(tactic| first | exact SqL.of (by assumption) | assumption | exact Or.inl (by assumption) | exact SqL.of upd_same | fail "sq")
local macro_rules | `(tactic| walk_at "ix") => `(tactic| refine ⟨_, _, _, _, rfl, rfl, (by walk_at "sq" : SqL _ _ _ _), by rfl, ?_⟩)
local macro_rules | `(tactic| walk_at "set") => `(tactic| refine ⟨_, _, _, _, rfl, rfl, by first | assumption | exact upd_same, by rfl, ?_⟩)
local macro_rules | `(tactic| walk_at "len") => `(tactic| refine ⟨_, _, rfl, Or.inl (by walk_at "sq" : SqL _ _ _ _), ?_⟩)
local macro_rules | `(tactic| walk_at "g") => `(tactic| repeat (first | refine ⟨_, rfl, ?_⟩ | refine ⟨_, _, rfl, rfl, ?_⟩ | refine ⟨Or.inr (by decide), ?_⟩ | refine ⟨Or.inl (by decide), ?_⟩ | refine ⟨(by decide : (0 : Int) < _), ?_⟩ | refine ⟨(⟨by decide, by decide⟩ : CDiv _ _), ?_⟩ | refine ⟨(⟨by decide, by decide, by decide⟩ : CPow _ _), ?_⟩ | refine Or.inl ⟨_, rfl, ?_⟩ | refine ⟨rfl, ?_⟩ | walk_at "ix" | walk_at "ixt" | walk_at "len" | fail "g"))
local macro_rules | `(tactic| walk_at "if") => `(tactic| refine ite2 (fun e => ?_) (fun e => ?_))
section
variable {P : Program} {w : World} {K : PySem.W.Frag} {mg : Str → Option Value} {base : Heap}
abbrev S (l : List Nat) : Str := SX.S l
theorem str_dot : Str.ofString "." = S [46] := sg_ext (by decide +kernel)
theorem str_sl : Str.ofString "/" = S [47] := sg_ext (by decide +kernel)
theorem str_col : Str.ofString ":" = S [58] := sg_ext (by decide +kernel)
theorem str_emp : Str.ofString "" = S [] := sg_ext (by decide +kernel)
theorem dig_str {n : Nat} (h : n < 100) : Str.ofString (toString (n : Int)) = S (dig n) := sg_ext ((by decide +kernel : ∀ n : Nat, n < 100 → sg (Str.ofString (toString (n : Int))) = dig n) n h)
def stD (s : List Nat) : PyData := .tuple ((s.map fun (n : Nat) => (n : Int)).map PyData.int)
def plD (p : List (List Nat)) : PyData := .tuple (p.map stD)
def wrT (p : List (List Nat)) : List Nat := if p = [] then [46] else wrP p
theorem ints_lay : ∀ ws : List Int, PyData.canLayAll0 (ws.map PyData.int) = true
  | [] => rfl
  | n :: r => by
    show PyData.canLayAll0 (PyData.int n :: _) = true
    simp only [PyData.canLayAll0, PyData.canLay0, ints_lay r, Bool.and_self]
theorem ints_deep : ∀ ws : List Int, PyData.depthAll (ws.map PyData.int) ≤ 0
  | [] => Nat.le_refl _
  | n :: r => by
    have := ints_deep r
    show PyData.depthAll (PyData.int n :: _) ≤ 0
    simp only [PyData.depthAll, PyData.depth]
    omega
theorem sts_lay : ∀ p : List (List Nat), PyData.canLayAll0 (p.map stD) = true
  | [] => rfl
  | n :: r => by
    show PyData.canLayAll0 (stD n :: _) = true
    simp only [PyData.canLayAll0, stD, PyData.canLay0, sts_lay r, ints_lay, Bool.and_self]
theorem sts_deep : ∀ p : List (List Nat), PyData.depthAll (p.map stD) ≤ 1
  | [] => by simp [PyData.depthAll]
  | n :: r => by
    have := sts_deep r
    have := ints_deep (n.map fun (n : Nat) => (n : Int))
    show PyData.depthAll (stD n :: _) ≤ 1
    simp only [PyData.depthAll, stD, PyData.depth]
    omega
theorem pl_shaped (p : List (List Nat)) : SeqAt.shaped (plD p) = true := by
  have h := sts_deep p
  refine Bool.and_eq_true_iff.mpr ⟨sts_lay p, decide_eq_true ?_⟩
  show PyData.depth (.tuple _) ≤ _
  simp only [PyData.depth]
  omega
theorem pl_nil (p : List (List Nat)) : PyData.eqv (plD p) (.tuple []) = decide (p = []) := by
  cases p with
  | nil => rfl
  | cons s r =>
    show PyData.eqv (.tuple (stD s :: _)) (.tuple []) = _
    simp [PyData.eqv, PyData.eqvAll]
theorem lens_dig : ∀ s : List Nat, (∀ n ∈ s, n < 100) → ((s.map dig).map (·.length)).sum ≤ 2 * s.length
  | [], _ => Nat.zero_le _
  | n :: r, h => by
    have i := lens_dig r fun m hm => h m (List.mem_cons_of_mem _ hm)
    have : (dig n).length ≤ 2 := by unfold dig; split <;> simp
    simp only [List.map_cons, List.sum_cons, List.length_cons] at i ⊢
    omega
theorem wrS_len {s : List Nat} (h : goodS s) : (wrS s).length ≤ 5 := by
  obtain ⟨h1, h2, h3⟩ := h
  have dl : ∀ n, (dig n).length ≤ 2 := fun n => by unfold dig; split <;> simp
  match s, h1, h2 with
  | [a], _, _ => exact Nat.le_trans (dl a) (by decide)
  | [a, b], _, _ =>
    have e : wrS [a, b] = dig a ++ [58] ++ dig b := join_cons _ _ (by simp)
    have := dl a
    have := dl b
    rw [e, List.length_append, List.length_append]
    show _ + 1 + _ ≤ 5
    omega
theorem lens_wrS : ∀ p : List (List Nat), (∀ s ∈ p, goodS s) → ((p.map wrS).map (·.length)).sum ≤ 5 * p.length
  | [], _ => Nat.zero_le _
  | s :: r, h => by
    have i := lens_wrS r fun m hm => h m (List.mem_cons_of_mem _ hm)
    have := wrS_len (h s List.mem_cons_self)
    simp only [List.map_cons, List.sum_cons, List.length_cons] at i ⊢
    omega
def sp_write (K : PySem.W.Frag) : Sp := fun vs H Q _ => ∃ (v : V) (p : List (List Nat)) (M : Ms), vs = [v] ∧ Rp M H v (plD p) ∧ p.length ≤ 1000 ∧ (∀ s ∈ p, goodS s) ∧ ∀ H', Same H H' → Q (.str (S (wrT p))) H'
theorem ok_write (T : Txt K mg) : FnOk P w K mg base CX0 1 T.f_write_place T.d_write_place ["place"] (sp_write K) := by
  refine T.F_write_place.ok sc_write_place (fun vs H Q E h => ?_) (fun cdv A outer s H vs Q E hr h => ?_)
  · obtain ⟨_, _, _, rfl, _⟩ := h
    rfl
  · obtain ⟨v, p, M, rfl, hR, lp, hp, q⟩ := h
    obtain ⟨a, xs, rfl, na, ha, rx⟩ := Rp.tupX hR
    refine ⟨_, (pss_cons (ps_if (pt_cmpR (op_eqDK (K := K) rfl hr.units) (pv 0) (pe_tup pa_nil) (nomark _)) (pss_one (ps_ret pe_str)) pss_nil)
      (pss_one (ps_ret (pe_join pe_str (pe_lc (own := [("step", 1)]) (g := gName 1) (tt := tYes) (by rfl) sc_write_place.nd (pi_tupK (K := K) rfl (pv 0)) (blkOk_by (own := [("step", 1)]) (N := ["place", "step", "number"]) (sc := defScope s_write_place) (by decide +kernel)) (fun _ _ _ _ _ => (pg_name (i := 1) sc_write_place.nd rfl (Or.inl rfl))) (fun _ _ _ _ _ => pts_nil) (fun _ _ _ _ _ => (pe_joinK (K := K) rfl pe_str (pe_lc (own := [("number", 2)]) (g := gName 2) (tt := tYes) (by rfl) sc_write_place.nd (pi_tupK (K := K) rfl (pv 1)) (blkOk_by (own := [("number", 2)]) (N := ["place", "step", "number"]) (sc := { kind := .function, names := [(PySem.Str.ofString ".0", PySem.NameKind.local), (PySem.Str.ofString "step", PySem.NameKind.local)], isGenerator := false, isCoroutine := false }) (by decide +kernel)) (fun _ _ _ _ _ => (pg_name (i := 2) sc_write_place.nd rfl (Or.inl rfl))) (fun _ _ _ _ _ => pts_nil) (fun _ _ _ _ _ => (pe_callTy call_str_int (by rfl) T.m_str (by decide +kernel) (pa_cons (pv 2) pa_nil))))))))))), ?_⟩
    walk_at "g"
    refine ⟨szK rfl, fun p1 hp1 => ?_⟩
    have s1 : Same H (upd H p1 (.tup [])) := same_new hp1
    have e1 : upd H p1 (.tup []) p1 = some (.tup []) := upd_same
    generalize upd H p1 (.tup []) = H1 at s1 e1
    refine ⟨plD p, .tuple [], Rp.dp (M := M) _ _ (hR.sx (Sx.same s1)), .tup (.inl (.inl e1)) .nil, pl_shaped p, by decide +kernel, ?_⟩
    rw [pl_nil]
    have hR1 := RpAll.sx (Sx.same s1) rx
    have ha1 := s1 _ _ ha
    by_cases c : p = []
    · rw [decide_eq_true c]
      walk_at "g"
      rw [str_dot]
      have e : wrT p = [46] := by unfold wrT; rw [if_pos c]
      have q' := q H1 s1
      rw [e] at q'
      exact q'
    · rw [decide_eq_false c]
      walk_at "g"
      refine ⟨⟨_, rfl⟩, ?_⟩
      walk_at "g"
      refine ⟨⟨_, SqT.of ha1⟩, fun D hD => ?_⟩
      have lx : xs.length = p.length := by have := rx.length; rw [List.length_map] at this; exact this
      refine tup_loop (K := K) (a := a) (xs := xs) (fun i H' => Same H1 H' ∧ H' D = some (.lst ((((p.take i).map wrS).map S).map V.str))) ⟨same_new hD, upd_same⟩ (fun i H' _ z => SqT.of (z.1 _ _ ha1)) (fun i x H' hx z => ?_) (fun H' z => ?_)
      · obtain ⟨sm, eD⟩ := z
        have hi : i < p.length := by rw [← lx]; exact (List.getElem?_eq_some_iff.mp hx).1
        have hg := hp p[i] (List.getElem_mem hi)
        obtain ⟨d, hd, rd⟩ := rx.get hx
        rw [List.getElem?_map, List.getElem?_eq_getElem hi] at hd
        cases hd
        obtain ⟨b, ys, rfl, nb, hb, ry⟩ := Rp.tupX (show Rp M H x (.tuple _) from rd)
        have ey := ry.ofInts
        subst ey
        have hb' := sm _ _ (s1 _ _ hb)
        refine ⟨rfl, ?_⟩
        walk_at "g"
        refine ⟨⟨_, rfl⟩, ?_⟩
        walk_at "g"
        refine ⟨⟨_, SqT.of hb'⟩, fun D2 hD2 => ?_⟩
        obtain ⟨s, es⟩ : ∃ s, s = p[i] := ⟨_, rfl⟩
        rw [← es] at hg
        have hxs : ((p[i].map fun (n : Nat) => (n : Int)).map V.int) = (s.map fun (n : Nat) => V.int (n : Int)) := by rw [es, List.map_map]; rfl
        have hb2 : H' b = some (.tup (s.map fun (n : Nat) => V.int (n : Int))) := by rw [← hxs]; exact hb'
        refine lc_valsT (K := K) (a := b) (xs := s.map fun (n : Nat) => V.int (n : Int)) (ys := ((s.map dig).map S).map V.str) hD2 (SqT.of hb2) (by simp) (by rw [List.length_map]; have := hg.2.1; omega) (fun j x y H2 C N hx2 hy2 s2 hC => ?_) (fun H2 s2 eD2 => ?_)
        · rw [List.getElem?_map] at hx2
          obtain ⟨n, hn, rfl⟩ := Option.map_eq_some_iff.mp hx2
          rw [List.getElem?_map, List.getElem?_map, List.getElem?_map, hn] at hy2
          cases hy2
          have h100 := hg.2.2 n (List.mem_of_getElem? hn)
          refine ⟨rfl, ?_⟩
          walk_at "g"
          refine ⟨?_, ?_⟩
          · exact Nat.lt_of_le_of_lt (Nat.log2_le_self _) (by omega)
          · rw [dig_str h100]
            exact hC
        · have hD' : H' D ≠ none := ne_none eD
          have e2 := s2 _ _ eD
          refine ⟨_, D2, _, rfl, rfl, .inl (SqL.of eD2), ?_, ?_⟩
          · have := lens_dig s hg.2.2
            have := hg.2.1
            rw [SX.lens, List.length_map, List.length_map, show (Str.ofString ":").length = 1 from by decide +kernel]
            omega
          · refine ⟨_, e2, ?_, ?_, ?_⟩
            · rw [List.length_map, List.length_map, List.length_map, List.length_take]
              exact small1000 (by omega)
            · exact same_put (sm.trans s2) hD
            · rw [upd_same, List.take_add_one, List.getElem?_eq_getElem hi, str_col, SX.join_S, ← es]
              simp only [List.map_append, Option.toList_some, List.map_cons, List.map_nil]
              rfl
      · obtain ⟨sm, eD⟩ := z
        rw [List.take_of_length_le (by omega)] at eD
        walk_at "g"
        refine ⟨_, D, _, rfl, rfl, .inl (SqL.of eD), ?_, ?_⟩
        · have := lens_wrS p hp
          rw [SX.lens, List.length_map, List.length_map, show (Str.ofString "/").length = 1 from by decide +kernel]
          omega
        · rw [str_sl, SX.join_S]
          have e : wrT p = wrP p := by unfold wrT; rw [if_neg c]
          have q' := q H' (s1.trans sm)
          rw [e] at q'
          exact q'
end
end D

namespace D
open PySem PySem.Spec PyProof.Rows L2
local macro_rules | `(tactic| walk_at "st") => `(tactic| first | exact SqT.of (by assumption) | exact Or.inl (by assumption) | exact SqT.of upd_same | fail "st")
local macro_rules | `(tactic| walk_at "ixt") => `(tactic| refine ⟨_, _, _, _, rfl, rfl, (by walk_at "st" : SqT _ _ _ _), by rfl, ?_⟩)
local macro_rules | `(tactic| walk_at "sq") => `(tactic| first | exact SqL.of (by assumption) | assumption | exact Or.inl (by assumption) | exact SqL.of upd_same | fail "sq")
local macro_rules | `(tactic| walk_at "ix") => `(tactic| refine ⟨_, _, _, _, rfl, rfl, (by walk_at "sq" : SqL _ _ _ _), by rfl, ?_⟩)
local macro_rules | `(tactic| walk_at "set") => `(tactic| refine ⟨_, _, _, _, rfl, rfl, by first | assumption | exact upd_same, by rfl, ?_⟩)
local macro_rules | `(tactic| walk_at "len") => `(tactic| refine ⟨_, _, rfl, Or.inl (by walk_at "sq" : SqL _ _ _ _), ?_⟩)
local macro_rules | `(tactic| walk_at "g") => `(tactic| repeat (first | refine ⟨_, rfl, ?_⟩ | refine ⟨_, _, rfl, rfl, ?_⟩ | refine ⟨Or.inr (by decide), ?_⟩ | refine ⟨Or.inl (by decide), ?_⟩ | refine ⟨(by decide : (0 : Int) < _), ?_⟩ | refine ⟨(⟨by decide, by decide⟩ : CDiv _ _), ?_⟩ | refine ⟨(⟨by decide, by decide, by decide⟩ : CPow _ _), ?_⟩ | refine Or.inl ⟨_, rfl, ?_⟩ | refine ⟨rfl, ?_⟩ | walk_at "ix" | walk_at "ixt" | walk_at "len" | fail "g"))
local macro_rules | `(tactic| walk_at "if") => `(tactic| refine ite2 (fun e => ?_) (fun e => ?_))
section
variable {P : Program} {w : World} {K : PySem.W.Frag} {mg : Str → Option Value} {base : Heap}
def digs : List Str := [48, 49, 50, 51, 52, 53, 54, 55, 56, 57].map fun c : Nat => S [c]
def digV : List V := digs.map V.str
/-- the tuple of the ten digits -/
structure TDig (K : PySem.W.Frag) (mg : Str → Option Value) where
  p : Addr
  t : mg "DIGITS" = some (.ref p)
  sq : ∀ H : Hp, SqT K H p digV
theorem S_one (c : Nat) : (⟨#[c]⟩ : Str) = S [c] := rfl
theorem in_dig (c : Nat) : decide (S [c] ∈ digs) = isD c := by
  unfold isD
  rw [Bool.eq_iff_iff, decide_eq_true_iff, decide_eq_true_iff]
  have h : ∀ a : Nat, S [c] = S [a] ↔ c = a := fun a => ⟨fun e => by have := SX.S_inj e; simpa using this, fun e => by rw [e]⟩
  unfold digs
  simp only [List.map_cons, List.map_nil, List.mem_cons, List.not_mem_nil, or_false, h]
  omega
theorem str_0 : Str.ofString "0" = S [48] := sg_ext (by decide +kernel)
theorem S_eq {a b : List Nat} : decide (V.str (S a) = V.str (S b)) = decide (a = b) := by
  rw [decide_eq_decide]
  exact ⟨fun h => SX.S_inj (V.str.inj h), fun h => by rw [h]⟩
def sp_isnum : Sp := fun vs H Q _ => ∃ l : List Nat, vs = [.str (S l), .int 2] ∧ l.length ≤ 1000000 ∧ ∀ H', Same H H' → Q (.bl (isNum l)) H'
theorem ok_isnum (T : Txt K mg) (Z : TDig K mg) : FnOk P w K mg base CX0 1 T.f_is_number T.d_is_number ["word", "most"] sp_isnum := by
  refine T.F_is_number.ok sc_is_number (fun vs H Q E h => ?_) (fun cdv A outer s H vs Q E hr h => ?_)
  · obtain ⟨_, rfl, _⟩ := h
    rfl
  · obtain ⟨l, rfl, hl, q⟩ := h
    refine ⟨_, (pss_cons (ps_if (PW.pt (pw_or (pt_not (pt_chain op_le op_le pe_int (pe_callB call_len_str (by rfl) T.m_len PySem.boot_len (pa_cons (pv 0) pa_nil)) (pv 1))) (pw_or1 (pt_not (pt_val (pe_callB (cr_allK (K := K) rfl rfl) (by rfl) T.m_all (by decide +kernel) (pa_cons (pe_lc (own := [("sign", 2)]) (g := gName 2) (tt := tYes) (by rfl) sc_is_number.nd (pi_str (pv 0)) (blkOk_by (own := [("sign", 2)]) (N := ["word", "most", "sign"]) (sc := defScope s_is_number) (by decide +kernel)) (fun _ _ _ _ _ => (pg_name (i := 2) sc_is_number.nd rfl (Or.inl rfl))) (fun _ _ _ _ _ => pts_nil) (fun _ _ _ _ _ => (pe_cmpR (op_in_seqK (K := K) rfl) (pv 2) (pe_glob (v := .ref Z.p) rfl Z.t rfl) (by rfl)))) pa_nil))))))) (pss_one (ps_ret pe_bl)) pss_nil)
      (pss_one (ps_ret (pe_or (pe_cmpR op_eq (pe_callB call_len_str (by rfl) T.m_len PySem.boot_len (pa_cons (pv 0) pa_nil)) pe_int (nomark _)) (pe_one (pe_cmpR op_ne (pe_ix ix_str (pv 0) pe_int (fun _ _ => rfl)) pe_str (nomark _))))))), ?_⟩
    have sl : (S l).length = l.length := SX.S_len l
    walk_at "g"
    refine ⟨by rw [sl]; exact Nat.le_of_lt (small1000000 hl), ?_⟩
    walk_at "g"
    rw [sl]
    by_cases c1 : (1 : Int) ≤ (l.length : Int)
    · rw [decide_eq_true c1, if_pos rfl]
      walk_at "g"
      by_cases c2 : (l.length : Int) ≤ 2
      · rw [decide_eq_true c2]
        walk_at "g"
        intro D hD
        refine lc_valsS (z := S l) (ys := l.map fun c => V.bl (isD c)) hD (by rw [List.length_map]; exact sl.symm) (by rw [show (S l).cps.size = l.length from sl]; exact hl) (fun i c y H' C N hc hy hs hC => ?_) (fun H' hs hD' => ?_)
        · rw [← Array.getElem?_toList] at hc
          rw [List.getElem?_map, show l[i]? = some c from hc] at hy
          cases hy
          walk_at "g"
          refine ⟨_, digV, rfl, .inr (Z.sq _), rfl, flat_strs _, ?_⟩
          rw [show inV (V.str ⟨#[c]⟩) digV = isD c from (in_strs _ _).trans (in_dig c)]
          exact hC
        · refine ⟨D, l.map isD, rfl, ?_, ?_⟩
          · rw [List.map_map]
            exact SqL.of hD'
          · rw [List.all_map]
            by_cases c3 : l.all isD = true
            · rw [show l.all (id ∘ isD) = true from c3]
              walk_at "g"
              refine ⟨by rw [sl]; exact Nat.le_of_lt (small1000000 hl), ?_⟩
              walk_at "g"
              rw [sl]
              have lh : l.length = 1 ∨ l.length = 2 := by omega
              by_cases c4 : l.length = 1
              · rw [decide_eq_true (show V.int (l.length : Int) = V.int 1 by rw [c4]; rfl), if_pos rfl]
                have e : isNum l = true := by
                  simp [isNum, c4, c3]
                have q' := q H' hs
                rw [e] at q'
                exact q'
              · rw [decide_eq_false (show ¬ V.int (l.length : Int) = V.int 1 from fun z => c4 (by injection z; omega)), if_neg Bool.false_ne_true]
                have h0 : 0 < l.length := by omega
                have e0 : l[0]? = some l[0] := List.getElem?_eq_getElem h0
                walk_at "g"
                refine ⟨S l, 0, l[0], rfl, rfl, by rw [sl]; exact Nat.le_of_lt (small1000000 hl), atI_nat e0, ?_⟩
                refine ⟨rfl, ?_⟩
                have e : isNum l = !decide (V.str ⟨#[l[0]]⟩ = V.str (Str.ofString "0")) := by
                  rw [str_0, S_one, S_eq]
                  unfold isNum
                  rw [decide_eq_true (by omega : 1 ≤ l.length ∧ l.length ≤ 2), c3, decide_eq_false c4, e0]
                  simp
                have q' := q H' hs
                rw [e] at q'
                exact q'
            · rw [show l.all (id ∘ isD) = false from Bool.eq_false_iff.mpr c3]
              walk_at "g"
              have e : isNum l = false := by
                unfold isNum
                rw [Bool.eq_false_iff.mpr c3, Bool.and_false]
                rfl
              have q' := q H' hs
              rw [e] at q'
              exact q'
      · rw [decide_eq_false c2]
        walk_at "g"
        have e : isNum l = false := by
          unfold isNum
          rw [decide_eq_false (fun z => c2 (by omega))]
          rfl
        have q' := q H (Same.refl H)
        rw [e] at q'
        exact q'
    · rw [decide_eq_false c1, if_neg Bool.false_ne_true]
      walk_at "g"
      have e : isNum l = false := by
        unfold isNum
        rw [decide_eq_false (fun z => c1 (by omega))]
        rfl
      have q' := q H (Same.refl H)
      rw [e] at q'
      exact q'
def sp_rdstep (K : PySem.W.Frag) : Sp := fun vs H Q _ => ∃ (l : List Nat), vs = [.str (S l)] ∧ l.length ≤ 100000 ∧ 
  ((∀ H', Same H H' → rdStep l = none → Q .non H') ∧ (∀ H' p s, Same H H' → rdStep l = some s → H p = none → H' p = some (.tup (s.map fun (n : Nat) => V.int (n : Int))) → Q (.ref p) H'))
theorem int_text {w : List Nat} (h : isNum w = true) : PySem.intText? (S w) = some ((valN w : Nat) : Int) := by
  have h1 : ∀ a : Nat, a < 10 → PySem.intText? (S [48 + a]) = some ((valN [48 + a] : Nat) : Int) := by decide +kernel
  have h2 : ∀ a : Nat, a < 10 → ∀ b : Nat, b < 10 → PySem.intText? (S [48 + a, 48 + b]) = some ((valN [48 + a, 48 + b] : Nat) : Int) := by decide +kernel
  rcases isNum_cases h with ⟨a, rfl, ha⟩ | ⟨a, b, rfl, _, ha, hb⟩
  · exact h1 a ha
  · exact h2 a ha b hb
theorem sp1_len (k : Nat) : ∀ (l acc : List Nat), (sp1 k acc l).length ≤ l.length + 1
  | [], _ => Nat.le_refl _
  | c :: r, acc => by
    unfold sp1
    split
    · rw [List.length_cons, List.length_cons]
      exact Nat.succ_le_succ (sp1_len k r [])
    · exact Nat.le_succ_of_le (sp1_len k r _)
theorem sp1_part (k : Nat) : ∀ (l acc : List Nat), ∀ w ∈ sp1 k acc l, w.length ≤ acc.length + l.length
  | [], acc, w, h => by
    rw [List.mem_singleton.mp (show w ∈ [acc] from h)]
    exact Nat.le_refl _
  | c :: r, acc, w, h => by
    unfold sp1 at h
    rw [List.length_cons]
    split at h
    · rcases List.mem_cons.mp h with rfl | h
      · omega
      · have := sp1_part k r [] w h
        rw [List.length_nil] at this
        omega
    · have := sp1_part k r _ w h
      rw [List.length_append, List.length_singleton] at this
      omega
theorem split_1 (l : List Nat) (k : Nat) (hk : k < 256) : Txt.split (S l) (S [k]) = (sp1 k [] l).map S := by
  rw [← spl_sp1]
  exact SX.split_S (by simp) (by simp [hk])
theorem ok_rdstep (T : Txt K mg) (Z : TDig K mg) : FnOk P w K mg base CX0 2 T.f__read_step T.d__read_step ["text"] (sp_rdstep K) := by
  have G_is_number := ok_isnum (P := P) (w := w) (base := base) T Z
  refine T.F__read_step.ok sc__read_step (fun vs H Q E h => ?_) (fun cdv A outer s H vs Q E hr h => ?_)
  · obtain ⟨_, rfl, _⟩ := h
    rfl
  · obtain ⟨l, rfl, hl, q1, q2⟩ := h
    refine ⟨_, (pss_cons (ps_set (i := 1) sc__read_step.nd rfl (Or.inl rfl) (pe_split (pv 0) pe_str))
      (pss_cons (ps_if (PW.pt (pw_or (pt_cmpR op_gt (pe_callB (call_lenK (K := K) rfl) (by rfl) T.m_len PySem.boot_len (pa_cons (pv 1) pa_nil)) pe_int (nomark _)) (pw_or1 (pt_not (pt_val (pe_callB (cr_allK (K := K) rfl rfl) (by rfl) T.m_all (by decide +kernel) (pa_cons (pe_lc (own := [("word", 2)]) (g := gName 2) (tt := tYes) (by rfl) sc__read_step.nd (pi_listK (K := K) rfl (pv 1)) (blkOk_by (own := [("word", 2)]) (N := ["text", "words", "word"]) (sc := defScope s__read_step) (by decide +kernel)) (fun _ _ _ _ _ => (pg_name (i := 2) sc__read_step.nd rfl (Or.inl rfl))) (fun _ _ _ _ _ => pts_nil) (fun _ _ _ _ _ => (pe_call G_is_number (hr.mono (by omega)) (by rfl) T.g_is_number T.F_is_number.kp T.b_is_number .nil pass0 (pa_cons (pv 2) (pa_cons (pe_glob (v := .int 2) rfl T.c_PLACE_DIGITS ⟨_, rfl⟩) pa_nil))))) pa_nil))))))) (pss_one (ps_ret pe_non)) pss_nil)
      (pss_one (ps_ret (pe_callTy (call_tupleK (K := K) rfl) (by rfl) T.m_tuple (by decide +kernel) (pa_cons (pe_lc (own := [("word", 2)]) (g := gName 2) (tt := tYes) (by rfl) sc__read_step.nd (pi_listK (K := K) rfl (pv 1)) (blkOk_by (own := [("word", 2)]) (N := ["text", "words", "word"]) (sc := defScope s__read_step) (by decide +kernel)) (fun _ _ _ _ _ => (pg_name (i := 2) sc__read_step.nd rfl (Or.inl rfl))) (fun _ _ _ _ _ => pts_nil) (fun _ _ _ _ _ => (pe_callTy call_int_str (by rfl) T.m_int (by decide +kernel) (pa_cons (pv 2) pa_nil)))) pa_nil)))))), ?_⟩
    walk_at "g"
    refine ⟨⟨_, rfl⟩, ?_⟩
    walk_at "g"
    refine ⟨by rw [SX.S_len, sizeLine_eq]; omega, fun p1 hp1 => ?_⟩
    rw [str_col, split_1 _ _ (by decide)]
    have s1 : Same H (upd H p1 (.lst (((sp1 58 [] l).map S).map V.str))) := same_new hp1
    have e1 : upd H p1 (.lst (((sp1 58 [] l).map S).map V.str)) p1 = some (.lst (((sp1 58 [] l).map S).map V.str)) := upd_same
    generalize upd H p1 (.lst (((sp1 58 [] l).map S).map V.str)) = H1 at s1 e1
    have lw : (((sp1 58 [] l).map S).map V.str).length = (sp1 58 [] l).length := by rw [List.length_map, List.length_map]
    have lw2 := sp1_len 58 l []
    have lp := sp1_part 58 l []
    rw [List.length_nil, Nat.zero_add] at lp
    generalize ew : sp1 58 [] l = ws at e1 lw lw2 lp
    walk_at "g"
    rw [lw]
    walk_at "if"
    · rename_i c
      have c' := of_decide_eq_true c
      walk_at "g"
      refine q1 H1 s1 ?_
      unfold rdStep
      rw [ew, if_neg (fun z => by have := z.1; omega)]
    · rename_i c
      have c' : ws.length ≤ 2 := by
        have : ¬ (2 : Int) < (ws.length : Int) := fun z => c (decide_eq_true z)
        omega
      walk_at "g"
      refine ⟨⟨_, SqL.of e1⟩, fun D hD => ?_⟩
      refine list_loop (xs := (ws.map S).map V.str) (fun i H' => Same H1 H' ∧ H' D = some (.lst (((ws.take i).map isNum).map V.bl))) ⟨same_new hD, upd_same⟩ (fun i H' _ p => SqL.of (p.1 _ _ e1)) (fun i x H' hx p => ?_) (fun H' p => ?_)
      · obtain ⟨sm, eD⟩ := p
        rw [List.getElem?_map, List.getElem?_map] at hx
        obtain ⟨z, hz, rfl⟩ := Option.map_eq_some_iff.mp hx
        obtain ⟨wd, hwd, rfl⟩ := Option.map_eq_some_iff.mp hz
        have hi : i < ws.length := (List.getElem?_eq_some_iff.mp hwd).1
        have := lp wd (List.mem_of_getElem? hwd)
        refine ⟨rfl, ?_⟩
        walk_at "g"
        refine ⟨by omega, fun H2 s2 => ?_⟩
        walk_at "g"
        refine ⟨_, s2 _ _ eD, by rw [List.length_map, List.length_map, List.length_take]; exact small1000 (by omega), same_put (sm.trans s2) hD, ?_⟩
        rw [upd_same, List.take_add_one, hwd]
        simp only [List.map_append, Option.toList_some, List.map_cons, List.map_nil]
      · obtain ⟨sm, eD⟩ := p
        rw [List.take_of_length_le (by rw [List.length_map, List.length_map]; exact Nat.le_refl _)] at eD
        refine ⟨D, ws.map isNum, rfl, SqL.of eD, ?_⟩
        rw [List.all_map]
        have e1' := sm _ _ e1
        by_cases c3 : ws.all isNum = true
        · rw [show ws.all (id ∘ isNum) = true from c3]
          walk_at "g"
          refine ⟨⟨_, SqL.of e1'⟩, fun D2 hD2 => ?_⟩
          have hall := List.all_eq_true.mp c3
          have er : rdStep l = some (ws.map valN) := by
            unfold rdStep
            rw [ew, if_pos ⟨c', c3⟩]
          refine lc_vals (K := K) (a := p1) (xs := (ws.map S).map V.str) (ys := (ws.map valN).map fun (n : Nat) => V.int (n : Int)) hD2 (SqL.of e1') (by simp) (by rw [lw]; omega) (fun j x y H2 C N hx hy s2 hC => ?_) (fun H2 s2 eD2 => ?_)
          · rw [List.getElem?_map, List.getElem?_map] at hx
            obtain ⟨z, hz, rfl⟩ := Option.map_eq_some_iff.mp hx
            obtain ⟨wd, hwd, rfl⟩ := Option.map_eq_some_iff.mp hz
            rw [List.getElem?_map, List.getElem?_map, hwd] at hy
            cases hy
            have hn := hall wd (List.mem_of_getElem? hwd)
            refine ⟨rfl, ?_⟩
            walk_at "g"
            refine ⟨_, _, rfl, int_text hn, ?_, hC⟩
            rw [SX.S_len]
            rcases isNum_cases hn with ⟨a, rfl, _⟩ | ⟨a, b, rfl, _⟩ <;> simp
          · refine ⟨D2, _, rfl, .inl ⟨SqL.of eD2, fun p3 hp3 => ?_⟩⟩
            refine q2 _ p3 _ (s1.trans (sm.trans (s2.trans (same_new hp3)))) er ((s1.trans (sm.trans s2)).free hp3) upd_same
        · rw [show ws.all (id ∘ isNum) = false from Bool.eq_false_iff.mpr c3]
          walk_at "g"
          refine q1 H' (s1.trans sm) ?_
          unfold rdStep
          rw [ew, if_neg (fun z => c3 z.2)]
def opD : Option (List Nat) → PyData
  | none => .none
  | some s => stD s
theorem any_none : ∀ os : List (Option (List Nat)), ((os.map opD).any fun z => PyData.eqv z .none) = decide (none ∈ os)
  | [] => rfl
  | none :: r => by
    rw [List.map_cons, List.any_cons]
    simp [opD, PyData.eqv]
  | some s :: r => by
    rw [List.map_cons, List.any_cons, any_none r]
    show (PyData.eqv (.tuple _) .none || _) = _
    simp [PyData.eqv]
theorem ops_lay : ∀ os : List (Option (List Nat)), PyData.canLayAll0 (os.map opD) = true
  | [] => rfl
  | none :: r => by
    show PyData.canLayAll0 (PyData.none :: _) = true
    simp only [PyData.canLayAll0, PyData.canLay0, ops_lay r, Bool.and_self]
  | some s :: r => by
    show PyData.canLayAll0 (stD s :: _) = true
    simp only [PyData.canLayAll0, stD, PyData.canLay0, ops_lay r, ints_lay, Bool.and_self]
theorem ops_deep : ∀ os : List (Option (List Nat)), PyData.depthAll (os.map opD) ≤ 1
  | [] => by simp [PyData.depthAll]
  | none :: r => by
    have := ops_deep r
    show PyData.depthAll (PyData.none :: _) ≤ 1
    simp only [PyData.depthAll, PyData.depth]
    omega
  | some s :: r => by
    have := ops_deep r
    have := ints_deep (s.map fun (n : Nat) => (n : Int))
    show PyData.depthAll (stD s :: _) ≤ 1
    simp only [PyData.depthAll, stD, PyData.depth]
    omega
theorem ops_shaped (os : List (Option (List Nat))) : SeqAt.shaped (.list (os.map opD)) = true := by
  have h := ops_deep os
  refine Bool.and_eq_true_iff.mpr ⟨ops_lay os, decide_eq_true ?_⟩
  show PyData.depth (.list _) ≤ _
  simp only [PyData.depth]
  omega
def stV (s : List Nat) : List V := s.map fun (n : Nat) => V.int (n : Int)
def sp_rdplace (K : PySem.W.Frag) : Sp := fun vs H Q _ => ∃ (l : List Nat) (M : Ms), vs = [.str (S l)] ∧ l.length ≤ 50000 ∧ Mk M H ∧
  ((∀ H', Same H H' → l ≠ [46] → rdAll (sp1 47 [] l) = none → Q .non H') ∧ (∀ H' v p, Same H H' → (l = [46] ∧ p = [] ∨ l ≠ [46] ∧ rdAll (sp1 47 [] l) = some p) → Rp M H' v (plD p) → Q v H'))
theorem rdAll_opts : ∀ {ws : List (List Nat)} {P : List (List Nat)}, rdAll ws = some P → ws.map rdStep = P.map some
  | [], P, h => by injection h with h; subst h; rfl
  | w :: r, P, h => by
    have h : (rdStep w).bind (fun a => (rdAll r).map (a :: ·)) = some P := h
    cases e1 : rdStep w with
    | none => rw [e1] at h; cases h
    | some a =>
      rw [e1] at h
      have h : (rdAll r).map (a :: ·) = some P := h
      cases e2 : rdAll r with
      | none => rw [e2] at h; cases h
      | some Q =>
        rw [e2] at h
        injection h with h
        subst h
        rw [List.map_cons, e1, rdAll_opts e2]
        rfl
theorem rdAll_none : ∀ {ws : List (List Nat)}, rdAll ws = none → ∃ w ∈ ws, rdStep w = none
  | [], h => by cases h
  | w :: r, h => by
    have h : (rdStep w).bind (fun a => (rdAll r).map (a :: ·)) = none := h
    cases e1 : rdStep w with
    | none => exact ⟨w, List.mem_cons_self, e1⟩
    | some a =>
      rw [e1] at h
      have h : (rdAll r).map (a :: ·) = none := h
      cases e2 : rdAll r with
      | none =>
        obtain ⟨v, h1, h2⟩ := rdAll_none e2
        exact ⟨v, List.mem_cons_of_mem _ h1, h2⟩
      | some Q => rw [e2] at h; cases h
theorem ok_rdplace (T : Txt K mg) (Z : TDig K mg) : FnOk P w K mg base CX0 3 T.f_read_place T.d_read_place ["text"] (sp_rdplace K) := by
  have G__read_step := ok_rdstep (P := P) (w := w) (base := base) T Z
  refine T.F_read_place.ok sc_read_place (fun vs H Q E h => ?_) (fun cdv A outer s H vs Q E hr h => ?_)
  · obtain ⟨_, _, rfl, _⟩ := h
    rfl
  · obtain ⟨l, M, rfl, hl, hM, q1, q2⟩ := h
    refine ⟨_, (pss_cons (ps_if (pt_cmpR op_eq (pv 0) pe_str (nomark _)) (pss_one (ps_ret (pe_tup pa_nil))) pss_nil)
      (pss_cons (ps_setLc (i := 1) (own := [("step", 2)]) (g := gName 2) (tt := tYes) (by rfl) sc_read_place.nd rfl rfl (sw_true rfl rfl rfl (by decide +kernel)) (pi_listK (K := K) rfl (pe_split (pv 0) pe_str)) (blkOk_by (own := [("step", 2)]) (N := ["text", "steps", "step"]) (sc := defScope s_read_place) (by decide +kernel)) (fun _ _ _ _ _ => (pg_name (i := 2) sc_read_place.nd rfl (Or.inl rfl))) (fun _ _ _ _ _ => pts_nil) (fun _ _ _ _ _ => (pe_call G__read_step (hr.mono (by omega)) (by rfl) T.g__read_step T.F__read_step.kp T.b__read_step .nil pass0 (pa_cons (pv 2) pa_nil))))
      (pss_one (ps_ret (pe_ifExp (pt_cmpR (op_inDK (K := K) rfl (hu65 hr)) pe_non (pv 1) (by rfl)) pe_non (pe_callTy (call_tupleK (K := K) rfl) (by rfl) T.m_tuple (by decide +kernel) (pa_cons (pv 1) pa_nil))))))), ?_⟩
    walk_at "g"
    rw [str_dot, S_eq]
    by_cases c : l = [46]
    · rw [decide_eq_true c]
      walk_at "g"
      refine ⟨szK rfl, fun p hp => ?_⟩
      exact q2 _ _ [] (same_new hp) (.inl ⟨c, rfl⟩) (.tup (hM.out hp) (.inl upd_same) .nil)
    · rw [decide_eq_false c]
      walk_at "g"
      refine ⟨⟨_, rfl⟩, ?_⟩
      walk_at "g"
      refine ⟨by rw [SX.S_len, sizeLine_eq]; omega, fun p1 hp1 => ?_⟩
      rw [str_sl, split_1 _ _ (by decide)]
      have s1 : Same H (upd H p1 (.lst (((sp1 47 [] l).map S).map V.str))) := same_new hp1
      have e1 : upd H p1 (.lst (((sp1 47 [] l).map S).map V.str)) p1 = some (.lst (((sp1 47 [] l).map S).map V.str)) := upd_same
      generalize upd H p1 (.lst (((sp1 47 [] l).map S).map V.str)) = H1 at s1 e1
      have lw : (((sp1 47 [] l).map S).map V.str).length = (sp1 47 [] l).length := by rw [List.length_map, List.length_map]
      have lw2 := sp1_len 47 l []
      have lp := sp1_part 47 l []
      rw [List.length_nil, Nat.zero_add] at lp
      generalize ew : sp1 47 [] l = ws at e1 lw lw2 lp q1 q2
      have hM1 := hM.gr (Gr.same s1)
      walk_at "g"
      refine ⟨⟨_, SqL.of e1⟩, fun D hD => ?_⟩
      refine list_loop (xs := (ws.map S).map V.str) (fun i H' => Same H1 H' ∧ ∃ vs, H' D = some (.lst vs) ∧ vs.length = i ∧ RpAll (also M D) H' vs (((ws.take i).map rdStep).map opD)) ⟨same_new hD, [], upd_same, rfl, .nil⟩ (fun i H' _ p => SqL.of (p.1 _ _ e1)) (fun i x H' hx p => ?_) (fun H' p => ?_)
      · obtain ⟨sm, vs, eD, lv, rv⟩ := p
        rw [List.getElem?_map, List.getElem?_map] at hx
        obtain ⟨z, hz, rfl⟩ := Option.map_eq_some_iff.mp hx
        obtain ⟨wd, hwd, rfl⟩ := Option.map_eq_some_iff.mp hz
        have hi : i < ws.length := (List.getElem?_eq_some_iff.mp hwd).1
        have := lp wd (List.mem_of_getElem? hwd)
        have hMD : Mk (also M D) H' := (hM1.gr (Gr.same sm)).also (ne_none eD)
        have fin : ∀ (H2 : Hp) (y : V) (d : Option (List Nat)), Same H' H2 → rdStep wd = d → Rp (also M D) H2 y (opD d) → ∃ acc, H2 D = some (.lst acc) ∧ acc.length < sizeLine ∧ (Same H1 (upd H2 D (.lst (acc ++ [y]))) ∧ ∃ vs, upd H2 D (.lst (acc ++ [y])) D = some (.lst vs) ∧ vs.length = i + 1 ∧ RpAll (also M D) (upd H2 D (.lst (acc ++ [y]))) vs (((ws.take (i + 1)).map rdStep).map opD)) := fun H2 y d s2 hd ry => by
          have sP : Sx (also M D) H2 (upd H2 D (.lst (vs ++ [y]))) := Sx.put (.inr rfl)
          refine ⟨vs, s2 _ _ eD, small1000000 (by omega), same_put (sm.trans s2) hD, vs ++ [y], upd_same, by rw [List.length_append, lv]; rfl, ?_⟩
          rw [List.take_add_one, hwd, List.map_append, List.map_append]
          show RpAll _ _ _ (_ ++ [opD (rdStep wd)])
          rw [hd]
          exact ((rv.sx (Sx.same s2)).append (.one ry)).sx sP
        refine ⟨rfl, ?_⟩
        walk_at "g"
        refine ⟨by omega, fun H2 s2 hn => fin H2 _ none s2 hn .non, fun H2 p s s2 hs hp1 hp2 => fin H2 _ (some s) s2 hs (.tup (hMD.out hp1) (.inl hp2) ?_)⟩
        have := RpAll.ints (M := also M D) (H := H2) (s.map fun (n : Nat) => (n : Int))
        rw [List.map_map] at this
        exact this
      · obtain ⟨sm, vs, eD, lv, rv⟩ := p
        rw [List.take_of_length_le (by rw [List.length_map, List.length_map]; exact Nat.le_refl _)] at rv
        walk_at "g"
        refine ⟨.none, (ws.map rdStep).map opD, .non, .lst (SqL.of eD) (RpAll.dp _ _ rv), by decide +kernel, ops_shaped _, ?_⟩
        rw [any_none]
        by_cases c2 : none ∈ ws.map rdStep
        · rw [decide_eq_true c2]
          walk_at "g"
          refine q1 H' (s1.trans sm) c ?_
          cases e : rdAll ws with
          | none => rfl
          | some P =>
            rw [rdAll_opts e] at c2
            simp at c2
        · rw [decide_eq_false c2]
          walk_at "g"
          refine ⟨D, vs, rfl, .inl ⟨SqL.of eD, fun p3 hp3 => ?_⟩⟩
          have s4 := s1.trans (sm.trans (same_new (o := .tup vs) hp3))
          cases e : rdAll ws with
          | none =>
            obtain ⟨wd, h1, h2⟩ := rdAll_none e
            exact absurd (List.mem_map.mpr ⟨wd, h1, h2⟩) c2
          | some P =>
            refine q2 _ _ P s4 (.inr ⟨c, e⟩) ?_
            have hMp : Mk M H' := hM1.gr (Gr.same sm)
            have e2 : (ws.map rdStep).map opD = P.map stD := by
              rw [rdAll_opts e, List.map_map]
              rfl
            rw [e2] at rv
            exact Rp.newT hMp hp3 (rv.less also_le)
end
end D

namespace D
open PySem PySem.Spec PyProof.Rows L2
local macro_rules | `(tactic| walk_at "st") => `(tactic| first | exact SqT.of (by assumption) | exact Or.inl (by assumption) | exact SqT.of upd_same | fail "st")
local macro_rules | `(tactic| walk_at "ixt") => `(tactic| refine ⟨_, _, _, _, rfl, rfl, (by walk_at "st" : SqT _ _ _ _), by rfl, ?_⟩)
local macro_rules | `(tactic| walk_at "sq") => `(tactic| first | exact SqL.of (by assumption) | assumption | exact Or.inl (by assumption) | exact SqL.of upd_same | fail "sq")
local macro_rules | `(tactic| walk_at "ix") => `(tactic| refine ⟨_, _, _, _, rfl, rfl, (by walk_at "sq" : SqL _ _ _ _), by rfl, ?_⟩)
local macro_rules | `(tactic| walk_at "set") => `(tactic| refine ⟨_, _, _, _, rfl, rfl, by first | assumption | exact upd_same, by rfl, ?_⟩)
local macro_rules | `(tactic| walk_at "len") => `(tactic| refine ⟨_, _, rfl, Or.inl (by walk_at "sq" : SqL _ _ _ _), ?_⟩)
local macro_rules | `(tactic| walk_at "g") => `(tactic| repeat (first | refine ⟨_, rfl, ?_⟩ | refine ⟨_, _, rfl, rfl, ?_⟩ | refine ⟨Or.inr (by decide), ?_⟩ | refine ⟨Or.inl (by decide), ?_⟩ | refine ⟨(by decide : (0 : Int) < _), ?_⟩ | refine ⟨(⟨by decide, by decide⟩ : CDiv _ _), ?_⟩ | refine ⟨(⟨by decide, by decide, by decide⟩ : CPow _ _), ?_⟩ | refine Or.inl ⟨_, rfl, ?_⟩ | refine ⟨rfl, ?_⟩ | walk_at "ix" | walk_at "ixt" | walk_at "len" | fail "g"))
local macro_rules | `(tactic| walk_at "if") => `(tactic| refine ite2 (fun e => ?_) (fun e => ?_))
section
variable {P : Program} {w : World} {K : PySem.W.Frag} {mg : Str → Option Value} {base : Heap}
theorem none_gr {H H' : Hp} {p : Addr} (g : Gr H H') (h : H' p = none) : H p = none := by
  cases e : H p with
  | none => rfl
  | some o => exact absurd h (g _ (ne_none e))
theorem idx3 {x y z : Int} {w : Int} (h0 : 0 ≤ w) (h1 : w < 3) : ∃ m : Int, atI [V.int x, .int y, .int z] w = some (.int m) ∧ (m = x ∨ m = y ∨ m = z) := by
  have : w = 0 ∨ w = 1 ∨ w = 2 := by omega
  rcases this with rfl | rfl | rfl
  · exact ⟨x, rfl, .inl rfl⟩
  · exact ⟨y, rfl, .inr (.inl rfl)⟩
  · exact ⟨z, rfl, .inr (.inr rfl)⟩
def sp_drawn (K : PySem.W.Frag) : Sp := fun vs H Q _ => ∃ (b : Addr) (M : Ms), vs = [.ref b] ∧ Bag K M H b ∧ Mk M H ∧ Dr K M b H (fun d => ∃ p, d = plD p ∧ p.length ≤ 12 ∧ ∀ s ∈ p, goodS s) Q
theorem ok_drawn (T : Txt K mg) : FnOk P w K mg base CX0 3 T.f__law_drawn_place T.d__law_drawn_place ["_law_bag_here"] (sp_drawn K) := by
  have G__law_pick := ok_pick (P := P) (w := w) (base := base) T
  refine T.F__law_drawn_place.ok sc__law_drawn_place (fun vs H Q E h => ?_) (fun cdv A outer s H vs Q E hr h => ?_)
  · obtain ⟨_, _, rfl, _⟩ := h
    rfl
  · obtain ⟨b, M, rfl, hB, hM, q⟩ := h
    refine ⟨_, (pss_cons (ps_set (i := 1) sc__law_drawn_place.nd rfl (Or.inl rfl) (pe_ifExp (pt_cmpR op_gt (pe_call G__law_pick (hr.mono (by omega)) (by rfl) T.g__law_pick T.F__law_pick.kp T.b__law_pick .nil pass0 (pa_cons (pv 0) (pa_cons pe_int pa_nil))) pe_int (nomark _)) (pe_call G__law_pick (hr.mono (by omega)) (by rfl) T.g__law_pick T.F__law_pick.kp T.b__law_pick .nil pass0 (pa_cons (pv 0) (pa_cons pe_int pa_nil))) (pe_call G__law_pick (hr.mono (by omega)) (by rfl) T.g__law_pick T.F__law_pick.kp T.b__law_pick .nil pass0 (pa_cons (pv 0) (pa_cons pe_int pa_nil)))))
      (pss_cons (ps_set (i := 2) sc__law_drawn_place.nd rfl (Or.inl rfl) (pe_lst pa_nil))
      (pss_cons (ps_for PassesOwn.never rfl (pi_range1 (by rfl) T.m_range (pa_cons (pv 1) pa_nil)) (pg_name (i := 3) sc__law_drawn_place.nd rfl (Or.inl rfl)) (pss_cons (ps_set (i := 4) sc__law_drawn_place.nd rfl (Or.inl rfl) (pe_lst (pa_cons (pe_call G__law_pick (hr.mono (by omega)) (by rfl) T.g__law_pick T.F__law_pick.kp T.b__law_pick .nil pass0 (pa_cons (pv 0) (pa_cons (pe_ix (ix_listK (K := K) rfl) (pe_lst (pa_cons pe_int (pa_cons pe_int (pa_cons pe_int pa_nil)))) (pe_call G__law_pick (hr.mono (by omega)) (by rfl) T.g__law_pick T.F__law_pick.kp T.b__law_pick .nil pass0 (pa_cons (pv 0) (pa_cons pe_int pa_nil))) (fun _ _ => rfl)) pa_nil))) pa_nil)))
      (pss_cons (ps_if (pt_cmpR op_eq (pe_call G__law_pick (hr.mono (by omega)) (by rfl) T.g__law_pick T.F__law_pick.kp T.b__law_pick .nil pass0 (pa_cons (pv 0) (pa_cons pe_int pa_nil))) pe_int (nomark _)) (pss_one (ps_expr (pe_bmK2 (K := K) rfl PySem.F.plainAttrs_list PySem.F.slot_list_append PySem.F.type_list_append mt_append (pv 4) (pa_cons (pe_call G__law_pick (hr.mono (by omega)) (by rfl) T.g__law_pick T.F__law_pick.kp T.b__law_pick .nil pass0 (pa_cons (pv 0) (pa_cons (pe_ix (ix_listK (K := K) rfl) (pe_lst (pa_cons pe_int (pa_cons pe_int (pa_cons pe_int pa_nil)))) (pe_call G__law_pick (hr.mono (by omega)) (by rfl) T.g__law_pick T.F__law_pick.kp T.b__law_pick .nil pass0 (pa_cons (pv 0) (pa_cons pe_int pa_nil))) (fun _ _ => rfl)) pa_nil))) pa_nil)))) pss_nil)
      (pss_one (ps_expr (pe_bmK2 (K := K) rfl PySem.F.plainAttrs_list PySem.F.slot_list_append PySem.F.type_list_append mt_append (pv 2) (pa_cons (pe_callTy (call_tupleK (K := K) rfl) (by rfl) T.m_tuple (by decide +kernel) (pa_cons (pv 4) pa_nil)) pa_nil)))))))
      (pss_one (ps_ret (pe_callTy (call_tupleK (K := K) rfl) (by rfl) T.m_tuple (by decide +kernel) (pa_cons (pv 2) pa_nil))))))), ?_⟩
    have mb := hB.w
    with_reducible refine seq_join (fun σ H' => ∃ n : Int, σ = [some (.ref b), some (.int n), none, none, none] ∧ 0 ≤ n ∧ n ≤ 12 ∧ At b H H' ∧ Bag K M H' b) (fun hN => ?_) (fun σ H2 c => ?_)
    · walk_at "g"
      refine ⟨b, 5, M, rfl, hB, by omega, by omega, fun n1 H1 a0 a1 hA1 hB1 => ?_⟩
      walk_at "g"
      walk_at "if"
      · walk_at "g"
        refine ⟨b, 6, M, rfl, hB1, by omega, by omega, fun n2 H2 b0 b1 hA2 hB2 => ?_⟩
        exact hN _ _ ⟨_, rfl, by omega, by omega, hA1.trans hA2, hB2⟩
      · walk_at "g"
        refine ⟨b, 13, M, rfl, hB1, by omega, by omega, fun n2 H2 b0 b1 hA2 hB2 => ?_⟩
        exact hN _ _ ⟨_, rfl, by omega, by omega, hA1.trans hA2, hB2⟩
    · obtain ⟨n, rfl, n0, n12, hA2, hB2⟩ := c
      have sb : Sx (one b) H H2 := hA2.sx
      have gb : Gr H H2 := At.gr hA2 hB2.there
      have hM2 := hM.gr gb
      walk_at "g"
      refine ⟨szK rfl, fun o ho => ?_⟩
      have ob : o ≠ b := fun z => hB2.there (by rw [← z]; exact ho)
      walk_at "g"
      refine ⟨by omega, by omega, ?_⟩
      refine for_range (lo := 0) (n := n.toNat) (fun i σ H' => (∃ y3 y4, σ = [some (.ref b), some (.int n), some (.ref o), y3, y4]) ∧ ∃ xs p, H' o = some (.lst xs) ∧ RpAll (also M o) H' xs (p.map stD) ∧ p.length = i ∧ (∀ s ∈ p, goodS s) ∧ Sx (one b) H2 H' ∧ Gr H2 H' ∧ Bag K (also M o) H' b) ⟨⟨_, _, rfl⟩, [], [], upd_same, .nil, rfl, fun s hs => (nomatch hs), Sx.new ho, Gr.upd, (hB2.more ho).same (same_new ho)⟩ (fun i σ H' hi p => ?_) (fun σ H' p => ?_)
      · obtain ⟨⟨y3, y4, rfl⟩, xs, p, eo, rx, lp, hp, sx, gr, hBi⟩ := p
        have hMi : Mk (also M o) H' := (hM2.gr gr).also (ne_none eo)
        have lxs : xs.length = p.length := by have := rx.length; rw [List.length_map] at this; exact this
        have mo : also M o b := .inl mb
        walk_at "g"
        refine ⟨szK rfl, fun p3 hp3 => ?_⟩
        have s3 : Same H' (upd H' p3 (.lst [.int 16, .int 16, .int 100])) := same_new hp3
        have e3 : upd H' p3 (.lst [.int 16, .int 16, .int 100]) p3 = some (.lst [.int 16, .int 16, .int 100]) := upd_same
        generalize upd H' p3 (.lst [.int 16, .int 16, .int 100]) = H3 at s3 e3
        have hB3 := hBi.same s3
        walk_at "g"
        refine ⟨b, 3, also M o, rfl, hB3, by omega, by omega, fun n4 H4 b0 b1 hA4 hB4 => ?_⟩
        have p3b : p3 ≠ b := fun z => hBi.there (by rw [← z]; exact hp3)
        have p3o : p3 ≠ o := fun z => by rw [z, eo] at hp3; cases hp3
        obtain ⟨m4, hm4, hv4⟩ := idx3 (x := 16) (y := 16) (z := 100) b0 b1
        walk_at "g"
        refine ⟨_, _, _, _, rfl, rfl, SqL.of ((hA4 p3 p3b).trans e3), hm4, ?_⟩
        walk_at "g"
        refine ⟨b, m4, also M o, rfl, hB4, by omega, by omega, fun n5 H5 c0 c1 hA5 hB5 => ?_⟩
        walk_at "g"
        refine ⟨szK rfl, fun p6 hp6 => ?_⟩
        have s6 : Same H5 (upd H5 p6 (.lst [.int n5])) := same_new hp6
        have e6 : upd H5 p6 (.lst [.int n5]) p6 = some (.lst [.int n5]) := upd_same
        have hB6 := (hB5.more hp6).same s6
        generalize upd H5 p6 (.lst [.int n5]) = H6 at s6 e6 hB6
        have sx6 : Sx (one b) H' H6 := (Sx.same s3).trans (hA4.sx.trans (hA5.sx.trans (Sx.same s6)))
        have gr6 : Gr H' H6 := (Gr.same s3).trans ((At.gr hA4 hB4.there).trans ((At.gr hA5 hB5.there).trans (Gr.same s6)))
        have eo6 := sx6 _ _ (show ¬ one b o from ob) eo
        have p6b : p6 ≠ b := fun z => hB5.there (by rw [← z]; exact hp6)
        have p6n : H' p6 = none := none_gr ((Gr.same s3).trans ((At.gr hA4 hB4.there).trans (At.gr hA5 hB5.there))) hp6
        have p6o : p6 ≠ o := fun z => by rw [z, eo] at p6n; cases p6n
        dsimp only [gName]
        with_reducible refine seq_join (fun σ H9 => σ = [some (.ref b), some (.int n), some (.ref o), some (.int (0 + (i : Int))), some (.ref p6)] ∧ ∃ s : List Nat, goodS s ∧ H9 p6 = some (.lst (stV s)) ∧ Sx (one b) H' H9 ∧ Gr H' H9 ∧ Bag K (also M o) H9 b) (fun hN => ?_) (fun σ H9 c => ?_)
        · walk_at "g"
          refine ⟨b, 2, also (also M o) p6, rfl, hB6, by omega, by omega, fun n7 H7 d0 d1 hA7 hB7 => ?_⟩
          obtain ⟨k5, rfl⟩ : ∃ k : Nat, n5 = (k : Int) := ⟨n5.toNat, by omega⟩
          have e7 := (hA7 p6 p6b).trans e6
          have base7 := hN [some (.ref b), some (.int n), some (.ref o), some (.int (0 + (i : Int))), some (.ref p6)] H7 ⟨rfl, [k5], ⟨Nat.le_refl 1, (show 1 ≤ 2 from by decide), fun m hm => by rw [List.mem_singleton.mp hm]; omega⟩, e7, sx6.trans hA7.sx, gr6.trans (At.gr hA7 hB7.there), hB7.less mo also_le⟩
          walk_at "g"
          walk_at "if"
          · walk_at "g"
            refine ⟨.inl ⟨rfl, _, SqL.of e7⟩, ?_⟩
            walk_at "g"
            refine ⟨szK rfl, fun p8 hp8 => ?_⟩
            have s8 : Same H7 (upd H7 p8 (.lst [.int 10, .int 10, .int 100])) := same_new hp8
            have e8 : upd H7 p8 (.lst [.int 10, .int 10, .int 100]) p8 = some (.lst [.int 10, .int 10, .int 100]) := upd_same
            have p8b : p8 ≠ b := fun z => hB7.there (by rw [← z]; exact hp8)
            generalize upd H7 p8 (.lst [.int 10, .int 10, .int 100]) = H8 at s8 e8
            have hB8 := hB7.same s8
            walk_at "g"
            refine ⟨b, 3, _, rfl, hB8, by omega, by omega, fun n9 H9 f0 f1 hA9 hB9 => ?_⟩
            obtain ⟨m9, hm9, hv9⟩ := idx3 (x := 10) (y := 10) (z := 100) f0 f1
            walk_at "g"
            refine ⟨_, _, _, _, rfl, rfl, SqL.of ((hA9 p8 p8b).trans e8), hm9, ?_⟩
            walk_at "g"
            refine ⟨b, m9, _, rfl, hB9, by omega, by omega, fun n10 H10 g0 g1 hA10 hB10 => ?_⟩
            obtain ⟨k10, rfl⟩ : ∃ k : Nat, n10 = (k : Int) := ⟨n10.toNat, by omega⟩
            have e10 := (hA10 p6 p6b).trans ((hA9 p6 p6b).trans (s8 _ _ e7))
            refine ⟨p6, _, _, rfl, rfl, e10, small1000 (show 1 ≤ 1000 from by decide), ?_⟩
            refine hN _ _ ⟨rfl, [k5, k10], ⟨by simp, by simp, fun m hm => ?_⟩, upd_same, fun c u nb e => ?_, gr6.trans ((At.gr hA7 hB7.there).trans ((Gr.same s8).trans ((At.gr hA9 hB9.there).trans ((At.gr hA10 hB10.there).trans Gr.upd)))), (hB10.keep (N := one p6) (Sx.put rfl) (Ne.symm p6b) (one_le (.inr rfl))).less mo also_le⟩
            · simp only [List.mem_cons, List.not_mem_nil, or_false] at hm
              rcases hm with rfl | rfl <;> omega
            · rw [upd_ne (fun z => by rw [z, p6n] at e; cases e)]
              exact hA10.sx _ _ nb (hA9.sx _ _ nb (s8 _ _ (hA7.sx _ _ nb (sx6 _ _ nb e))))
          · exact base7
        · obtain ⟨rfl, s, hg, e9, sx9, gr9, hB9⟩ := c
          have eo9 := sx9 _ _ (show ¬ one b o from ob) eo
          walk_at "g"
          refine ⟨.inl ⟨rfl, _, SqL.of eo9⟩, ?_⟩
          walk_at "g"
          refine ⟨p6, _, rfl, .inl ⟨SqL.of e9, fun p10 hp10 => ?_⟩⟩
          have s10 : Same H9 (upd H9 p10 (.tup (stV s))) := same_new hp10
          have e10 : upd H9 p10 (.tup (stV s)) p10 = some (.tup (stV s)) := upd_same
          have hM9 : Mk (also M o) H9 := hMi.gr gr9
          have np10 : ¬ also M o p10 := hM9.out hp10
          have hB10 := hB9.same s10
          generalize upd H9 p10 (.tup (stV s)) = G at s10 e10 hB10
          have eoG := s10 _ _ eo9
          refine ⟨o, xs, _, rfl, rfl, eoG, small1000000 (by omega), ?_⟩
          have sP : Sx (also M o) G (upd G o (.lst (xs ++ [.ref p10]))) := Sx.put (.inr rfl)
          have rs : Rp (also M o) G (.ref p10) (stD s) := .tup np10 (.inl e10) (by
            have := RpAll.ints (M := also M o) (H := G) (s.map fun (n : Nat) => (n : Int))
            rw [List.map_map] at this
            exact this)
          have sM : Sx (also M o) H' G := (sx9.le (one_le mo)).trans (Sx.same s10)
          refine ⟨⟨_, _, rfl⟩, xs ++ [.ref p10], p ++ [s], upd_same, ?_, by rw [List.length_append, lp]; rfl, fun z hz => ?_, fun c u nb e => ?_, gr.trans (gr9.trans ((Gr.same s10).trans Gr.upd)), hB10.keep (N := one o) (Sx.put rfl) (Ne.symm ob) (one_le (.inr rfl))⟩
          · rw [List.map_append]
            exact ((rx.sx sM).sx sP).append (.one (rs.sx sP))
          · rcases List.mem_append.mp hz with z1 | z1
            · exact hp z z1
            · rw [List.mem_singleton.mp z1]; exact hg
          · rw [upd_ne (fun z => by rw [z, ho] at e; cases e)]
            exact s10 _ _ (sx9 _ _ nb (sx _ _ nb e))
      · obtain ⟨⟨y3, y4, rfl⟩, xs, p, eo, rx, lp, hp, sx, gr, hBi⟩ := p
        walk_at "g"
        refine ⟨o, xs, rfl, .inl ⟨SqL.of eo, fun p9 hp9 => ?_⟩⟩
        refine q _ _ (plD p) (sb.trans (sx.trans (Sx.new hp9))) (gb.trans (gr.trans Gr.upd)) ((hBi.less mb also_le).same (same_new hp9)) (Rp.newT (hM2.gr gr) hp9 (rx.less also_le)) ⟨p, rfl, by omega, hp⟩
end
end D

namespace D
open PySem PySem.Spec PyProof.Rows L2
local macro_rules | `(tactic| walk_at "st") => `(tactic| first | exact SqT.of (by assumption) | exact Or.inl (by assumption) | exact SqT.of upd_same | fail "st")
local macro_rules | `(tactic| walk_at "ixt") => `(tactic| refine ⟨_, _, _, _, rfl, rfl, (by walk_at "st" : SqT _ _ _ _), by rfl, ?_⟩)
local macro_rules | `(tactic| walk_at "sq") => `(tactic| first | exact SqL.of (by assumption) | assumption | exact Or.inl (by assumption) | exact SqL.of upd_same | fail "sq")
local macro_rules | `(tactic| walk_at "ix") => `(tactic| refine ⟨_, _, _, _, rfl, rfl, (by walk_at "sq" : SqL _ _ _ _), by rfl, ?_⟩)
local macro_rules | `(tactic| walk_at "set") => `(tactic| refine ⟨_, _, _, _, rfl, rfl, by first | assumption | exact upd_same, by rfl, ?_⟩)
local macro_rules | `(tactic| walk_at "len") => `(tactic| refine ⟨_, _, rfl, Or.inl (by walk_at "sq" : SqL _ _ _ _), ?_⟩)
local macro_rules | `(tactic| walk_at "g") => `(tactic| repeat (first | refine ⟨_, rfl, ?_⟩ | refine ⟨_, _, rfl, rfl, ?_⟩ | refine ⟨Or.inr (by decide), ?_⟩ | refine ⟨Or.inl (by decide), ?_⟩ | refine ⟨(by decide : (0 : Int) < _), ?_⟩ | refine ⟨(⟨by decide, by decide⟩ : CDiv _ _), ?_⟩ | refine ⟨(⟨by decide, by decide, by decide⟩ : CPow _ _), ?_⟩ | refine Or.inl ⟨_, rfl, ?_⟩ | refine ⟨rfl, ?_⟩ | walk_at "ix" | walk_at "ixt" | walk_at "len" | fail "g"))
local macro_rules | `(tactic| walk_at "if") => `(tactic| refine ite2 (fun e => ?_) (fun e => ?_))
section
variable {P : Program} {w : World} {K : PySem.W.Frag} {mg : Str → Option Value} {base : Heap}
theorem wrP_len {p : List (List Nat)} (h : ∀ s ∈ p, goodS s) : (wrP p).length ≤ 6 * p.length := by
  unfold wrP
  induction p with
  | nil => exact Nat.le_refl _
  | cons s r ih =>
    have h1 := wrS_len (h s List.mem_cons_self)
    have h2 := ih fun z hz => h z (List.mem_cons_of_mem _ hz)
    by_cases c : r = []
    · subst c
      show (wrS s).length ≤ 6 * 1
      omega
    · rw [List.map_cons, join_cons _ _ (by simpa using c), List.length_append, List.length_append, List.length_cons]
      show (wrS s).length + 1 + (TL.joinL [47] (r.map wrS)).length ≤ 6 * (r.length + 1)
      omega
theorem wrP_snoc {p : List (List Nat)} {s : List Nat} (h : p ≠ []) : wrP (p ++ [s]) = wrP p ++ [47] ++ wrS s := by
  unfold wrP
  rw [List.map_append]
  exact join_snoc [47] (wrS s) (by simpa using h)
theorem wrP_one (s : List Nat) : wrP [s] = wrS s := rfl
theorem wrP_ne {p : List (List Nat)} (h : ∀ s ∈ p, goodS s) (hn : p ≠ []) : wrP p ≠ [] := by
  cases p with
  | nil => exact absurd rfl hn
  | cons s r =>
    have := wrS_ne (h s List.mem_cons_self)
    by_cases c : r = []
    · subst c
      exact this
    · unfold wrP
      rw [List.map_cons, join_cons _ _ (by simpa using c)]
      simp
theorem ok_ptext (T : Txt K mg) : FnOk P w K mg base CX0 1 T.f__law_place_text T.d__law_place_text ["_law_place"] (sp_write K) := by
  refine T.F__law_place_text.ok sc__law_place_text (fun vs H Q E h => ?_) (fun cdv A outer s H vs Q E hr h => ?_)
  · obtain ⟨_, _, _, rfl, _⟩ := h
    rfl
  · obtain ⟨v, p, M, rfl, hR, lp, hp, q⟩ := h
    obtain ⟨a, xs, rfl, na, ha, rx⟩ := Rp.tupX hR
    refine ⟨_, (pss_cons (ps_set (i := 1) sc__law_place_text.nd rfl (Or.inl rfl) pe_str)
      (pss_cons (ps_for PassesOwn.never rfl (pi_tupK (K := K) rfl (pv 0)) (pg_name (i := 2) sc__law_place_text.nd rfl (Or.inl rfl)) (pss_cons (ps_set (i := 1) sc__law_place_text.nd rfl (Or.inl rfl) (pe_op op_add_str (pe_op op_add_str (pv 1) (pe_ifExp (pt_cmpR op_ne (pv 1) pe_str (nomark _)) pe_str pe_str)) (pe_callTy call_str_int (by rfl) T.m_str (by decide +kernel) (pa_cons (pe_ix (ix_tupK (K := K) rfl) (pv 2) pe_int (fun _ _ => rfl)) pa_nil))))
      (pss_one (ps_if (pt_cmpR op_eq (pe_callB (call_lenK (K := K) rfl) (by rfl) T.m_len PySem.boot_len (pa_cons (pv 2) pa_nil)) pe_int (nomark _)) (pss_one (ps_set (i := 1) sc__law_place_text.nd rfl (Or.inl rfl) (pe_op op_add_str (pe_op op_add_str (pv 1) pe_str) (pe_callTy call_str_int (by rfl) T.m_str (by decide +kernel) (pa_cons (pe_ix (ix_tupK (K := K) rfl) (pv 2) pe_int (fun _ _ => rfl)) pa_nil))))) pss_nil))))
      (pss_one (ps_ret (pe_ifExp (pt_cmpR op_ne (pv 1) pe_str (nomark _)) (pv 1) pe_str))))), ?_⟩
    walk_at "g"
    have lx : xs.length = p.length := by have := rx.length; rw [List.length_map] at this; exact this
    refine ⟨⟨_, SqT.of ha⟩, ?_⟩
    refine for_tup (K := K) (a := a) (xs := xs) (fun i σ H' => (∃ y2, σ = [some (.ref a), some (.str (S (wrP (p.take i)))), y2]) ∧ Same H H') ⟨⟨_, by rw [str_emp]; rfl⟩, Same.refl _⟩ (fun i σ H' _ z => SqT.of (z.2 _ _ ha)) (fun i x σ H' hx z => ?_) (fun σ H' z => ?_)
    · obtain ⟨⟨y2, rfl⟩, sm⟩ := z
      have hi : i < p.length := by rw [← lx]; exact (List.getElem?_eq_some_iff.mp hx).1
      have hg := hp p[i] (List.getElem_mem hi)
      obtain ⟨d, hd, rd⟩ := rx.get hx
      rw [List.getElem?_map, List.getElem?_eq_getElem hi] at hd
      cases hd
      obtain ⟨b, ys, rfl, nb, hb, ry⟩ := Rp.tupX (show Rp M H x (.tuple _) from rd)
      have ey := ry.ofInts
      subst ey
      have hb' := sm _ _ hb
      have hpt : ∀ z ∈ p.take i, goodS z := fun z hz => hp z (List.mem_of_mem_take hz)
      have lt := wrP_len hpt
      have htk : p.take (i + 1) = p.take i ++ [p[i]] := by rw [List.take_add_one, List.getElem?_eq_getElem hi]; rfl
      have lt2 : (p.take i).length ≤ 1000 := by rw [List.length_take]; omega
      obtain ⟨s, es⟩ : ∃ s, s = p[i] := ⟨_, rfl⟩
      rw [← es] at hg hb' htk
      -- what is done behind the sign between
      have str_len : ∀ l : List Nat, (S l).length = l.length := SX.S_len
      obtain ⟨u, eu, lu, eq⟩ : ∃ u : List Nat, (if p.take i = [] then u = [] else u = wrP (p.take i) ++ [47]) ∧ u.length ≤ 6001 ∧ wrP (p.take (i + 1)) = u ++ wrS s := by
        rw [htk]
        by_cases c : p.take i = []
        · exact ⟨[], by rw [if_pos c], by simp, by rw [c]; rfl⟩
        · rw [wrP_snoc c]
          exact ⟨_, by rw [if_neg c], by rw [List.length_append]; show _ + 1 ≤ _; omega, rfl⟩
      obtain ⟨n0, tl, rfl⟩ : ∃ n0 tl, s = n0 :: tl := by
        cases s with
        | nil => exact absurd hg.1 (by decide)
        | cons n0 tl => exact ⟨n0, tl, rfl⟩
      have hn0 := hg.2.2 n0 List.mem_cons_self
      have dl : ∀ n, (dig n).length ≤ 2 := fun n => by unfold dig; split <;> simp
      have d0 := dl n0
      have hz100 : ∀ n : Nat, n < 100 → ((n : Int)).natAbs.log2 < 1920 := fun n h => Nat.lt_of_le_of_lt (Nat.log2_le_self _) (by omega)
      dsimp only [gName]
      with_reducible refine seq_join (fun σ H2 => σ = [some (.ref a), some (.str (S (u ++ dig n0))), some (.ref b)] ∧ H2 = H') (fun hN => ?_) (fun σ H2 c => ?_)
      · walk_at "g"
        rw [str_emp, S_eq]
        by_cases c : p.take i = []
        · rw [if_pos c] at eu
          subst eu
          rw [c, decide_eq_true (show wrP [] = [] from rfl)]
          walk_at "g"
          rw [show (S (wrP []) : Str) = S [] from rfl]
          refine ⟨by rw [str_len, sizeLine_eq]; decide, ?_⟩
          rw [SX.S_cat]
          walk_at "g"
          refine ⟨b, _, _, V.int (n0 : Int), rfl, rfl, SqT.of hb', (show atI (((n0 :: tl).map fun (n : Nat) => (n : Int)).map V.int) ((0 : Nat) : Int) = _ from atI_nat rfl), ?_⟩
          walk_at "g"
          refine ⟨hz100 _ hn0, ?_⟩
          rw [dig_str hn0]
          refine ⟨_, _, rfl, rfl, by rw [str_len, str_len, sizeLine_eq]; show 0 + _ ≤ _; omega, ?_⟩
          rw [SX.S_cat]
          exact hN _ _ ⟨rfl, rfl⟩
        · rw [if_neg c] at eu
          subst eu
          rw [decide_eq_false (wrP_ne hpt c)]
          walk_at "g"
          refine ⟨by rw [str_len, str_sl, str_len, sizeLine_eq]; show _ + 1 ≤ _; omega, ?_⟩
          rw [str_sl, SX.S_cat]
          walk_at "g"
          refine ⟨b, _, _, V.int (n0 : Int), rfl, rfl, SqT.of hb', (show atI (((n0 :: tl).map fun (n : Nat) => (n : Int)).map V.int) ((0 : Nat) : Int) = _ from atI_nat rfl), ?_⟩
          walk_at "g"
          refine ⟨hz100 _ hn0, ?_⟩
          rw [dig_str hn0]
          refine ⟨_, _, rfl, rfl, by rw [str_len, str_len, sizeLine_eq]; omega, ?_⟩
          rw [SX.S_cat]
          exact hN _ _ ⟨rfl, rfl⟩
      · obtain ⟨rfl, rfl⟩ := c
        walk_at "g"
        refine ⟨b, _, rfl, .inr (SqT.of hb'), ?_⟩
        walk_at "g"
        match tl, hg, hb', eq with
        | [], hg, hb', eq =>
          rw [decide_eq_false (show ¬ V.int ((((n0 :: ([] : List Nat)).map fun (n : Nat) => (n : Int)).map V.int).length : Int) = V.int 2 from fun z => by injection z with z; exact absurd (show (1 : Int) = 2 from z) (by decide))]
          walk_at "g"
          refine ⟨⟨some (.ref b), ?_⟩, sm⟩
          rw [eq]
          rfl
        | [n1], hg, hb', eq =>
          have hn1 := hg.2.2 n1 (by simp)
          rw [decide_eq_true (show V.int ((((n0 :: [n1]).map fun (n : Nat) => (n : Int)).map V.int).length : Int) = V.int 2 from rfl)]
          walk_at "g"
          refine ⟨by rw [str_len, str_col, str_len, List.length_append, sizeLine_eq]; show _ + 1 ≤ _; omega, ?_⟩
          rw [str_col, SX.S_cat]
          walk_at "g"
          refine ⟨hz100 _ hn1, ?_⟩
          rw [show (Str.ofString (toString ((fun (n : Nat) => (n : Int)) n1))) = S (dig n1) from dig_str hn1]
          have d1 := dl n1
          refine ⟨_, _, rfl, rfl, by rw [str_len, str_len, List.length_append, List.length_append, sizeLine_eq]; show _ + 1 + _ ≤ _; omega, ?_⟩
          rw [SX.S_cat]
          walk_at "g"
          refine ⟨⟨some (.ref b), ?_⟩, sm⟩
          rw [eq]
          have : wrS [n0, n1] = dig n0 ++ [58] ++ dig n1 := join_cons _ _ (by simp)
          rw [this]
          simp only [List.append_assoc]
          rfl
        | _ :: _ :: _, hg, _, _ => exact absurd hg.2.1 (by simp)
    · obtain ⟨⟨y2, rfl⟩, sm⟩ := z
      rw [lx, List.take_length]
      walk_at "g"
      rw [str_emp, S_eq]
      by_cases c : p = []
      · subst c
        rw [decide_eq_true (show wrP [] = [] from rfl)]
        walk_at "g"
        rw [str_dot]
        exact q _ sm
      · rw [decide_eq_false (wrP_ne hp c)]
        walk_at "g"
        have q' := q _ sm
        rw [show wrT p = wrP p by unfold wrT; rw [if_neg c]] at q'
        exact q'
end
end D

namespace D
open PySem PySem.Spec PyProof.Rows L2
local macro_rules | `(tactic| walk_at "st") => `(tactic| first | exact SqT.of (by assumption) | exact Or.inl (by assumption) | exact SqT.of upd_same | fail "st")
local macro_rules | `(tactic| walk_at "ixt") => `(tactic| refine ⟨_, _, _, _, rfl, rfl, (by walk_at "st" : SqT _ _ _ _), by rfl, ?_⟩)
local macro_rules | `(tactic| walk_at "sq") => `(tactic| first | exact SqL.of (by assumption) | assumption | exact Or.inl (by assumption) | exact SqL.of upd_same | fail "sq")
local macro_rules | `(tactic| walk_at "ix") => `(tactic| refine ⟨_, _, _, _, rfl, rfl, (by walk_at "sq" : SqL _ _ _ _), by rfl, ?_⟩)
local macro_rules | `(tactic| walk_at "set") => `(tactic| refine ⟨_, _, _, _, rfl, rfl, by first | assumption | exact upd_same, by rfl, ?_⟩)
local macro_rules | `(tactic| walk_at "len") => `(tactic| refine ⟨_, _, rfl, Or.inl (by walk_at "sq" : SqL _ _ _ _), ?_⟩)
local macro_rules | `(tactic| walk_at "g") => `(tactic| repeat (first | refine ⟨_, rfl, ?_⟩ | refine ⟨_, _, rfl, rfl, ?_⟩ | refine ⟨Or.inr (by decide), ?_⟩ | refine ⟨Or.inl (by decide), ?_⟩ | refine ⟨(by decide : (0 : Int) < _), ?_⟩ | refine ⟨(⟨by decide, by decide⟩ : CDiv _ _), ?_⟩ | refine ⟨(⟨by decide, by decide, by decide⟩ : CPow _ _), ?_⟩ | refine Or.inl ⟨_, rfl, ?_⟩ | refine ⟨rfl, ?_⟩ | walk_at "ix" | walk_at "ixt" | walk_at "len" | fail "g"))
local macro_rules | `(tactic| walk_at "if") => `(tactic| refine ite2 (fun e => ?_) (fun e => ?_))
section
variable {P : Program} {w : World} {K : PySem.W.Frag} {mg : Str → Option Value} {base : Heap}
def Told (l : List Nat) (o : Option (List (List Nat))) : Prop := l = [46] ∧ o = some [] ∨ l ≠ [46] ∧ o = run [] [] [] (l ++ [47])
def sp_placeof (K : PySem.W.Frag) : Sp := fun vs H Q _ => ∃ (l : List Nat) (M : Ms), vs = [.str (S l)] ∧ l.length ≤ 50000 ∧ Mk M H ∧
  ((∀ H', Same H H' → Told l none → Q .non H') ∧ (∀ H' v p, Same H H' → Told l (some p) → Rp M H' v (plD p) → Q v H'))
theorem in_ten (c : Nat) : decide (c ∈ (Str.ofString "0123456789").cps.toList) = isD c := by
  rw [show (Str.ofString "0123456789").cps.toList = [48, 49, 50, 51, 52, 53, 54, 55, 56, 57] from by decide +kernel]
  unfold isD
  rw [decide_eq_decide]
  simp only [List.mem_cons, List.not_mem_nil, or_false]
  omega
/-- what was read of a number -/
def okd (d : List Nat) : Prop := d = [] ∨ isNum d = true
theorem okd_snoc {d : List Nat} {c : Nat} (h : okd d) (hc : isD c = true) (h2 : ¬ (d.length = 2 ∨ d = [48])) : isNum (d ++ [c]) = true := by
  have hc2 := of_decide_eq_true hc
  rcases h with z | z
  · subst z
    have := isNum_one (a := c - 48) (by omega)
    rw [show 48 + (c - 48) = c by omega] at this
    exact this
  · rcases isNum_cases z with ⟨a, rfl, ha⟩ | ⟨a, b, rfl, _⟩
    · have a0 : a ≠ 0 := fun z => h2 (.inr (by rw [z]))
      have := isNum_two (a := a) (b := c - 48) (by omega) ha (by omega)
      rw [show 48 + (c - 48) = c by omega] at this
      exact this
    · exact absurd (.inl rfl) h2
theorem okd_len {d : List Nat} (h : okd d) : d.length ≤ 2 := by
  rcases h with rfl | h
  · exact Nat.zero_le _
  · rcases isNum_cases h with ⟨a, rfl, _⟩ | ⟨a, b, rfl, _⟩ <;> simp
/-- the steps read so far -/
def PlsAt (M : Ms) (H : Hp) (xs : List V) (P : List (List Nat)) : Prop := xs.length = P.length ∧ ∀ (j : Nat) (s : List Nat), P[j]? = some s → ∃ p, xs[j]? = some (.ref p) ∧ ¬ M p ∧ H p = some (.tup (stV s))
theorem PlsAt.ts {M : Ms} {H H' : Hp} {xs : List V} {P : List (List Nat)} (h : PlsAt M H xs P) (f : ∀ p l, H p = some (.tup l) → H' p = some (.tup l)) : PlsAt M H' xs P := ⟨h.1, fun j s hj => by
  obtain ⟨p, h1, h2, h3⟩ := h.2 j s hj
  exact ⟨p, h1, h2, f _ _ h3⟩⟩
theorem PlsAt.snoc {M : Ms} {H : Hp} {xs : List V} {P : List (List Nat)} {p : Addr} {s : List Nat} (h : PlsAt M H xs P) (n : ¬ M p) (e : H p = some (.tup (stV s))) : PlsAt M H (xs ++ [.ref p]) (P ++ [s]) := by
  refine ⟨by rw [List.length_append, List.length_append, h.1]; rfl, fun j t hj => ?_⟩
  by_cases c : j < P.length
  · rw [List.getElem?_append_left c] at hj
    rw [List.getElem?_append_left (by rw [h.1]; exact c)]
    exact h.2 j t hj
  · rw [List.getElem?_append_right (by omega)] at hj
    rw [List.getElem?_append_right (by rw [h.1]; omega), h.1]
    cases k : j - P.length with
    | zero => rw [k] at hj; cases hj; exact ⟨p, rfl, n, e⟩
    | succ m => rw [k] at hj; simp at hj
theorem PlsAt.rp {M : Ms} {H : Hp} : ∀ {P : List (List Nat)} {xs : List V}, PlsAt M H xs P → RpAll M H xs (P.map stD)
  | [], xs, h => by
    have : xs = [] := List.length_eq_zero_iff.mp h.1
    subst this
    exact .nil
  | s :: r, xs, h => by
    cases xs with
    | nil => exact absurd h.1 (by simp)
    | cons x xs =>
      obtain ⟨p, h1, h2, h3⟩ := h.2 0 s rfl
      cases h1
      refine .cons (.tup h2 (.inl h3) ?_) (PlsAt.rp ⟨by have := h.1; simpa using this, fun j t hj => h.2 (j + 1) t hj⟩)
      have := RpAll.ints (M := M) (H := H) (s.map fun (n : Nat) => (n : Int))
      rw [List.map_map] at this
      exact this
theorem ok_placeof (T : Txt K mg) : FnOk P w K mg base CX0 1 T.f__law_place_of T.d__law_place_of ["_law_text"] (sp_placeof K) := by
  refine T.F__law_place_of.ok sc__law_place_of (fun vs H Q E h => ?_) (fun cdv A outer s H vs Q E hr h => ?_)
  · obtain ⟨_, _, rfl, _⟩ := h
    rfl
  · obtain ⟨l, M, rfl, hl, hM, q1, q2⟩ := h
    have slen : ∀ l : List Nat, (S l).length = l.length := SX.S_len
    refine ⟨_, (pss_cons (ps_if (pt_cmpR op_eq (pv 0) pe_str (nomark _)) (pss_one (ps_ret (pe_tup pa_nil))) pss_nil)
      (pss_cons (ps_set (i := 1) sc__law_place_of.nd rfl (Or.inl rfl) (pe_lst pa_nil))
      (pss_cons (ps_set (i := 2) sc__law_place_of.nd rfl (Or.inl rfl) (pe_lst pa_nil))
      (pss_cons (ps_set (i := 3) sc__law_place_of.nd rfl (Or.inl rfl) pe_str)
      (pss_cons (ps_for PassesOwn.never rfl (pi_str (pe_op op_add_str (pv 0) pe_str)) (pg_name (i := 4) sc__law_place_of.nd rfl (Or.inl rfl)) (pss_one (ps_if (pt_cmpR op_in_sign (pv 4) pe_str (by rfl)) (pss_cons (ps_if (PW.pt (pw_or (pt_cmpR op_eq (pe_callB call_len_str (by rfl) T.m_len PySem.boot_len (pa_cons (pv 3) pa_nil)) pe_int (nomark _)) (pw_or1 (pt_cmpR op_eq (pv 3) pe_str (nomark _))))) (pss_one (ps_ret pe_non)) pss_nil)
      (pss_one (ps_set (i := 3) sc__law_place_of.nd rfl (Or.inl rfl) (pe_op op_add_str (pv 3) (pv 4))))) (pss_one (ps_if (PW.pt (pw_or (pt_cmpR op_eq (pv 4) pe_str (nomark _)) (pw_or1 (pt_cmpR op_eq (pv 4) pe_str (nomark _))))) (pss_cons (ps_if (PW.pt (pw_or (pt_cmpR op_eq (pv 3) pe_str (nomark _)) (pw_or1 (pt_cmpR op_eq (pe_callB (call_lenK (K := K) rfl) (by rfl) T.m_len PySem.boot_len (pa_cons (pv 2) pa_nil)) pe_int (nomark _))))) (pss_one (ps_ret pe_non)) pss_nil)
      (pss_cons (ps_expr (pe_bmK2 (K := K) rfl PySem.F.plainAttrs_list PySem.F.slot_list_append PySem.F.type_list_append mt_append (pv 2) (pa_cons (pe_callTy call_int_str (by rfl) T.m_int (by decide +kernel) (pa_cons (pv 3) pa_nil)) pa_nil)))
      (pss_cons (ps_set (i := 3) sc__law_place_of.nd rfl (Or.inl rfl) pe_str)
      (pss_one (ps_if (pt_cmpR op_eq (pv 4) pe_str (nomark _)) (pss_cons (ps_expr (pe_bmK2 (K := K) rfl PySem.F.plainAttrs_list PySem.F.slot_list_append PySem.F.type_list_append mt_append (pv 1) (pa_cons (pe_callTy (call_tupleK (K := K) rfl) (by rfl) T.m_tuple (by decide +kernel) (pa_cons (pv 2) pa_nil)) pa_nil)))
      (pss_one (ps_set (i := 2) sc__law_place_of.nd rfl (Or.inl rfl) (pe_lst pa_nil)))) pss_nil))))) (pss_one (ps_ret pe_non)))))))
      (pss_one (ps_ret (pe_callTy (call_tupleK (K := K) rfl) (by rfl) T.m_tuple (by decide +kernel) (pa_cons (pv 1) pa_nil))))))))), ?_⟩
    walk_at "g"
    rw [str_dot, S_eq]
    by_cases c : l = [46]
    · rw [decide_eq_true c]
      walk_at "g"
      refine ⟨szK rfl, fun p hp => ?_⟩
      exact q2 _ _ [] (same_new hp) (.inl ⟨c, rfl⟩) (.tup (hM.out hp) (.inl upd_same) .nil)
    · rw [decide_eq_false c]
      walk_at "g"
      refine ⟨szK rfl, fun o ho => ?_⟩
      have s1 : Same H (upd H o (.lst [])) := same_new ho
      have e1 : upd H o (.lst []) o = some (.lst []) := upd_same
      generalize upd H o (.lst []) = H1 at s1 e1
      walk_at "g"
      refine ⟨szK rfl, fun t0 ht0 => ?_⟩
      have ot0 : o ≠ t0 := fun z => by rw [← z, e1] at ht0; cases ht0
      have s2 : Same H1 (upd H1 t0 (.lst [])) := same_new ht0
      have e2 : upd H1 t0 (.lst []) t0 = some (.lst []) := upd_same
      have ht0' := s1.free ht0
      generalize upd H1 t0 (.lst []) = H2 at s2 e2
      have s12 := s1.trans s2
      have eo2 := s2 _ _ e1
      have hM2 := hM.gr (Gr.same s12)
      walk_at "g"
      refine ⟨by rw [slen, str_sl, slen, sizeLine_eq]; show _ + 1 ≤ _; omega, ?_⟩
      rw [str_sl, SX.S_cat]
      refine ⟨S (l ++ [47]), rfl, ?_⟩
      obtain ⟨full, efull⟩ : ∃ f, f = run [] [] [] (l ++ [47]) := ⟨_, rfl⟩
      have lf : (l ++ [47]).length ≤ 50001 := by rw [List.length_append]; show _ + 1 ≤ _; omega
      refine for_txt (z := S (l ++ [47])) (fun i σ H' => ∃ (t : Addr) (y5 : Option V) (xs : List V) (P : List (List Nat)) (st d : List Nat), σ = [some (.str (S l)), some (.ref o), some (.ref t), some (.str (S d)), y5] ∧ H t = none ∧ t ≠ o ∧ Same H H' ∧ H' o = some (.lst xs) ∧ H' t = some (.lst (stV st)) ∧ PlsAt M H' xs P ∧ P.length ≤ i ∧ st.length ≤ 2 ∧ okd d ∧ full = run P st d ((l ++ [47]).drop i)) ⟨t0, none, [], [], [], [], by rw [str_emp]; rfl, ht0', Ne.symm ot0, s12, eo2, e2, ⟨rfl, fun j s h => by simp at h⟩, Nat.le_refl _, by decide, .inl rfl, efull⟩ (fun i c σ H' hc p => ?_) (fun σ H' p => ?_)
      · obtain ⟨t, y5, xs, P, st, d, rfl, ht, to, sm, eo, et, rx, lP, lst2, hd, hf⟩ := p
        have hi : i < (l ++ [47]).length := (List.getElem?_eq_some_iff.mp hc).1
        have hc' : (l ++ [47])[i]? = some c := hc
        have edr : (l ++ [47]).drop i = c :: (l ++ [47]).drop (i + 1) := by
          rw [List.drop_eq_getElem_cons hi]
          congr 1
          have := List.getElem?_eq_getElem hi
          rw [hc'] at this
          exact (Option.some.inj this).symm
        rw [edr, run_cons] at hf
        have ld := okd_len hd
        have toldN : full = none → Told l none := fun z => .inr ⟨by assumption, by rw [← efull, z]⟩
        walk_at "g"
        rw [in_ten]
        by_cases cd : isD c = true
        · rw [if_pos cd] at hf
          rw [cd]
          walk_at "g"
          refine ⟨by rw [slen]; exact Nat.le_of_lt (small1000 (by omega)), ?_⟩
          walk_at "g"
          rw [slen]
          by_cases c2 : d.length = 2
          · rw [decide_eq_true (show V.int (d.length : Int) = V.int 2 by rw [c2]; rfl)]
            walk_at "g"
            rw [if_pos (.inl c2)] at hf
            exact q1 _ sm (toldN hf)
          · rw [decide_eq_false (show ¬ V.int (d.length : Int) = V.int 2 from fun z => c2 (by injection z; omega))]
            walk_at "g"
            rw [str_0, S_eq]
            by_cases c3 : d = [48]
            · rw [decide_eq_true c3]
              walk_at "g"
              rw [if_pos (.inr c3)] at hf
              exact q1 _ sm (toldN hf)
            · rw [decide_eq_false c3]
              walk_at "g"
              rw [if_neg (fun z => z.elim c2 c3)] at hf
              refine ⟨by rw [slen, sizeLine_eq]; show _ + 1 ≤ _; omega, ?_⟩
              rw [S_one, SX.S_cat]
              exact ⟨t, _, xs, P, st, d ++ [c], rfl, ht, to, sm, eo, et, rx, by omega, lst2, .inr (okd_snoc hd cd (fun z => z.elim c2 c3)), hf⟩
        · rw [if_neg cd] at hf
          rw [Bool.eq_false_iff.mpr cd]
          walk_at "g"
          have cs : ∀ k : Nat, decide (V.str ⟨#[c]⟩ = V.str (S [k])) = decide (c = k) := fun k => by
            rw [S_one, S_eq, decide_eq_decide]
            simp
          rw [str_col, cs]
          by_cases ck : c = 58 ∨ c = 47
          · rw [if_pos ck] at hf
            rcases ck with rfl | rfl
            · rw [decide_eq_true rfl]
              walk_at "g"
              rw [str_emp, S_eq]
              by_cases c3 : d = []
              · rw [decide_eq_true c3]
                walk_at "g"
                rw [if_pos (.inl c3)] at hf
                exact q1 _ sm (toldN hf)
              rw [decide_eq_false c3]
              walk_at "g"
              have lst' : ((stV st).length : Int) = (st.length : Int) := by unfold stV; rw [List.length_map]
              rw [lst']
              by_cases c4 : st.length = 2
              · rw [decide_eq_true (show V.int (st.length : Int) = V.int 2 by rw [c4]; rfl)]
                walk_at "g"
                rw [if_pos (.inr c4)] at hf
                exact q1 _ sm (toldN hf)
              rw [decide_eq_false (show ¬ V.int (st.length : Int) = V.int 2 from fun z => c4 (by injection z; omega))]
              rw [if_neg (fun z => z.elim c3 c4)] at hf
              have hn := hd.resolve_left c3
              walk_at "g"
              refine ⟨.inl ⟨rfl, _, SqL.of et⟩, ?_⟩
              walk_at "g"
              refine ⟨_, _, rfl, int_text hn, by rw [slen]; omega, ?_⟩
              refine ⟨t, _, _, rfl, rfl, et, by unfold stV; rw [List.length_map]; exact small1000 (by omega), ?_⟩
              have e5 : upd H' t (.lst (stV st ++ [V.int ((valN d : Nat) : Int)])) t = some (.lst (stV (st ++ [valN d]))) := by rw [upd_same]; unfold stV; rw [List.map_append]; rfl
              have s5 : Sx (one t) H' (upd H' t (.lst (stV st ++ [V.int ((valN d : Nat) : Int)]))) := Sx.put rfl
              have m5 : Same H (upd H' t (.lst (stV st ++ [V.int ((valN d : Nat) : Int)]))) := same_put sm ht
              have g5 : Gr H' (upd H' t (.lst (stV st ++ [V.int ((valN d : Nat) : Int)]))) := Gr.upd
              generalize upd H' t (.lst (stV st ++ [V.int ((valN d : Nat) : Int)])) = H5 at e5 s5 m5 g5
              have eo5 := s5 _ _ (Ne.symm to) eo
              have rx5 : PlsAt M H5 xs P := rx.ts fun p l h => s5 _ _ (fun z => by rw [show p = t from z, et] at h; cases h) h
              rw [if_neg (by decide)] at hf
              walk_at "g"
              rw [cs, decide_eq_false (by decide)]
              walk_at "g"
              exact ⟨t, _, xs, P, st ++ [valN d], [], rfl, ht, to, m5, eo5, e5, rx5, by omega, by rw [List.length_append]; show _ + 1 ≤ 2; omega, .inl rfl, hf⟩
            · rw [decide_eq_false (by decide)]
              walk_at "g"
              rw [str_emp, S_eq]
              by_cases c3 : d = []
              · rw [decide_eq_true c3]
                walk_at "g"
                rw [if_pos (.inl c3)] at hf
                exact q1 _ sm (toldN hf)
              rw [decide_eq_false c3]
              walk_at "g"
              have lst' : ((stV st).length : Int) = (st.length : Int) := by unfold stV; rw [List.length_map]
              rw [lst']
              by_cases c4 : st.length = 2
              · rw [decide_eq_true (show V.int (st.length : Int) = V.int 2 by rw [c4]; rfl)]
                walk_at "g"
                rw [if_pos (.inr c4)] at hf
                exact q1 _ sm (toldN hf)
              rw [decide_eq_false (show ¬ V.int (st.length : Int) = V.int 2 from fun z => c4 (by injection z; omega))]
              rw [if_neg (fun z => z.elim c3 c4)] at hf
              have hn := hd.resolve_left c3
              walk_at "g"
              refine ⟨.inl ⟨rfl, _, SqL.of et⟩, ?_⟩
              walk_at "g"
              refine ⟨_, _, rfl, int_text hn, by rw [slen]; omega, ?_⟩
              refine ⟨t, _, _, rfl, rfl, et, by unfold stV; rw [List.length_map]; exact small1000 (by omega), ?_⟩
              have e5 : upd H' t (.lst (stV st ++ [V.int ((valN d : Nat) : Int)])) t = some (.lst (stV (st ++ [valN d]))) := by rw [upd_same]; unfold stV; rw [List.map_append]; rfl
              have s5 : Sx (one t) H' (upd H' t (.lst (stV st ++ [V.int ((valN d : Nat) : Int)]))) := Sx.put rfl
              have m5 : Same H (upd H' t (.lst (stV st ++ [V.int ((valN d : Nat) : Int)]))) := same_put sm ht
              have g5 : Gr H' (upd H' t (.lst (stV st ++ [V.int ((valN d : Nat) : Int)]))) := Gr.upd
              generalize upd H' t (.lst (stV st ++ [V.int ((valN d : Nat) : Int)])) = H5 at e5 s5 m5 g5
              have eo5 := s5 _ _ (Ne.symm to) eo
              have rx5 : PlsAt M H5 xs P := rx.ts fun p l h => s5 _ _ (fun z => by rw [show p = t from z, et] at h; cases h) h
              rw [if_pos rfl] at hf
              walk_at "g"
              refine ⟨.inl ⟨rfl, _, SqL.of eo5⟩, ?_⟩
              walk_at "g"
              refine ⟨t, _, rfl, .inl ⟨SqL.of e5, fun p6 hp6 => ?_⟩⟩
              have s6 : Same H5 (upd H5 p6 (.tup (stV (st ++ [valN d])))) := same_new hp6
              have e6 : upd H5 p6 (.tup (stV (st ++ [valN d]))) p6 = some (.tup (stV (st ++ [valN d]))) := upd_same
              have M5 : Mk (also M o) H5 := (hM.gr (Gr.same m5)).also (ne_none eo5)
              have np6 := M5.out hp6
              generalize upd H5 p6 (.tup (stV (st ++ [valN d]))) = H6 at s6 e6
              have eo6 := s6 _ _ eo5
              have lxs : xs.length = P.length := rx.1
              refine ⟨o, xs, _, rfl, rfl, eo6, small1000000 (by omega), ?_⟩
              have s7 : Sx (one o) H6 (upd H6 o (.lst (xs ++ [.ref p6]))) := Sx.put rfl
              have e7 : upd H6 o (.lst (xs ++ [.ref p6])) o = some (.lst (xs ++ [.ref p6])) := upd_same
              have m7 : Same H (upd H6 o (.lst (xs ++ [.ref p6]))) := same_put (m5.trans s6) ho
              generalize upd H6 o (.lst (xs ++ [.ref p6])) = H7 at s7 e7 m7
              have rx7 : PlsAt M H7 (xs ++ [.ref p6]) (P ++ [st ++ [valN d]]) := ((rx5.ts fun p l h => s6 _ _ h).snoc (fun z => np6 (.inl z)) e6).ts fun p l h => s7 _ _ (fun z => by rw [show p = o from z, eo6] at h; cases h) h
              walk_at "g"
              refine ⟨szK rfl, fun t8 ht8 => ?_⟩
              have s8 : Same H7 (upd H7 t8 (.lst [])) := same_new ht8
              have e8 : upd H7 t8 (.lst []) t8 = some (.lst []) := upd_same
              have t8o : t8 ≠ o := fun z => by rw [z, e7] at ht8; cases ht8
              have ht8' := m7.free ht8
              generalize upd H7 t8 (.lst []) = H8 at s8 e8
              exact ⟨t8, _, xs ++ [.ref p6], P ++ [st ++ [valN d]], [], [], rfl, ht8', t8o, m7.trans s8, s8 _ _ e7, e8, rx7.ts fun p l h => s8 _ _ h, by rw [List.length_append]; show _ + 1 ≤ _; omega, Nat.zero_le _, .inl rfl, hf⟩
          · rw [decide_eq_false (fun z => ck (.inl z))]
            walk_at "g"
            rw [cs, decide_eq_false (fun z => ck (.inr z))]
            walk_at "g"
            rw [if_neg ck] at hf
            exact q1 _ sm (toldN hf)
      · obtain ⟨t, y5, xs, P, st, d, rfl, ht, to, sm, eo, et, rx, lP, lst2, hd, hf⟩ := p
        rw [List.drop_of_length_le (show (l ++ [47]).length ≤ (S (l ++ [47])).cps.toList.length from Nat.le_refl _)] at hf
        have hf : full = some P := by rw [hf, run]
        walk_at "g"
        refine ⟨o, xs, rfl, .inl ⟨SqL.of eo, fun p9 hp9 => ?_⟩⟩
        refine q2 _ _ P (sm.trans (same_new hp9)) (.inr ⟨c, by rw [← efull, hf]⟩) ?_
        exact .tup ((hM.gr (Gr.same sm)).out hp9) (.inl upd_same) ((rx.ts fun p l h => same_new hp9 _ _ h).rp)
def sp_spoilt (K : PySem.W.Frag) : Sp := fun vs H Q _ => ∃ (b : Addr) (l : List Nat) (M : Ms), vs = [.ref b, .str (S l)] ∧ Bag K M H b ∧ l.length ≤ 40000 ∧ ∀ H' l', At b H H' → Bag K M H' b → l'.length ≤ l.length + 3 → Q (.str (S l')) H'
theorem S_sg (z : Str) : z = S (sg z) := sg_ext rfl
theorem ok_spoilt (T : Txt K mg) : FnOk P w K mg base CX0 3 T.f__law_spoilt_text T.d__law_spoilt_text ["_law_bag_here", "_law_text"] (sp_spoilt K) := by
  have G__law_pick := ok_pick (P := P) (w := w) (base := base) T
  refine T.F__law_spoilt_text.ok sc__law_spoilt_text (fun vs H Q E h => ?_) (fun cdv A outer s H vs Q E hr h => ?_)
  · obtain ⟨_, _, _, rfl, _⟩ := h
    rfl
  · obtain ⟨b, l, M, rfl, hB, hl, q⟩ := h
    have slen : ∀ l : List Nat, (S l).length = l.length := SX.S_len
    refine ⟨_, (pss_cons (ps_set (i := 2) sc__law_spoilt_text.nd rfl (Or.inl rfl) pe_str)
      (pss_cons (ps_for PassesOwn.never rfl (pi_range1 (by rfl) T.m_range (pa_cons (pe_op op_add pe_int (pe_call G__law_pick (hr.mono (by omega)) (by rfl) T.g__law_pick T.F__law_pick.kp T.b__law_pick .nil pass0 (pa_cons (pv 0) (pa_cons pe_int pa_nil)))) pa_nil)) (pg_name (i := 3) sc__law_spoilt_text.nd rfl (Or.inl rfl)) (pss_cons (ps_set (i := 4) sc__law_spoilt_text.nd rfl (Or.inl rfl) (pe_call G__law_pick (hr.mono (by omega)) (by rfl) T.g__law_pick T.F__law_pick.kp T.b__law_pick .nil pass0 (pa_cons (pv 0) (pa_cons (pe_op op_add (pe_callB call_len_str (by rfl) T.m_len PySem.boot_len (pa_cons (pv 1) pa_nil)) pe_int) pa_nil))))
      (pss_cons (ps_set (i := 5) sc__law_spoilt_text.nd rfl (Or.inl rfl) (pe_ix ix_str (pv 2) (pe_call G__law_pick (hr.mono (by omega)) (by rfl) T.g__law_pick T.F__law_pick.kp T.b__law_pick .nil pass0 (pa_cons (pv 0) (pa_cons (pe_callB call_len_str (by rfl) T.m_len PySem.boot_len (pa_cons (pv 2) pa_nil)) pa_nil))) (fun _ _ => rfl)))
      (pss_cons (ps_set (i := 6) sc__law_spoilt_text.nd rfl (Or.inl rfl) (pe_call G__law_pick (hr.mono (by omega)) (by rfl) T.g__law_pick T.F__law_pick.kp T.b__law_pick .nil pass0 (pa_cons (pv 0) (pa_cons pe_int pa_nil))))
      (pss_one (ps_set (i := 1) sc__law_spoilt_text.nd rfl (Or.inl rfl) (pe_op op_add_str (pe_op op_add_str (pe_slice sl_str (pv 1) po_none (po_some (pv 4))) (pe_ifExp (pt_cmpR op_gt (pv 6) pe_int (nomark _)) (pv 5) pe_str)) (pe_slice sl_str (pv 1) (po_some (pe_op op_add (pv 4) (pe_ifExp (pt_cmpR op_lt (pv 6) pe_int (nomark _)) pe_int pe_int))) po_none))))))))
      (pss_one (ps_ret (pv 1))))), ?_⟩
    walk_at "g"
    generalize hz : Str.ofString "0123456789012::://..-+_ ax" = z
    have lz : z.length = 26 := by rw [← hz]; decide +kernel
    clear hz
    refine ⟨b, 3, M, rfl, hB, by omega, by omega, fun n1 H1 a0 a1 hA1 hB1 => ?_⟩
    walk_at "g"
    refine ⟨by omega, by omega, ?_⟩
    refine for_range (lo := 0) (n := (1 + n1).toNat) (fun i σ H' => (∃ y3 y4 y5 y6 l', σ = [some (.ref b), some (.str (S l')), some (.str z), y3, y4, y5, y6] ∧ l'.length ≤ l.length + i) ∧ At b H H' ∧ Bag K M H' b) ⟨⟨_, _, _, _, l, rfl, Nat.le_refl _⟩, hA1, hB1⟩ (fun i σ H' hi p => ?_) (fun σ H' p => ?_)
    · obtain ⟨⟨y3, y4, y5, y6, l', rfl, ll⟩, hA, hBi⟩ := p
      walk_at "g"
      refine ⟨by rw [slen]; exact Nat.le_of_lt (small1000000 (by omega)), ?_⟩
      walk_at "g"
      rw [slen]
      refine ⟨b, _, M, rfl, hBi, by omega, by omega, fun n2 H2 b0 b1 hA2 hB2 => ?_⟩
      obtain ⟨j, rfl⟩ : ∃ j : Nat, n2 = (j : Int) := ⟨n2.toNat, by omega⟩
      walk_at "g"
      refine ⟨by rw [lz]; decide, ?_⟩
      rw [lz]
      refine ⟨b, _, M, rfl, hB2, by omega, by omega, fun n3 H3 c0 c1 hA3 hB3 => ?_⟩
      obtain ⟨k, hk, -⟩ := at_pos (xs := z.cps.toList) c0 (by rw [show z.cps.toList.length = z.length from Array.length_toList, lz]; omega)
      refine ⟨z, n3, k, rfl, rfl, by rw [lz, sizeLine_eq]; decide, hk, ?_⟩
      walk_at "g"
      refine ⟨b, 3, M, rfl, hB3, by omega, by omega, fun n4 H4 d0 d1 hA4 hB4 => ?_⟩
      have hA' : At b H H4 := hA.trans (hA2.trans (hA3.trans hA4))
      have ecut : cutS (S l') none (some (j : Int)) = S (l'.take j) := sg_ext (sg_cut _ _)
      have efrom : ∀ m : Nat, cutS (S l') (some (m : Int)) none = S (l'.drop m) := fun m => sg_ext (sg_from _ _)
      have lt1 : (l'.take j).length ≤ j := by rw [List.length_take]; omega
      have ld : ∀ m : Nat, (l'.drop m).length = l'.length - m := fun m => List.length_drop
      walk_at "g"
      refine ⟨by rw [slen]; exact Nat.le_of_lt (small1000000 (by omega)), ?_⟩
      rw [ecut]
      walk_at "g"
      have ej1 : (j : Int) + 1 = ((j + 1 : Nat) : Int) := by omega
      have ej0 : (j : Int) + 0 = ((j : Nat) : Int) := by omega
      by_cases c1 : 0 < n4
      · rw [decide_eq_true c1]
        walk_at "g"
        refine ⟨by rw [slen, sizeLine_eq]; show _ + 1 ≤ _; omega, ?_⟩
        rw [S_one, SX.S_cat]
        walk_at "g"
        by_cases c2 : n4 < 2
        · rw [decide_eq_true c2]
          walk_at "g"
          refine ⟨by rw [slen]; exact Nat.le_of_lt (small1000000 (by omega)), ?_⟩
          rw [ej1, efrom]
          refine ⟨_, _, rfl, rfl, by rw [slen, slen, List.length_append, ld, sizeLine_eq]; show _ + 1 + _ ≤ _; omega, ?_⟩
          rw [SX.S_cat]
          exact ⟨⟨_, _, _, _, _, rfl, by rw [List.length_append, List.length_append, ld]; show _ + 1 + _ ≤ _; omega⟩, hA', hB4⟩
        · rw [decide_eq_false c2]
          walk_at "g"
          refine ⟨by rw [slen]; exact Nat.le_of_lt (small1000000 (by omega)), ?_⟩
          rw [ej0, efrom]
          refine ⟨_, _, rfl, rfl, by rw [slen, slen, List.length_append, ld, sizeLine_eq]; show _ + 1 + _ ≤ _; omega, ?_⟩
          rw [SX.S_cat]
          exact ⟨⟨_, _, _, _, _, rfl, by rw [List.length_append, List.length_append, ld]; show _ + 1 + _ ≤ _; omega⟩, hA', hB4⟩
      · rw [decide_eq_false c1]
        walk_at "g"
        refine ⟨by rw [slen, str_emp, slen, sizeLine_eq]; show _ + 0 ≤ _; omega, ?_⟩
        rw [str_emp, SX.S_cat]
        walk_at "g"
        by_cases c2 : n4 < 2
        · rw [decide_eq_true c2]
          walk_at "g"
          refine ⟨by rw [slen]; exact Nat.le_of_lt (small1000000 (by omega)), ?_⟩
          rw [ej1, efrom]
          refine ⟨_, _, rfl, rfl, by rw [slen, slen, List.length_append, ld, sizeLine_eq]; show _ + 0 + _ ≤ _; omega, ?_⟩
          rw [SX.S_cat]
          exact ⟨⟨_, _, _, _, _, rfl, by rw [List.length_append, List.length_append, ld]; show _ + 0 + _ ≤ _; omega⟩, hA', hB4⟩
        · rw [decide_eq_false c2]
          walk_at "g"
          refine ⟨by rw [slen]; exact Nat.le_of_lt (small1000000 (by omega)), ?_⟩
          rw [ej0, efrom]
          refine ⟨_, _, rfl, rfl, by rw [slen, slen, List.length_append, ld, sizeLine_eq]; show _ + 0 + _ ≤ _; omega, ?_⟩
          rw [SX.S_cat]
          exact ⟨⟨_, _, _, _, _, rfl, by rw [List.length_append, List.length_append, ld]; show _ + 0 + _ ≤ _; omega⟩, hA', hB4⟩
    · obtain ⟨⟨y3, y4, y5, y6, l', rfl, ll⟩, hA, hBi⟩ := p
      walk_at "g"
      exact q _ l' hA hBi (by omega)
end
end D

namespace D
open PySem PySem.Spec PyProof.Rows L2
local macro_rules | `(tactic| walk_at "st") => `(tactic| first | exact SqT.of (by assumption) | exact Or.inl (by assumption) | exact SqT.of upd_same | fail "st")
local macro_rules | `(tactic| walk_at "ixt") => `(tactic| refine ⟨_, _, _, _, rfl, rfl, (by walk_at "st" : SqT _ _ _ _), by rfl, ?_⟩)
local macro_rules | `(tactic| walk_at "sq") => `(tactic| first | exact SqL.of (by assumption) | assumption | exact Or.inl (by assumption) | exact SqL.of upd_same | fail "sq")
local macro_rules | `(tactic| walk_at "ix") => `(tactic| refine ⟨_, _, _, _, rfl, rfl, (by walk_at "sq" : SqL _ _ _ _), by rfl, ?_⟩)
local macro_rules | `(tactic| walk_at "set") => `(tactic| refine ⟨_, _, _, _, rfl, rfl, by first | assumption | exact upd_same, by rfl, ?_⟩)
local macro_rules | `(tactic| walk_at "len") => `(tactic| refine ⟨_, _, rfl, Or.inl (by walk_at "sq" : SqL _ _ _ _), ?_⟩)
local macro_rules | `(tactic| walk_at "g") => `(tactic| repeat (first | refine ⟨_, rfl, ?_⟩ | refine ⟨_, _, rfl, rfl, ?_⟩ | refine ⟨Or.inr (by decide), ?_⟩ | refine ⟨Or.inl (by decide), ?_⟩ | refine ⟨(by decide : (0 : Int) < _), ?_⟩ | refine ⟨(⟨by decide, by decide⟩ : CDiv _ _), ?_⟩ | refine ⟨(⟨by decide, by decide, by decide⟩ : CPow _ _), ?_⟩ | refine Or.inl ⟨_, rfl, ?_⟩ | refine ⟨rfl, ?_⟩ | walk_at "ix" | walk_at "ixt" | walk_at "len" | fail "g"))
local macro_rules | `(tactic| walk_at "if") => `(tactic| refine ite2 (fun e => ?_) (fun e => ?_))
section
variable {P : Program} {w : World} {K : PySem.W.Frag} {mg : Str → Option Value} {base : Heap}
theorem st_bulk (s : List Nat) : PyData.bulk (stD s) = s.length := by
  show PyData.bulkAll ((s.map fun (n : Nat) => (n : Int)).map PyData.int) = s.length
  induction s with
  | nil => rfl
  | cons n r ih =>
    show PyData.bulk (PyData.int _) + 1 + PyData.bulkAll _ = r.length + 1
    rw [ih]
    show 0 + 1 + r.length = r.length + 1
    omega
theorem pl_bulk : ∀ p : List (List Nat), (∀ s ∈ p, goodS s) → PyData.bulkAll (p.map stD) ≤ 3 * p.length
  | [], _ => Nat.le_refl _
  | s :: r, h => by
    have i := pl_bulk r fun z hz => h z (List.mem_cons_of_mem _ hz)
    have := (h s List.mem_cons_self).2.1
    show PyData.bulk (stD s) + 1 + PyData.bulkAll _ ≤ 3 * (r.length + 1)
    rw [st_bulk]
    omega
theorem int_facts {n : Nat} (h : n < 100) : PyData.leavesShort 13 (.int (n : Int)) = true ∧ PyData.showable (.int (n : Int)) = true := by
  refine ⟨decide_eq_true (PyData.shown_int_le (by rw [Int.natAbs_natCast]; exact Nat.lt_of_lt_of_le h (by decide))), decide_eq_true ?_⟩
  exact Nat.lt_of_le_of_lt (Nat.log2_le_self _) (by omega)
theorem st_facts {s : List Nat} (h : ∀ n ∈ s, n < 100) : PyData.leavesShort 13 (stD s) = true ∧ PyData.showable (stD s) = true ∧ PyData.hasDict (stD s) = false := by
  show PyData.leavesShortAll 13 ((s.map fun (n : Nat) => (n : Int)).map PyData.int) = true ∧ PyData.showableAll ((s.map fun (n : Nat) => (n : Int)).map PyData.int) = true ∧ PyData.hasDictAll ((s.map fun (n : Nat) => (n : Int)).map PyData.int) = false
  induction s with
  | nil => exact ⟨rfl, rfl, rfl⟩
  | cons n r ih =>
    obtain ⟨i1, i2, i3⟩ := ih fun m hm => h m (List.mem_cons_of_mem _ hm)
    obtain ⟨j1, j2⟩ := int_facts (h n List.mem_cons_self)
    refine ⟨?_, ?_, ?_⟩
    · show (PyData.leavesShort 13 (.int (n : Int)) && _) = true
      rw [j1]
      exact i1
    · show (PyData.showable (.int (n : Int)) && _) = true
      rw [j2]
      exact i2
    · exact i3
theorem pl_facts : ∀ {p : List (List Nat)}, (∀ s ∈ p, goodS s) → PyData.leavesShortAll 13 (p.map stD) = true ∧ PyData.showableAll (p.map stD) = true ∧ PyData.hasDictAll (p.map stD) = false
  | [], _ => ⟨rfl, rfl, rfl⟩
  | s :: r, h => by
    obtain ⟨i1, i2, i3⟩ := pl_facts fun z hz => h z (List.mem_cons_of_mem _ hz)
    obtain ⟨j1, j2, j3⟩ := st_facts (h s List.mem_cons_self).2.2
    refine ⟨?_, ?_, ?_⟩
    · show (PyData.leavesShort 13 (stD s) && _) = true
      rw [j1]
      exact i1
    · show (PyData.showable (stD s) && _) = true
      rw [j2]
      exact i2
    · show (PyData.hasDict (stD s) || _) = false
      rw [j3]
      exact i3
/-- a place may be shown -/
theorem pl_show {p : List (List Nat)} (h : ∀ s ∈ p, goodS s) (hl : p.length ≤ 1000) : (plD p).showable = true ∧ (plD p).hasDict = false ∧ (plD p).depth ≤ 64 ∧ (plD p).shown.length ≤ sizeLine := by
  obtain ⟨h1, h2, h3⟩ := pl_facts h
  have h4 := sts_deep p
  have h5 := pl_bulk p h
  refine ⟨h2, h3, ?_, ?_⟩
  · show PyData.depth (.tuple _) ≤ 64
    simp only [PyData.depth]
    omega
  · have := PyData.shown_le_bulk 13 (by decide) (plD p) h1
    have hb : PyData.bulk (plD p) = PyData.bulkAll (p.map stD) := rfl
    rw [hb] at this
    rw [sizeLine_eq]
    omega
theorem non_show : PyData.none.showable = true ∧ PyData.none.hasDict = false ∧ PyData.none.depth ≤ 64 ∧ PyData.none.shown.length ≤ sizeLine := ⟨rfl, rfl, by decide +kernel, by rw [PyData.shown_none]; decide +kernel⟩
theorem wrP_mem {p : List (List Nat)} (h : ∀ s ∈ p, goodS s) : ∀ c ∈ wrP p, c ≠ 46 := by
  unfold wrP
  induction p with
  | nil => intro c hc; cases hc
  | cons s r ih =>
    intro c hc
    have h1 := wrS_mem (h s List.mem_cons_self)
    by_cases e : r = []
    · subst e
      rcases h1 c hc with z | z <;> omega
    · rw [List.map_cons, join_cons _ _ (by simpa using e)] at hc
      simp only [List.mem_append, List.mem_singleton] at hc
      rcases hc with (z | z) | z
      · rcases h1 c z with y | y <;> omega
      · omega
      · exact ih (fun y hy => h y (List.mem_cons_of_mem _ hy)) c z
theorem wrT_rd {p : List (List Nat)} (h : ∀ s ∈ p, goodS s) : wrT p = [46] ∧ p = [] ∨ wrT p ≠ [46] ∧ rdAll (sp1 47 [] (wrT p)) = some p := by
  unfold wrT
  by_cases c : p = []
  · rw [if_pos c]
    exact .inl ⟨rfl, c⟩
  · rw [if_neg c]
    exact .inr ⟨fun z => wrP_mem h 46 (by rw [z]; simp) rfl, rd_wr c h⟩
theorem wrT_len {p : List (List Nat)} (h : ∀ s ∈ p, goodS s) : (wrT p).length ≤ 6 * p.length + 1 := by
  unfold wrT
  split
  · show 1 ≤ _
    omega
  · have := wrP_len h
    omega
theorem told_rd {l : List Nat} {o : Option (List (List Nat))} (h : Told l o) (hl : l ≠ [46]) : rdAll (sp1 47 [] l) = o := by
  rcases h with z | z
  · exact absurd z.1 hl
  · rw [z.2, run_rd _ l [] (Nat.le_refl _)]
    cases rdAll (sp1 47 [] l) <;> rfl
def sp_law (K : PySem.W.Frag) : Sp := fun vs H Q _ => ∃ (a : Addr) (ns : List Int), vs = [.ref a] ∧ SqL K H a (ns.map V.int) ∧ ns.length ≤ 63 ∧ ∀ H', Q (.bl true) H'
theorem ok_law (T : Txt K mg) (Z : TDig K mg) : FnG P w K mg base CX0 5 T.f_law T.d_law ["_law_script"] (sp_law K) := by
  have G__law_bag := ok_bag (P := P) (w := w) (base := base) T
  have G__law_pick := ok_pick (P := P) (w := w) (base := base) T
  have G__law_choice := ok_choice (P := P) (w := w) (base := base) T
  have G__law_drawn_place := ok_drawn (P := P) (w := w) (base := base) T
  have G__law_place_text := ok_ptext (P := P) (w := w) (base := base) T
  have G__law_place_of := ok_placeof (P := P) (w := w) (base := base) T
  have G__law_spoilt_text := ok_spoilt (P := P) (w := w) (base := base) T
  have G_write_place := ok_write (P := P) (w := w) (base := base) T
  have G_read_place := ok_rdplace (P := P) (w := w) (base := base) T Z
  refine Fun.okG T.F_law sc_law (fun vs H Q E h => ?_) (fun cdv A outer s H vs Q E gd hr h => ?_)
  · obtain ⟨_, _, rfl, _⟩ := h
    rfl
  · obtain ⟨a, ns, rfl, hS, hl, q⟩ := h
    have slen : ∀ l : List Nat, (S l).length = l.length := SX.S_len
    refine ⟨_, (pss_cons (ps_set (i := 1) sc_law.nd rfl (Or.inl rfl) (pe_call G__law_bag (hr.mono (by omega)) (by rfl) T.g__law_bag T.F__law_bag.kp T.b__law_bag .nil pass0 (pa_cons (pv 0) pa_nil)))
      (pss_cons (ps_for PassesOwn.never rfl (pi_range1 (by rfl) T.m_range (pa_cons pe_int pa_nil)) (pg_name (i := 2) sc_law.nd rfl (Or.inl rfl)) (pss_cons (ps_set (i := 3) sc_law.nd rfl (Or.inl rfl) (pe_call G__law_drawn_place (hr.mono (by omega)) (by rfl) T.g__law_drawn_place T.F__law_drawn_place.kp T.b__law_drawn_place .nil pass0 (pa_cons (pv 1) pa_nil)))
      (pss_cons (ps_set (i := 4) sc_law.nd rfl (Or.inl rfl) (pe_call G_write_place (hr.mono (by omega)) (by rfl) T.g_write_place T.F_write_place.kp T.b_write_place .nil pass0 (pa_cons (pv 3) pa_nil)))
      (pss_cons (ps_if (PW.pt (pw_or (pt_not (pt_val (pe_callB (call_isi1K (K := K) rfl) (by rfl) T.m_isinstance (by decide +kernel) (pa_cons (pv 4) (pa_cons (pe_bltn (v := .ty "str") (u := .type "str") (by rfl) T.m_str (by decide +kernel) rfl) pa_nil))))) (pw_or (pt_cmpR op_ne (pv 4) (pe_call G__law_place_text (hr.mono (by omega)) (by rfl) T.g__law_place_text T.F__law_place_text.kp T.b__law_place_text .nil pass0 (pa_cons (pv 3) pa_nil)) (nomark _)) (pw_or1 (pt_cmpR op_ne (pe_callB (call_reprV gd (un200 hr)) (by rfl) T.m_repr (by decide +kernel) (pa_cons (pe_call G_read_place (hr.mono (by omega)) (by rfl) T.g_read_place T.F_read_place.kp T.b_read_place .nil pass0 (pa_cons (pv 4) pa_nil)) pa_nil)) (pe_callB (call_reprV gd (un200 hr)) (by rfl) T.m_repr (by decide +kernel) (pa_cons (pv 3) pa_nil)) (nomark _)))))) (pss_one (ps_ret pe_bl)) pss_nil)
      (pss_cons (ps_set (i := 5) sc_law.nd rfl (Or.inl rfl) (pe_call G__law_pick (hr.mono (by omega)) (by rfl) T.g__law_pick T.F__law_pick.kp T.b__law_pick .nil pass0 (pa_cons (pv 1) (pa_cons pe_int pa_nil))))
      (pss_cons (ps_set (i := 6) sc_law.nd rfl (Or.inl rfl) (pe_call G__law_spoilt_text (hr.mono (by omega)) (by rfl) T.g__law_spoilt_text T.F__law_spoilt_text.kp T.b__law_spoilt_text .nil pass0 (pa_cons (pv 1) (pa_cons (pv 4) pa_nil))))
      (pss_cons (ps_if (pt_cmpR op_eq (pv 5) pe_int (nomark _)) (pss_one (ps_set (i := 6) sc_law.nd rfl (Or.inl rfl) (pe_call G__law_spoilt_text (hr.mono (by omega)) (by rfl) T.g__law_spoilt_text T.F__law_spoilt_text.kp T.b__law_spoilt_text .nil pass0 (pa_cons (pv 1) (pa_cons (pe_call G__law_spoilt_text (hr.mono (by omega)) (by rfl) T.g__law_spoilt_text T.F__law_spoilt_text.kp T.b__law_spoilt_text .nil pass0 (pa_cons (pv 1) (pa_cons pe_str pa_nil))) pa_nil))))) pss_nil)
      (pss_cons (ps_if (pt_cmpR op_eq (pv 5) pe_int (nomark _)) (pss_one (ps_set (i := 6) sc_law.nd rfl (Or.inl rfl) (pe_op op_add_str (pe_op op_add_str (pv 4) (pe_call G__law_choice (hr.mono (by omega)) (by rfl) T.g__law_choice T.F__law_choice.kp T.b__law_choice .nil pass0 (pa_cons (pv 1) (pa_cons (pe_lst (pa_cons pe_str (pa_cons pe_str (pa_cons pe_str (pa_cons pe_str pa_nil))))) pa_nil)))) (pe_call G__law_place_text (hr.mono (by omega)) (by rfl) T.g__law_place_text T.F__law_place_text.kp T.b__law_place_text .nil pass0 (pa_cons (pe_call G__law_drawn_place (hr.mono (by omega)) (by rfl) T.g__law_drawn_place T.F__law_drawn_place.kp T.b__law_drawn_place .nil pass0 (pa_cons (pv 1) pa_nil)) pa_nil))))) pss_nil)
      (pss_cons (ps_set (i := 7) sc_law.nd rfl (Or.inl rfl) (pe_call G__law_place_of (hr.mono (by omega)) (by rfl) T.g__law_place_of T.F__law_place_of.kp T.b__law_place_of .nil pass0 (pa_cons (pv 6) pa_nil)))
      (pss_cons (ps_set (i := 8) sc_law.nd rfl (Or.inl rfl) (pe_call G_read_place (hr.mono (by omega)) (by rfl) T.g_read_place T.F_read_place.kp T.b_read_place .nil pass0 (pa_cons (pv 6) pa_nil)))
      (pss_cons (ps_if (pt_cmpR op_ne (pe_callB (call_reprV gd (un200 hr)) (by rfl) T.m_repr (by decide +kernel) (pa_cons (pv 8) pa_nil)) (pe_callB (call_reprV gd (un200 hr)) (by rfl) T.m_repr (by decide +kernel) (pa_cons (pv 7) pa_nil)) (nomark _)) (pss_one (ps_ret pe_bl)) pss_nil)
      (pss_one (ps_if (PW.pt (pw_and (pt_cmpR op_notN (pv 7) pe_non (nomark _)) (pw_and1 (pt_cmpR op_ne (pe_call G_write_place (hr.mono (by omega)) (by rfl) T.g_write_place T.F_write_place.kp T.b_write_place .nil pass0 (pa_cons (pv 8) pa_nil)) (pv 6) (nomark _))))) (pss_one (ps_ret pe_bl)) pss_nil)))))))))))))
      (pss_one (ps_ret pe_bl)))), ?_⟩
    walk_at "g"
    refine ⟨a, ns, rfl, hS, hl, fun b H1 s1 nb hB1 => ?_⟩
    walk_at "g"
    refine ⟨by decide, by decide, ?_⟩
    have mk : ∀ {H' : Hp}, Bag K (one b) H' b → Mk (one b) H' := fun h c z => by rw [show c = b from z]; exact h.there
    refine for_range (lo := 0) (n := 3) (fun i σ H' => (∃ y2 y3 y4 y5 y6 y7 y8, σ = [some (.ref a), some (.ref b), y2, y3, y4, y5, y6, y7, y8]) ∧ Bag K (one b) H' b) ⟨⟨_, _, _, _, _, _, _, rfl⟩, hB1⟩ (fun i σ H2 hi p => ?_) (fun σ H' p => ?_)
    · obtain ⟨⟨y2, y3, y4, y5, y6, y7, y8, rfl⟩, hB2⟩ := p
      walk_at "g"
      refine ⟨b, one b, rfl, hB2, mk hB2, fun v H3 d s3 g3 hB3 rv hd => ?_⟩
      obtain ⟨p, rfl, lp, hp⟩ := hd
      walk_at "g"
      refine ⟨v, p, one b, rfl, rv, by omega, hp, fun H4 s4 => ?_⟩
      walk_at "g"
      refine ⟨_, _, _, _, true, rfl, .ty _, .base (.str _), kit_ty (by decide +kernel), ?_⟩
      walk_at "g"
      have r4 := rv.sx (Sx.same (M := one b) s4)
      refine ⟨v, p, one b, rfl, r4, by omega, hp, fun H5 s5 => ?_⟩
      walk_at "g"
      rw [S_eq, decide_eq_true rfl]
      walk_at "g"
      have r5 := r4.sx (Sx.same (M := one b) s5)
      have hB5 := (hB3.same s4).same s5
      have lw := wrT_len hp
      obtain ⟨sh1, sh2, sh3, sh4⟩ := pl_show hp (by omega)
      have same_p : ∀ {p6 : List (List Nat)}, (wrT p = [46] ∧ p6 = [] ∨ wrT p ≠ [46] ∧ rdAll (sp1 47 [] (wrT p)) = some p6) → p6 = p := fun {p6} z => by
        rcases wrT_rd hp with ⟨e1, e2⟩ | ⟨e1, e2⟩ <;> rcases z with ⟨z1, z2⟩ | ⟨z1, z2⟩
        · rw [e2, z2]
        · exact absurd e1 z1
        · exact absurd z1 e1
        · rw [e2] at z2
          exact (Option.some.inj z2).symm
      refine ⟨wrT p, one b, rfl, by omega, mk hB5, fun H6 s6 n z => ?_, fun H6 v6 p6 s6 z r6 => ?_⟩
      · exfalso
        rcases wrT_rd hp with ⟨e1, e2⟩ | ⟨e1, e2⟩
        · exact n e1
        · rw [e2] at z
          cases z
      obtain rfl := same_p z
      walk_at "g"
      refine ⟨v6, plD p6, rfl, Rp.dp (K := K) _ _ r6, sh1, sh2, sh3, sh4, ?_⟩
      walk_at "g"
      refine ⟨v, plD p6, rfl, Rp.dp (K := K) _ _ (r5.sx (Sx.same (M := one b) s6)), sh1, sh2, sh3, sh4, ?_⟩
      walk_at "g"
      rw [decide_eq_true rfl]
      walk_at "g"
      have hB6 := hB5.same s6
      refine ⟨b, 4, one b, rfl, hB6, by omega, by omega, fun n7 H7 c0 c1 hA7 hB7 => ?_⟩
      walk_at "g"
      refine ⟨b, wrT p6, one b, rfl, hB7, by omega, fun H8 l8 hA8 hB8 ll8 => ?_⟩
      have hl8 : l8.length ≤ 300 := by omega
      clear ll8 sh1 sh2 sh3 sh4
      dsimp only [gName]
      with_reducible refine seq_join (fun σ H' => ∃ l : List Nat, l.length ≤ 300 ∧ σ = [some (.ref a), some (.ref b), some (.int (0 + (i : Int))), some v, some (.str (S (wrT p6))), some (.int n7), some (.str (S l)), y7, y8] ∧ Bag K (one b) H' b) (fun hN => ?_) (fun σ H9 c => ?_)
      · have base9 := hN _ _ ⟨l8, hl8, rfl, hB8⟩
        walk_at "g"
        walk_at "if"
        · walk_at "g"
          rw [str_emp]
          refine ⟨b, [], one b, rfl, hB8, by decide, fun H9 l9 hA9 hB9 ll9 => ?_⟩
          walk_at "g"
          refine ⟨b, l9, one b, rfl, hB9, by have : l9.length ≤ 0 + 3 := ll9; omega, fun H10 l10 hA10 hB10 ll10 => ?_⟩
          exact hN _ _ ⟨l10, by have : l9.length ≤ 0 + 3 := ll9; omega, rfl, hB10⟩
        · exact base9
      obtain ⟨l9, hl9, rfl, hB9⟩ := c
      clear hl8 hB8
      with_reducible refine seq_join (fun σ H' => ∃ l : List Nat, l.length ≤ 300 ∧ σ = [some (.ref a), some (.ref b), some (.int (0 + (i : Int))), some v, some (.str (S (wrT p6))), some (.int n7), some (.str (S l)), y7, y8] ∧ Bag K (one b) H' b) (fun hN => ?_) (fun σ H9 c => ?_)
      · have base9 := hN _ _ ⟨l9, hl9, rfl, hB9⟩
        walk_at "g"
        walk_at "if"
        · walk_at "g"
          refine ⟨szK rfl, fun pc hpc => ?_⟩
          have sc : Same H9 (upd H9 pc (.lst [.str (Str.ofString "/"), .str (Str.ofString ":"), .str (Str.ofString "//"), .str (Str.ofString "")])) := same_new hpc
          have ec : upd H9 pc (.lst [.str (Str.ofString "/"), .str (Str.ofString ":"), .str (Str.ofString "//"), .str (Str.ofString "")]) pc = some (.lst [.str (Str.ofString "/"), .str (Str.ofString ":"), .str (Str.ofString "//"), .str (Str.ofString "")]) := upd_same
          have pcb : pc ≠ b := fun z => hB9.there (by rw [← z]; exact hpc)
          have hBc := hB9.same sc
          generalize upd H9 pc (.lst [.str (Str.ofString "/"), .str (Str.ofString ":"), .str (Str.ofString "//"), .str (Str.ofString "")]) = Hc at sc ec hBc
          refine ⟨b, pc, _, one b, rfl, hBc, SqL.of ec, pcb, by decide, by decide, fun vc Hd hvc hAd hBd => ?_⟩
          obtain ⟨zc, rfl, lzc⟩ := lab_all [V.str (Str.ofString "/"), .str (Str.ofString ":"), .str (Str.ofString "//"), .str (Str.ofString "")] (by decide +kernel) vc hvc
          walk_at "g"
          refine ⟨by rw [slen, sizeLine_eq]; omega, ?_⟩
          walk_at "g"
          refine ⟨b, one b, rfl, hBd, mk hBd, fun ve He d se ge hBe re hde => ?_⟩
          obtain ⟨pe, rfl, lpe, hpe⟩ := hde
          have lwe := wrT_len hpe
          walk_at "g"
          refine ⟨ve, pe, one b, rfl, re, by omega, hpe, fun Hf sf => ?_⟩
          have lcat : (S (wrT p6) ++ zc).length ≤ 120 := by rw [D.str_len, slen]; omega
          have ecat : (S (wrT p6) ++ zc) ++ S (wrT pe) = S (sg (S (wrT p6) ++ zc) ++ wrT pe) := sg_ext (by rw [sg_app])
          refine ⟨_, _, rfl, rfl, (show (S (wrT p6) ++ zc).length + (S (wrT pe)).length ≤ sizeLine from by rw [sizeLine_eq]; have := slen (wrT pe); omega), ?_⟩
          refine hN _ _ ⟨sg (S (wrT p6) ++ zc) ++ wrT pe, ?_, ?_, hBe.same sf⟩
          · rw [List.length_append, sg_len]
            omega
          · rw [ecat]
            rfl
        · exact base9
      obtain ⟨l, hll, rfl, hB10⟩ := c
      clear hl9 hB9
      walk_at "g"
      have fin : ∀ {Hn : Hp} {σ : L2.St}, Bag K (one b) Hn b → True := fun _ => trivial
      have nlen : ∀ {p : List (List Nat)}, rdAll (sp1 47 [] l) = some p → p.length ≤ 1000 := fun {p} e => by
        have h1 := (rdAll_some e).2.2
        have h2 := sp1_len 47 l []
        omega
      refine ⟨l, one b, rfl, by omega, mk hB10, fun H11 o s11 => ?_, fun H11 v11 p o s11 r11 => ?_⟩
      · -- nothing is due
        have hl46 : l ≠ [46] := fun z => by
          rcases s11 with y | y
          · cases y.2
          · exact y.1 z
        have er := told_rd s11 hl46
        have hB11 := hB10.same o
        walk_at "g"
        refine ⟨l, one b, rfl, by omega, mk hB11, fun H12 s12 n z => ?_, fun H12 v12 p12 s12 z r12 => ?_⟩
        · obtain ⟨n1, n2, n3, n4⟩ := non_show
          walk_at "g"
          refine ⟨.non, .none, rfl, .non, n1, n2, n3, n4, ?_⟩
          walk_at "g"
          refine ⟨.non, .none, rfl, .non, n1, n2, n3, n4, ?_⟩
          walk_at "g"
          rw [decide_eq_true rfl]
          walk_at "g"
          exact ⟨⟨_, _, _, _, _, _, _, rfl⟩, hB11.same s12⟩
        · exfalso
          rcases z with ⟨z, _⟩ | ⟨_, z⟩
          · exact hl46 z
          · rw [er] at z
            cases z
      · -- a place is due
        have hpl : (∀ s ∈ p, goodS s) ∧ p.length ≤ 1000 ∧ wrT p = l ∧ ∀ p12, (l = [46] ∧ p12 = [] ∨ l ≠ [46] ∧ rdAll (sp1 47 [] l) = some p12) → p12 = p := by
          by_cases c46 : l = [46]
          · have ep : p = [] := by
              rcases s11 with y | y
              · exact Option.some.inj y.2
              · exact absurd c46 y.1
            subst ep
            refine ⟨fun s hs => (nomatch hs), Nat.zero_le _, c46.symm, fun p12 z => ?_⟩
            rcases z with z | z
            · exact z.2
            · exact absurd c46 z.1
          · have er := told_rd s11 c46
            obtain ⟨w1, w2, w3⟩ := wr_rd er
            refine ⟨w2, nlen er, ?_, fun p12 z => ?_⟩
            · unfold wrT
              rw [if_neg w3, w1]
            · rcases z with z | z
              · exact absurd z.1 c46
              · rw [er] at z
                exact (Option.some.inj z.2).symm
        obtain ⟨hg, hlp, hwr, huniq⟩ := hpl
        obtain ⟨n1, n2, n3, n4⟩ := pl_show hg hlp
        have hB11 := hB10.same o
        have rb : ∀ {Hn : Hp}, Same H11 Hn → Rp (one b) Hn v11 (plD p) := fun s => r11.sx (Sx.same s)
        walk_at "g"
        refine ⟨l, one b, rfl, by omega, mk hB11, fun H12 s12 n z => ?_, fun H12 v12 p12 s12 z r12 => ?_⟩
        · exfalso
          have := told_rd s11 n
          rw [z] at this
          cases this
        obtain rfl := huniq p12 z
        walk_at "g"
        refine ⟨v12, plD p12, rfl, Rp.dp (K := K) _ _ r12, n1, n2, n3, n4, ?_⟩
        walk_at "g"
        refine ⟨v11, plD p12, rfl, Rp.dp (K := K) _ _ (rb s12), n1, n2, n3, n4, ?_⟩
        walk_at "g"
        rw [decide_eq_true rfl]
        walk_at "g"
        obtain ⟨a11, xs11, rfl, -⟩ := Rp.tupX (rb s12)
        rw [decide_eq_false (show ¬ V.ref a11 = V.non from fun z => by cases z)]
        walk_at "g"
        refine ⟨v12, p12, one b, rfl, r12, hlp, hg, fun H13 s13 => ?_⟩
        walk_at "g"
        rw [hwr, decide_eq_true rfl]
        walk_at "g"
        exact ⟨⟨_, _, _, _, _, _, _, rfl⟩, (hB11.same s12).same s13⟩
    · obtain ⟨⟨y2, y3, y4, y5, y6, y7, y8, rfl⟩, hB2⟩ := p
      walk_at "g"
      exact q _
end
end D

namespace D
open PySem PySem.Spec PyProof.Rows L2
def digW : List V := [.str (Str.ofString "0"), .str (Str.ofString "1"), .str (Str.ofString "2"), .str (Str.ofString "3"), .str (Str.ofString "4"), .str (Str.ofString "5"), .str (Str.ofString "6"), .str (Str.ofString "7"), .str (Str.ofString "8"), .str (Str.ofString "9")]
theorem digW_eq : digW = digV := by
  have e : ∀ (x : String) (c : Nat), sg (Str.ofString x) = [c] → V.str (Str.ofString x) = V.str (S [c]) := fun x c h => by
    congr 1
    exact sg_ext h
  unfold digW digV digs
  simp only [List.map_cons, List.map_nil]
  rw [e "0" 48 (by decide +kernel), e "1" 49 (by decide +kernel), e "2" 50 (by decide +kernel), e "3" 51 (by decide +kernel), e "4" 52 (by decide +kernel), e "5" 53 (by decide +kernel), e "6" 54 (by decide +kernel), e "7" 55 (by decide +kernel), e "8" 56 (by decide +kernel), e "9" 57 (by decide +kernel)]
theorem dig_sq {K : PySem.W.Frag} {p : Addr} {arr : Array Value} {n : Nat} (l : K.lookup p = some ⟨.type "tuple", none, .seq arr n, #[]⟩) (v : Vals digW arr.toList) (H : Hp) : SqT K H p digV := by
  rw [digW_eq] at v
  refine .inr ⟨_, arr, n, l, rfl, rfl, ?_, v⟩
  have e : arr.size = 10 := by
    rw [← Array.length_toList, ← v.length]
    rfl
  rw [e, sizeLine_eq]
  decide
theorem all_mk {l : PySem.W.OpenLaw} {w : World} {K : PySem.W.Frag} {h : Heap} {mg : Str → Option Value} {fa : Addr} {f_write_place f_is_number f__read_step f_read_place f__law_mixed f__law_bag f__law_pick f__law_choice f__law_drawn_place f__law_place_text f__law_place_of f__law_spoilt_text f_law : Addr} (X : K.In h) (G : h.Ns mainGlobals mg) (hfa : mg "law" = some (.ref fa))
    {od_write_place an_write_place : Option Addr} {sl_write_place : Array (Option Value)} {oc_write_place kV_write_place dc_write_place pm_write_place cd_write_place ct_write_place : Value}
    (a_write_place : PySem.W.nsIn K mainGlobals "write_place" = some (some (.ref f_write_place))) (l_write_place : K.lookup f_write_place = some ⟨oc_write_place, od_write_place, .func (PySem.W.fnOf "write_place" "write_place" (defArgs s_write_place) (defBody s_write_place) (defScope s_write_place) .none kV_write_place dc_write_place pm_write_place an_write_place cd_write_place ct_write_place), sl_write_place⟩) (c_write_place : PySem.W.codeIn K cd_write_place "write_place" = true) (k_write_place : PySem.W.keepIn K (.ref f_write_place) = true)
    {od_is_number an_is_number : Option Addr} {sl_is_number : Array (Option Value)} {oc_is_number kV_is_number dc_is_number pm_is_number cd_is_number ct_is_number : Value}
    (a_is_number : PySem.W.nsIn K mainGlobals "is_number" = some (some (.ref f_is_number))) (l_is_number : K.lookup f_is_number = some ⟨oc_is_number, od_is_number, .func (PySem.W.fnOf "is_number" "is_number" (defArgs s_is_number) (defBody s_is_number) (defScope s_is_number) .none kV_is_number dc_is_number pm_is_number an_is_number cd_is_number ct_is_number), sl_is_number⟩) (c_is_number : PySem.W.codeIn K cd_is_number "is_number" = true) (k_is_number : PySem.W.keepIn K (.ref f_is_number) = true)
    {od__read_step an__read_step : Option Addr} {sl__read_step : Array (Option Value)} {oc__read_step kV__read_step dc__read_step pm__read_step cd__read_step ct__read_step : Value}
    (a__read_step : PySem.W.nsIn K mainGlobals "_read_step" = some (some (.ref f__read_step))) (l__read_step : K.lookup f__read_step = some ⟨oc__read_step, od__read_step, .func (PySem.W.fnOf "_read_step" "_read_step" (defArgs s__read_step) (defBody s__read_step) (defScope s__read_step) .none kV__read_step dc__read_step pm__read_step an__read_step cd__read_step ct__read_step), sl__read_step⟩) (c__read_step : PySem.W.codeIn K cd__read_step "_read_step" = true) (k__read_step : PySem.W.keepIn K (.ref f__read_step) = true)
    {od_read_place an_read_place : Option Addr} {sl_read_place : Array (Option Value)} {oc_read_place kV_read_place dc_read_place pm_read_place cd_read_place ct_read_place : Value}
    (a_read_place : PySem.W.nsIn K mainGlobals "read_place" = some (some (.ref f_read_place))) (l_read_place : K.lookup f_read_place = some ⟨oc_read_place, od_read_place, .func (PySem.W.fnOf "read_place" "read_place" (defArgs s_read_place) (defBody s_read_place) (defScope s_read_place) .none kV_read_place dc_read_place pm_read_place an_read_place cd_read_place ct_read_place), sl_read_place⟩) (c_read_place : PySem.W.codeIn K cd_read_place "read_place" = true) (k_read_place : PySem.W.keepIn K (.ref f_read_place) = true)
    {od__law_mixed an__law_mixed : Option Addr} {sl__law_mixed : Array (Option Value)} {oc__law_mixed kV__law_mixed dc__law_mixed pm__law_mixed cd__law_mixed ct__law_mixed : Value}
    (a__law_mixed : PySem.W.nsIn K mainGlobals "_law_mixed" = some (some (.ref f__law_mixed))) (l__law_mixed : K.lookup f__law_mixed = some ⟨oc__law_mixed, od__law_mixed, .func (PySem.W.fnOf "_law_mixed" "_law_mixed" (defArgs s__law_mixed) (defBody s__law_mixed) (defScope s__law_mixed) .none kV__law_mixed dc__law_mixed pm__law_mixed an__law_mixed cd__law_mixed ct__law_mixed), sl__law_mixed⟩) (c__law_mixed : PySem.W.codeIn K cd__law_mixed "_law_mixed" = true) (k__law_mixed : PySem.W.keepIn K (.ref f__law_mixed) = true)
    {od__law_bag an__law_bag : Option Addr} {sl__law_bag : Array (Option Value)} {oc__law_bag kV__law_bag dc__law_bag pm__law_bag cd__law_bag ct__law_bag : Value}
    (a__law_bag : PySem.W.nsIn K mainGlobals "_law_bag" = some (some (.ref f__law_bag))) (l__law_bag : K.lookup f__law_bag = some ⟨oc__law_bag, od__law_bag, .func (PySem.W.fnOf "_law_bag" "_law_bag" (defArgs s__law_bag) (defBody s__law_bag) (defScope s__law_bag) .none kV__law_bag dc__law_bag pm__law_bag an__law_bag cd__law_bag ct__law_bag), sl__law_bag⟩) (c__law_bag : PySem.W.codeIn K cd__law_bag "_law_bag" = true) (k__law_bag : PySem.W.keepIn K (.ref f__law_bag) = true)
    {od__law_pick an__law_pick : Option Addr} {sl__law_pick : Array (Option Value)} {oc__law_pick kV__law_pick dc__law_pick pm__law_pick cd__law_pick ct__law_pick : Value}
    (a__law_pick : PySem.W.nsIn K mainGlobals "_law_pick" = some (some (.ref f__law_pick))) (l__law_pick : K.lookup f__law_pick = some ⟨oc__law_pick, od__law_pick, .func (PySem.W.fnOf "_law_pick" "_law_pick" (defArgs s__law_pick) (defBody s__law_pick) (defScope s__law_pick) .none kV__law_pick dc__law_pick pm__law_pick an__law_pick cd__law_pick ct__law_pick), sl__law_pick⟩) (c__law_pick : PySem.W.codeIn K cd__law_pick "_law_pick" = true) (k__law_pick : PySem.W.keepIn K (.ref f__law_pick) = true)
    {od__law_choice an__law_choice : Option Addr} {sl__law_choice : Array (Option Value)} {oc__law_choice kV__law_choice dc__law_choice pm__law_choice cd__law_choice ct__law_choice : Value}
    (a__law_choice : PySem.W.nsIn K mainGlobals "_law_choice" = some (some (.ref f__law_choice))) (l__law_choice : K.lookup f__law_choice = some ⟨oc__law_choice, od__law_choice, .func (PySem.W.fnOf "_law_choice" "_law_choice" (defArgs s__law_choice) (defBody s__law_choice) (defScope s__law_choice) .none kV__law_choice dc__law_choice pm__law_choice an__law_choice cd__law_choice ct__law_choice), sl__law_choice⟩) (c__law_choice : PySem.W.codeIn K cd__law_choice "_law_choice" = true) (k__law_choice : PySem.W.keepIn K (.ref f__law_choice) = true)
    {od__law_drawn_place an__law_drawn_place : Option Addr} {sl__law_drawn_place : Array (Option Value)} {oc__law_drawn_place kV__law_drawn_place dc__law_drawn_place pm__law_drawn_place cd__law_drawn_place ct__law_drawn_place : Value}
    (a__law_drawn_place : PySem.W.nsIn K mainGlobals "_law_drawn_place" = some (some (.ref f__law_drawn_place))) (l__law_drawn_place : K.lookup f__law_drawn_place = some ⟨oc__law_drawn_place, od__law_drawn_place, .func (PySem.W.fnOf "_law_drawn_place" "_law_drawn_place" (defArgs s__law_drawn_place) (defBody s__law_drawn_place) (defScope s__law_drawn_place) .none kV__law_drawn_place dc__law_drawn_place pm__law_drawn_place an__law_drawn_place cd__law_drawn_place ct__law_drawn_place), sl__law_drawn_place⟩) (c__law_drawn_place : PySem.W.codeIn K cd__law_drawn_place "_law_drawn_place" = true) (k__law_drawn_place : PySem.W.keepIn K (.ref f__law_drawn_place) = true)
    {od__law_place_text an__law_place_text : Option Addr} {sl__law_place_text : Array (Option Value)} {oc__law_place_text kV__law_place_text dc__law_place_text pm__law_place_text cd__law_place_text ct__law_place_text : Value}
    (a__law_place_text : PySem.W.nsIn K mainGlobals "_law_place_text" = some (some (.ref f__law_place_text))) (l__law_place_text : K.lookup f__law_place_text = some ⟨oc__law_place_text, od__law_place_text, .func (PySem.W.fnOf "_law_place_text" "_law_place_text" (defArgs s__law_place_text) (defBody s__law_place_text) (defScope s__law_place_text) .none kV__law_place_text dc__law_place_text pm__law_place_text an__law_place_text cd__law_place_text ct__law_place_text), sl__law_place_text⟩) (c__law_place_text : PySem.W.codeIn K cd__law_place_text "_law_place_text" = true) (k__law_place_text : PySem.W.keepIn K (.ref f__law_place_text) = true)
    {od__law_place_of an__law_place_of : Option Addr} {sl__law_place_of : Array (Option Value)} {oc__law_place_of kV__law_place_of dc__law_place_of pm__law_place_of cd__law_place_of ct__law_place_of : Value}
    (a__law_place_of : PySem.W.nsIn K mainGlobals "_law_place_of" = some (some (.ref f__law_place_of))) (l__law_place_of : K.lookup f__law_place_of = some ⟨oc__law_place_of, od__law_place_of, .func (PySem.W.fnOf "_law_place_of" "_law_place_of" (defArgs s__law_place_of) (defBody s__law_place_of) (defScope s__law_place_of) .none kV__law_place_of dc__law_place_of pm__law_place_of an__law_place_of cd__law_place_of ct__law_place_of), sl__law_place_of⟩) (c__law_place_of : PySem.W.codeIn K cd__law_place_of "_law_place_of" = true) (k__law_place_of : PySem.W.keepIn K (.ref f__law_place_of) = true)
    {od__law_spoilt_text an__law_spoilt_text : Option Addr} {sl__law_spoilt_text : Array (Option Value)} {oc__law_spoilt_text kV__law_spoilt_text dc__law_spoilt_text pm__law_spoilt_text cd__law_spoilt_text ct__law_spoilt_text : Value}
    (a__law_spoilt_text : PySem.W.nsIn K mainGlobals "_law_spoilt_text" = some (some (.ref f__law_spoilt_text))) (l__law_spoilt_text : K.lookup f__law_spoilt_text = some ⟨oc__law_spoilt_text, od__law_spoilt_text, .func (PySem.W.fnOf "_law_spoilt_text" "_law_spoilt_text" (defArgs s__law_spoilt_text) (defBody s__law_spoilt_text) (defScope s__law_spoilt_text) .none kV__law_spoilt_text dc__law_spoilt_text pm__law_spoilt_text an__law_spoilt_text cd__law_spoilt_text ct__law_spoilt_text), sl__law_spoilt_text⟩) (c__law_spoilt_text : PySem.W.codeIn K cd__law_spoilt_text "_law_spoilt_text" = true) (k__law_spoilt_text : PySem.W.keepIn K (.ref f__law_spoilt_text) = true)
    {od_law an_law : Option Addr} {sl_law : Array (Option Value)} {oc_law kV_law dc_law pm_law cd_law ct_law : Value}
    (a_law : PySem.W.nsIn K mainGlobals "law" = some (some (.ref f_law))) (l_law : K.lookup f_law = some ⟨oc_law, od_law, .func (PySem.W.fnOf "law" "law" (defArgs s_law) (defBody s_law) (defScope s_law) .none kV_law dc_law pm_law an_law cd_law ct_law), sl_law⟩) (c_law : PySem.W.codeIn K cd_law "law" = true) (k_law : PySem.W.keepIn K (.ref f_law) = true)
    {t_PLACE_DIGITS : Tok} (z_PLACE_DIGITS : PySem.W.nsIn K mainGlobals "PLACE_DIGITS" = some (some (.int 2 t_PLACE_DIGITS)))
    (z_abs : PySem.W.nsIn K mainGlobals "abs" = some none)
    (z_all : PySem.W.nsIn K mainGlobals "all" = some none)
    (z_enumerate : PySem.W.nsIn K mainGlobals "enumerate" = some none)
    (z_int : PySem.W.nsIn K mainGlobals "int" = some none)
    (z_isinstance : PySem.W.nsIn K mainGlobals "isinstance" = some none)
    (z_len : PySem.W.nsIn K mainGlobals "len" = some none)
    (z_range : PySem.W.nsIn K mainGlobals "range" = some none)
    (z_repr : PySem.W.nsIn K mainGlobals "repr" = some none)
    (z_str : PySem.W.nsIn K mainGlobals "str" = some none)
    (z_tuple : PySem.W.nsIn K mainGlobals "tuple" = some none)
    {pD : Addr} {arr : Array Value} {nD : Nat} (uD : PySem.W.nsIn K mainGlobals "DIGITS" = some (some (.ref pD))) (lD : K.lookup pD = some ⟨.type "tuple", none, .seq arr nD, #[]⟩) (vD : Vals digW arr.toList) :
    ∃ fd : FuncData, (∀ (s : Shared) (v : Value), BindsTo s fd ⟨[v], []⟩ [("_law_script", v)]) ∧ ∀ base : Heap, K.In base → base.Ns mainGlobals mg → FnG l.prog w K mg base CX0 5 fa fd ["_law_script"] (sp_law K) := by
  have e := hfa.symm.trans (PySem.W.mg_of X G a_law)
  cases e
  let T : Txt K mg := { f_write_place := f_write_place, d_write_place := _, F_write_place := fun_mk (st := s_write_place) l_write_place c_write_place k_write_place, b_write_place := (fun_mk (st := s_write_place) l_write_place c_write_place k_write_place).binds fun _ _ _ _ _ _ us hl => match us, hl with | [_], _ => rfl, g_write_place := PySem.W.mg_of X G a_write_place, f_is_number := f_is_number, d_is_number := _, F_is_number := fun_mk (st := s_is_number) l_is_number c_is_number k_is_number, b_is_number := (fun_mk (st := s_is_number) l_is_number c_is_number k_is_number).binds fun _ _ _ _ _ _ us hl => match us, hl with | [_, _], _ => rfl, g_is_number := PySem.W.mg_of X G a_is_number, f__read_step := f__read_step, d__read_step := _, F__read_step := fun_mk (st := s__read_step) l__read_step c__read_step k__read_step, b__read_step := (fun_mk (st := s__read_step) l__read_step c__read_step k__read_step).binds fun _ _ _ _ _ _ us hl => match us, hl with | [_], _ => rfl, g__read_step := PySem.W.mg_of X G a__read_step, f_read_place := f_read_place, d_read_place := _, F_read_place := fun_mk (st := s_read_place) l_read_place c_read_place k_read_place, b_read_place := (fun_mk (st := s_read_place) l_read_place c_read_place k_read_place).binds fun _ _ _ _ _ _ us hl => match us, hl with | [_], _ => rfl, g_read_place := PySem.W.mg_of X G a_read_place, f__law_mixed := f__law_mixed, d__law_mixed := _, F__law_mixed := fun_mk (st := s__law_mixed) l__law_mixed c__law_mixed k__law_mixed, b__law_mixed := (fun_mk (st := s__law_mixed) l__law_mixed c__law_mixed k__law_mixed).binds fun _ _ _ _ _ _ us hl => match us, hl with | [_, _], _ => rfl, g__law_mixed := PySem.W.mg_of X G a__law_mixed, f__law_bag := f__law_bag, d__law_bag := _, F__law_bag := fun_mk (st := s__law_bag) l__law_bag c__law_bag k__law_bag, b__law_bag := (fun_mk (st := s__law_bag) l__law_bag c__law_bag k__law_bag).binds fun _ _ _ _ _ _ us hl => match us, hl with | [_], _ => rfl, g__law_bag := PySem.W.mg_of X G a__law_bag, f__law_pick := f__law_pick, d__law_pick := _, F__law_pick := fun_mk (st := s__law_pick) l__law_pick c__law_pick k__law_pick, b__law_pick := (fun_mk (st := s__law_pick) l__law_pick c__law_pick k__law_pick).binds fun _ _ _ _ _ _ us hl => match us, hl with | [_, _], _ => rfl, g__law_pick := PySem.W.mg_of X G a__law_pick, f__law_choice := f__law_choice, d__law_choice := _, F__law_choice := fun_mk (st := s__law_choice) l__law_choice c__law_choice k__law_choice, b__law_choice := (fun_mk (st := s__law_choice) l__law_choice c__law_choice k__law_choice).binds fun _ _ _ _ _ _ us hl => match us, hl with | [_, _], _ => rfl, g__law_choice := PySem.W.mg_of X G a__law_choice, f__law_drawn_place := f__law_drawn_place, d__law_drawn_place := _, F__law_drawn_place := fun_mk (st := s__law_drawn_place) l__law_drawn_place c__law_drawn_place k__law_drawn_place, b__law_drawn_place := (fun_mk (st := s__law_drawn_place) l__law_drawn_place c__law_drawn_place k__law_drawn_place).binds fun _ _ _ _ _ _ us hl => match us, hl with | [_], _ => rfl, g__law_drawn_place := PySem.W.mg_of X G a__law_drawn_place, f__law_place_text := f__law_place_text, d__law_place_text := _, F__law_place_text := fun_mk (st := s__law_place_text) l__law_place_text c__law_place_text k__law_place_text, b__law_place_text := (fun_mk (st := s__law_place_text) l__law_place_text c__law_place_text k__law_place_text).binds fun _ _ _ _ _ _ us hl => match us, hl with | [_], _ => rfl, g__law_place_text := PySem.W.mg_of X G a__law_place_text, f__law_place_of := f__law_place_of, d__law_place_of := _, F__law_place_of := fun_mk (st := s__law_place_of) l__law_place_of c__law_place_of k__law_place_of, b__law_place_of := (fun_mk (st := s__law_place_of) l__law_place_of c__law_place_of k__law_place_of).binds fun _ _ _ _ _ _ us hl => match us, hl with | [_], _ => rfl, g__law_place_of := PySem.W.mg_of X G a__law_place_of, f__law_spoilt_text := f__law_spoilt_text, d__law_spoilt_text := _, F__law_spoilt_text := fun_mk (st := s__law_spoilt_text) l__law_spoilt_text c__law_spoilt_text k__law_spoilt_text, b__law_spoilt_text := (fun_mk (st := s__law_spoilt_text) l__law_spoilt_text c__law_spoilt_text k__law_spoilt_text).binds fun _ _ _ _ _ _ us hl => match us, hl with | [_, _], _ => rfl, g__law_spoilt_text := PySem.W.mg_of X G a__law_spoilt_text, f_law := fa, d_law := _, F_law := fun_mk (st := s_law) l_law c_law k_law, b_law := (fun_mk (st := s_law) l_law c_law k_law).binds fun _ _ _ _ _ _ us hl => match us, hl with | [_], _ => rfl, g_law := PySem.W.mg_of X G a_law, t_PLACE_DIGITS := _, c_PLACE_DIGITS := PySem.W.mg_of X G z_PLACE_DIGITS, m_abs := PySem.W.mg_none_of X G z_abs, m_all := PySem.W.mg_none_of X G z_all, m_enumerate := PySem.W.mg_none_of X G z_enumerate, m_int := PySem.W.mg_none_of X G z_int, m_isinstance := PySem.W.mg_none_of X G z_isinstance, m_len := PySem.W.mg_none_of X G z_len, m_range := PySem.W.mg_none_of X G z_range, m_repr := PySem.W.mg_none_of X G z_repr, m_str := PySem.W.mg_none_of X G z_str, m_tuple := PySem.W.mg_none_of X G z_tuple }
  let Z : TDig K mg := { p := pD, t := PySem.W.mg_of X G uD, sq := dig_sq lD vD }
  exact ⟨_, fun s v => .of_eq rfl, fun base _ _ => ok_law (base := base) T Z⟩
end D
open PySem PySem.W PyProof.Rows
set_option maxHeartbeats 0 in
theorem PySem.Challenge.cw_drawnanew_k76_places_written_holds : PySem.Challenge.rw_drawnanew_k76_places_written.Holds := by
  w_on; o_law; k_head; (case hw => w_witness2)
  k_fill
  refine D.walk_ofG (l := PySem.Challenge.rw_drawnanew_k76_places_written) (n := 63) (k := 5) (x := "_law_script") (sp := D.sp_law) rfl (by decide) rfl ⟨rfl, by decide, by decide⟩ (fun w h Y => PySem.W.kIn_of Y) ?F (fun _ _ a ns hl hS => ⟨a, ns, rfl, hS, hl, fun _ => rfl⟩)
  case F =>
    intro w mg fa h KX G hmg
    refine' D.all_mk KX G hmg ?a_write_place ?l_write_place ?c_write_place ?k_write_place ?a_is_number ?l_is_number ?c_is_number ?k_is_number ?a__read_step ?l__read_step ?c__read_step ?k__read_step ?a_read_place ?l_read_place ?c_read_place ?k_read_place ?a__law_mixed ?l__law_mixed ?c__law_mixed ?k__law_mixed ?a__law_bag ?l__law_bag ?c__law_bag ?k__law_bag ?a__law_pick ?l__law_pick ?c__law_pick ?k__law_pick ?a__law_choice ?l__law_choice ?c__law_choice ?k__law_choice ?a__law_drawn_place ?l__law_drawn_place ?c__law_drawn_place ?k__law_drawn_place ?a__law_place_text ?l__law_place_text ?c__law_place_text ?k__law_place_text ?a__law_place_of ?l__law_place_of ?c__law_place_of ?k__law_place_of ?a__law_spoilt_text ?l__law_spoilt_text ?c__law_spoilt_text ?k__law_spoilt_text ?a_law ?l_law ?c_law ?k_law ?z_PLACE_DIGITS ?z_abs ?z_all ?z_enumerate ?z_int ?z_isinstance ?z_len ?z_range ?z_repr ?z_str ?z_tuple ?uD ?lD ?vD
    (case a_write_place => k_is); (case l_write_place => k_is); (case c_write_place => k_is); (case k_write_place => k_is); (case a_is_number => k_is); (case l_is_number => k_is); (case c_is_number => k_is); (case k_is_number => k_is); (case a__read_step => k_is); (case l__read_step => k_is); (case c__read_step => k_is); (case k__read_step => k_is); (case a_read_place => k_is); (case l_read_place => k_is); (case c_read_place => k_is); (case k_read_place => k_is); (case a__law_mixed => k_is); (case l__law_mixed => k_is); (case c__law_mixed => k_is); (case k__law_mixed => k_is); (case a__law_bag => k_is); (case l__law_bag => k_is); (case c__law_bag => k_is); (case k__law_bag => k_is); (case a__law_pick => k_is); (case l__law_pick => k_is); (case c__law_pick => k_is); (case k__law_pick => k_is); (case a__law_choice => k_is); (case l__law_choice => k_is); (case c__law_choice => k_is); (case k__law_choice => k_is); (case a__law_drawn_place => k_is); (case l__law_drawn_place => k_is); (case c__law_drawn_place => k_is); (case k__law_drawn_place => k_is); (case a__law_place_text => k_is); (case l__law_place_text => k_is); (case c__law_place_text => k_is); (case k__law_place_text => k_is); (case a__law_place_of => k_is); (case l__law_place_of => k_is); (case c__law_place_of => k_is); (case k__law_place_of => k_is); (case a__law_spoilt_text => k_is); (case l__law_spoilt_text => k_is); (case c__law_spoilt_text => k_is); (case k__law_spoilt_text => k_is); (case a_law => k_is); (case l_law => k_is); (case c_law => k_is); (case k_law => k_is); (case z_PLACE_DIGITS => k_is); (case z_abs => k_is); (case z_all => k_is); (case z_enumerate => k_is); (case z_int => k_is); (case z_isinstance => k_is); (case z_len => k_is); (case z_range => k_is); (case z_repr => k_is); (case z_str => k_is); (case z_tuple => k_is); (case uD => k_is); (case lD => k_is); (case vD => exact .cons ⟨_, rfl⟩ (.cons ⟨_, rfl⟩ (.cons ⟨_, rfl⟩ (.cons ⟨_, rfl⟩ (.cons ⟨_, rfl⟩ (.cons ⟨_, rfl⟩ (.cons ⟨_, rfl⟩ (.cons ⟨_, rfl⟩ (.cons ⟨_, rfl⟩ (.cons ⟨_, rfl⟩ .nil))))))))))

