import PyProof.Rows.All
import Wide.All
import OpenK.AllK
import Wide.FinOn
import PyProof.Rows.IntBool
import HandS.ForMost
import HandS.IsInst
import HandS.TupAny
import HandS.Conv
import HandS.More
import HandS.Style
import HandS.Property
import HandS.Star
import HandS.DictComp
import HandS.RaiseMore
import HandS.SetFor
import HandS.SlotsOwn
import HandS.Codes
import KE.GoesEnum
import HandS.Deep
import HandS.Strs
import HandS.ReCall
import HandS.Zip
import HandS.Flow
import HandS.ForExc
import HandS.ExcInit
import HandS.ExcField
import HandS.ExcIs
import KE.KExcIs
import HandS.OwnIter
import HandS.IterNext
import HandS.HotCalls
import HandS.ExcInitHot
import HandS.WordsExc
import PySem.Challenge.RW_drawnanew_k44_line_entries
set_option Elab.async false
set_option linter.all false
set_option maxRecDepth 100000
set_option maxHeartbeats 4000000
namespace D
open PySem PySem.Spec PyProof.Rows L2

/-! ### rules that the layer lacks -/
def bI (b : Bool) : Int := if b = true then 1 else 0
theorem op_mul_ib {X : Cx} : OpR X (binaryOp .Mult) (fun x y H Q => ∃ i k, x = .int i ∧ y = .bl k ∧ Q (.int (i * bI k)) H) := by
  intro pins s σ H x y v u Q I rx ry h
  obtain ⟨i, k, rfl, rfl, q⟩ := h
  obtain ⟨t, rfl⟩ := rx
  cases ry
  exact PySem.IntBool.mul_int_bool ⟨.int (i * bI k), H, I.tok _, ⟨_, rfl⟩, q⟩

/-! ### heaps: M the addresses that may be written -/
abbrev Ms := Addr → Prop
def Sx (M : Ms) (H H' : Hp) : Prop := ∀ a o, ¬ M a → H a = some o → H' a = some o
def one (b : Addr) : Ms := fun a => a = b
def also (M : Ms) (b : Addr) : Ms := fun a => M a ∨ a = b
/-- what may be written stands -/
def Mk (M : Ms) (H : Hp) : Prop := ∀ a, M a → H a ≠ none
theorem Sx.refl {M : Ms} {H : Hp} : Sx M H H := fun _ _ _ h => h
theorem Sx.trans {M : Ms} {H H1 H2 : Hp} (a : Sx M H H1) (b : Sx M H1 H2) : Sx M H H2 := fun c o n h => b c o n (a c o n h)
theorem Sx.le {M N : Ms} {H H' : Hp} (s : Sx M H H') (h : ∀ a, M a → N a) : Sx N H H' := fun a o n e => s a o (fun m => n (h a m)) e
theorem Sx.same {M : Ms} {H H' : Hp} (s : Same H H') : Sx M H H' := fun a o _ e => s a o e
theorem Sx.new {M : Ms} {H : Hp} {p : Addr} {o : HO} (h : H p = none) : Sx M H (upd H p o) := fun a u _ e => by
  rw [upd_ne (ne_of_none e h)]
  exact e
theorem Sx.put {M : Ms} {H : Hp} {p : Addr} {o : HO} (h : M p) : Sx M H (upd H p o) := fun a u n e => by
  rw [upd_ne (fun z => n (by rw [z]; exact h))]
  exact e
theorem same_new {H : Hp} {p : Addr} {o : HO} (h : H p = none) : Same H (upd H p o) := fun a u e => by
  rw [upd_ne (ne_of_none e h)]
  exact e
theorem Mk.step {M : Ms} {H H' : Hp} (m : Mk M H) (h : ∀ a, H a ≠ none → H' a ≠ none) : Mk M H' := fun a z => h a (m a z)
theorem there_new {H : Hp} {p a : Addr} {o : HO} (h : H a ≠ none) : upd H p o a ≠ none := by
  by_cases e : a = p
  · subst e
    rw [upd_same]
    exact fun z => nomatch z
  · rw [upd_ne e]
    exact h
/-- nothing goes -/
def Gr (H H' : Hp) : Prop := ∀ a, H a ≠ none → H' a ≠ none
theorem Gr.refl {H : Hp} : Gr H H := fun _ h => h
theorem Gr.trans {H H1 H2 : Hp} (a : Gr H H1) (b : Gr H1 H2) : Gr H H2 := fun c h => b c (a c h)
theorem Gr.upd {H : Hp} {p : Addr} {o : HO} : Gr H (upd H p o) := fun _ h => there_new h
theorem Gr.same {H H' : Hp} (s : Same H H') : Gr H H' := fun a h => by
  cases e : H a with
  | none => exact absurd e h
  | some o =>
    rw [s a o e]
    exact fun z => nomatch z
theorem Mk.gr {M : Ms} {H H' : Hp} (m : Mk M H) (g : Gr H H') : Mk M H' := fun a z => g a (m a z)
theorem Mk.out {M : Ms} {H : Hp} {p : Addr} (m : Mk M H) (h : H p = none) : ¬ M p := fun z => m p z h
theorem Mk.also {M : Ms} {H : Hp} {p : Addr} (m : Mk M H) (h : H p ≠ none) : Mk (also M p) H := fun a z => by
  rcases z with z | rfl
  · exact m a z
  · exact h
theorem ne_none {H : Hp} {p : Addr} {o : HO} (h : H p = some o) : H p ≠ none := by
  rw [h]
  exact fun z => nomatch z
theorem upd_there {H : Hp} {p : Addr} {o : HO} : upd H p o p ≠ none := by
  rw [upd_same]
  exact fun z => nomatch z

/-! ### lists and tuples that are read -/
theorem sx_rd {M : Ms} {H H' : Hp} {a : Addr} {u : HO} (s : Sx M H H') (n : ¬ M a) (h : Rd H a u) : Rd H' a u := by
  rcases h with h | ⟨o, h⟩
  · exact .inl (s a _ n h)
  · exact .inr ⟨o, s a _ n h⟩
theorem sx_l {K : PySem.W.Frag} {M : Ms} {H H' : Hp} {a : Addr} {xs : List V} (s : Sx M H H') (n : ¬ M a) (h : SqL K H a xs) : SqL K H' a xs := by
  rcases h with h | h
  · exact .inl (sx_rd s n h)
  · exact .inr h
theorem sx_t {K : PySem.W.Frag} {M : Ms} {H H' : Hp} {a : Addr} {xs : List V} (s : Sx M H H') (n : ¬ M a) (h : SqT K H a xs) : SqT K H' a xs := by
  rcases h with h | h
  · exact .inl (sx_rd s n h)
  · exact .inr h

/-! ### data -/
/-- a tuple that stands -/
inductive RdT (H : Hp) (a : Addr) (xs : List V) : Prop
  | inl (h : H a = some (.tup xs))
theorem RdT.rd {H : Hp} {a : Addr} {xs : List V} (h : RdT H a xs) : Rd H a (.tup xs) := h.casesOn fun h => .inl h
theorem RdT.at {H : Hp} {a : Addr} {xs : List V} (h : RdT H a xs) : H a = some (.tup xs) := h.casesOn fun h => h
theorem sx_rt {M : Ms} {H H' : Hp} {a : Addr} {u : List V} (s : Sx M H H') (n : ¬ M a) (h : RdT H a u) : RdT H' a u := .inl (s a _ n h.at)
mutual
inductive Rp (M : Ms) (H : Hp) : V → PyData → Prop
  | non : Rp M H .non .none
  | bl (b : Bool) : Rp M H (.bl b) (.bool b)
  | int (i : Int) : Rp M H (.int i) (.int i)
  | str (x : Str) : Rp M H (.str x) (.str x)
  | lst {a : Addr} {xs : List V} {ds : List PyData} : ¬ M a → Rd H a (.lst xs) → RpAll M H xs ds → Rp M H (.ref a) (.list ds)
  | tup {a : Addr} {xs : List V} {ds : List PyData} : ¬ M a → RdT H a xs → RpAll M H xs ds → Rp M H (.ref a) (.tuple ds)
inductive RpAll (M : Ms) (H : Hp) : List V → List PyData → Prop
  | nil : RpAll M H [] []
  | cons {v : V} {vs : List V} {d : PyData} {ds : List PyData} : Rp M H v d → RpAll M H vs ds → RpAll M H (v :: vs) (d :: ds)
end
section
variable {K : PySem.W.Frag} {M N : Ms} {H H' : Hp}
mutual
theorem Rp.imp (f : ∀ a u, ¬ M a → Rd H a u → ¬ N a) (fl : ∀ a u, ¬ M a → Rd H a u → Rd H' a u) (ft : ∀ a xs, ¬ M a → RdT H a xs → RdT H' a xs) : ∀ (d : PyData) (v : V), Rp M H v d → Rp N H' v d
  | .none, _, h => by cases h; exact .non
  | .bool b, _, h => by cases h; exact .bl b
  | .int i, _, h => by cases h; exact .int i
  | .str x, _, h => by cases h; exact .str x
  | .list ds, _, h => by
    cases h with
    | lst n s r => exact .lst (f _ _ n s) (fl _ _ n s) (RpAll.imp f fl ft ds _ r)
  | .tuple ds, _, h => by
    cases h with
    | tup n s r => exact .tup (f _ _ n s.rd) (ft _ _ n s) (RpAll.imp f fl ft ds _ r)
  | .dict _, _, h => by cases h
theorem RpAll.imp (f : ∀ a u, ¬ M a → Rd H a u → ¬ N a) (fl : ∀ a u, ¬ M a → Rd H a u → Rd H' a u) (ft : ∀ a xs, ¬ M a → RdT H a xs → RdT H' a xs) : ∀ (ds : List PyData) (vs : List V), RpAll M H vs ds → RpAll N H' vs ds
  | [], _, h => by cases h; exact .nil
  | d :: ds, _, h => by
    cases h with
    | cons h1 h2 => exact .cons (Rp.imp f fl ft d _ h1) (RpAll.imp f fl ft ds _ h2)
end
theorem Rp.sx {v : V} {d : PyData} (s : Sx M H H') (h : Rp M H v d) : Rp M H' v d := Rp.imp (fun _ _ n _ => n) (fun _ _ n q => sx_rd s n q) (fun _ _ n q => sx_rt s n q) d v h
theorem RpAll.sx {vs : List V} {ds : List PyData} (s : Sx M H H') (h : RpAll M H vs ds) : RpAll M H' vs ds := RpAll.imp (fun _ _ n _ => n) (fun _ _ n q => sx_rd s n q) (fun _ _ n q => sx_rt s n q) ds vs h
/-- fewer that may be written -/
theorem Rp.less {v : V} {d : PyData} (f : ∀ a, N a → M a) (h : Rp M H v d) : Rp N H v d := Rp.imp (fun a _ n _ m => n (f a m)) (fun _ _ _ q => q) (fun _ _ _ q => q) d v h
theorem RpAll.less {vs : List V} {ds : List PyData} (f : ∀ a, N a → M a) (h : RpAll M H vs ds) : RpAll N H vs ds := RpAll.imp (fun a _ n _ m => n (f a m)) (fun _ _ _ q => q) (fun _ _ _ q => q) ds vs h

/-- an address that no datum reads: nothing stands there -/
theorem sql_kept {a p : Addr} {xs : List V} {o : HO} (h : SqL K H a xs) (n : H p = none) : SqL K (upd H p o) a xs := sx_l (M := fun _ => False) (Sx.new n) (fun z => z) h
theorem sqt_kept {a p : Addr} {xs : List V} {o : HO} (h : SqT K H a xs) (n : H p = none) : SqT K (upd H p o) a xs := sx_t (M := fun _ => False) (Sx.new n) (fun z => z) h

mutual
theorem Rp.dp : ∀ (d : PyData) (v : V), Rp M H v d → Dp K H v d
  | .none, _, h => by cases h; exact .non
  | .bool b, _, h => by cases h; exact .bl b
  | .int i, _, h => by cases h; exact .int i
  | .str x, _, h => by cases h; exact .str x
  | .list ds, _, h => by
    cases h with
    | lst n s r => exact .lst (.inl s) (RpAll.dp ds _ r)
  | .tuple ds, _, h => by
    cases h with
    | tup n s r => exact .tup (.inl s.rd) (RpAll.dp ds _ r)
  | .dict _, _, h => by cases h
theorem RpAll.dp : ∀ (ds : List PyData) (vs : List V), RpAll M H vs ds → DpAll K H vs ds
  | [], _, h => by cases h; exact .nil
  | d :: ds, _, h => by
    cases h with
    | cons h1 h2 => exact .cons (Rp.dp d _ h1) (RpAll.dp ds _ h2)
end
theorem RpAll.length : ∀ {ds : List PyData} {vs : List V}, RpAll M H vs ds → vs.length = ds.length
  | [], _, h => by cases h; rfl
  | d :: ds, _, h => by
    cases h with
    | cons _ h2 =>
      rw [List.length_cons, List.length_cons, RpAll.length h2]
theorem RpAll.get : ∀ {ds : List PyData} {vs : List V} {i : Nat} {v : V}, RpAll M H vs ds → vs[i]? = some v → ∃ d, ds[i]? = some d ∧ Rp M H v d
  | [], _, i, v, h, e => by cases h; simp at e
  | d :: ds, _, 0, v, h, e => by
    cases h with
    | cons h1 _ =>
      have e1 := Option.some.inj e
      subst e1
      exact ⟨d, rfl, h1⟩
  | d :: ds, _, i + 1, v, h, e => by
    cases h with
    | cons _ h2 => exact RpAll.get (i := i) h2 e
theorem RpAll.getD : ∀ {ds : List PyData} {vs : List V} {i : Nat} {d : PyData}, RpAll M H vs ds → ds[i]? = some d → ∃ v, vs[i]? = some v ∧ Rp M H v d
  | [], _, i, v, h, e => by simp at e
  | d :: ds, _, 0, v, h, e => by
    cases h with
    | cons h1 _ =>
      have e1 := Option.some.inj e
      subst e1
      exact ⟨_, rfl, h1⟩
  | d :: ds, _, i + 1, v, h, e => by
    cases h with
    | cons _ h2 => exact RpAll.getD (i := i) h2 e
theorem RpAll.append : ∀ {ds es : List PyData} {vs us : List V}, RpAll M H vs ds → RpAll M H us es → RpAll M H (vs ++ us) (ds ++ es)
  | [], _, _, _, h, g => by cases h; exact g
  | d :: ds, _, _, _, h, g => by
    cases h with
    | cons h1 h2 => exact .cons h1 (RpAll.append h2 g)
theorem RpAll.take : ∀ (n : Nat) {ds : List PyData} {vs : List V}, RpAll M H vs ds → RpAll M H (vs.take n) (ds.take n)
  | 0, _, _, _ => .nil
  | n + 1, [], _, h => by cases h; exact .nil
  | n + 1, d :: ds, _, h => by
    cases h with
    | cons h1 h2 => exact .cons h1 (RpAll.take n h2)
theorem RpAll.drop : ∀ (n : Nat) {ds : List PyData} {vs : List V}, RpAll M H vs ds → RpAll M H (vs.drop n) (ds.drop n)
  | 0, _, _, h => h
  | n + 1, [], _, h => by cases h; exact .nil
  | n + 1, d :: ds, _, h => by
    cases h with
    | cons h1 h2 => exact RpAll.drop n h2
theorem RpAll.one {v : V} {d : PyData} (h : Rp M H v d) : RpAll M H [v] [d] := .cons h .nil
theorem RpAll.eraseIdx : ∀ (n : Nat) {ds : List PyData} {vs : List V}, RpAll M H vs ds → RpAll M H (vs.eraseIdx n) (ds.eraseIdx n)
  | _, [], _, h => by cases h; exact .nil
  | 0, d :: ds, _, h => by
    cases h with
    | cons h1 h2 => exact h2
  | n + 1, d :: ds, _, h => by
    cases h with
    | cons h1 h2 => exact .cons h1 (RpAll.eraseIdx n h2)
theorem RpAll.ints : ∀ (ns : List Int), RpAll M H (ns.map V.int) (ns.map PyData.int)
  | [] => .nil
  | n :: r => .cons (.int n) (RpAll.ints r)
theorem RpAll.ofInts : ∀ {ns : List Int} {vs : List V}, RpAll M H vs (ns.map PyData.int) → vs = ns.map V.int
  | [], _, h => by cases h; rfl
  | n :: r, _, h => by
    cases h with
    | cons h1 h2 =>
      cases h1
      rw [RpAll.ofInts h2]
      rfl
end

/-- a fresh address may be written from now on -/
theorem rd_ne {H : Hp} {a p : Addr} {u : HO} (h : Rd H a u) (n : H p = none) : a ≠ p := fun e => by
  subst e
  rcases h with h | ⟨o, h⟩ <;> rw [n] at h <;> cases h
theorem Rp.fresh {M : Ms} {H : Hp} {p : Addr} (hp : H p = none) : ∀ {d : PyData} {v : V}, Rp M H v d → Rp (also M p) H v d := fun {d v} h => Rp.imp (fun a u n r z => z.elim n fun e => rd_ne r hp e) (fun _ _ _ q => q) (fun _ _ _ q => q) d v h
theorem RpAll.fresh {M : Ms} {H : Hp} {p : Addr} (hp : H p = none) {ds : List PyData} {vs : List V} (h : RpAll M H vs ds) : RpAll (also M p) H vs ds := RpAll.imp (fun a u n r z => z.elim n fun e => rd_ne r hp e) (fun _ _ _ q => q) (fun _ _ _ q => q) ds vs h
theorem also_le {M : Ms} {p : Addr} : ∀ a, M a → also M p a := fun _ h => .inl h

/-! ### the bag of a script's numbers -/
structure Bag (K : PySem.W.Frag) (M : Ms) (H : Hp) (b : Addr) : Prop where
  w : M b
  h : ∃ (n : Addr) (ns : List Int) (p r t s : Int), H b = some (.lst [.ref n, .int p, .int r, .int t, .int s]) ∧ ¬ M n ∧ Rd H n (.lst (ns.map V.int)) ∧ 0 ≤ p ∧ 0 ≤ r
/-- only the object at b has changed -/
def At (b : Addr) (H H' : Hp) : Prop := ∀ a, a ≠ b → H' a = H a
theorem At.upd {b : Addr} {H : Hp} {o : HO} : At b H (upd H b o) := fun _ n => upd_ne n
theorem At.sx {b : Addr} {H H' : Hp} (h : At b H H') : Sx (one b) H H' := fun a o n e => (h a n).trans e
theorem Bag.there {K : PySem.W.Frag} {M : Ms} {H : Hp} {b : Addr} (h : Bag K M H b) : H b ≠ none := by
  obtain ⟨_, n, ns, p, r, t, s, e, _⟩ := h
  exact ne_none e
/-- other things are written, new ones made -/
theorem Bag.keep {K : PySem.W.Frag} {M N : Ms} {H H' : Hp} {b : Addr} (h : Bag K M H b) (s : Sx N H H') (nb : ¬ N b) (le : ∀ a, N a → M a) : Bag K M H' b := by
  obtain ⟨w, n, ns, p, r, t, sd, e, hn, rd, q⟩ := h
  exact ⟨w, n, ns, p, r, t, sd, s _ _ nb e, hn, sx_rd s (fun z => hn (le _ z)) rd, q⟩
theorem Bag.more {K : PySem.W.Frag} {M : Ms} {H : Hp} {b p : Addr} (h : Bag K M H b) (hp : H p = none) : Bag K (also M p) H b := by
  obtain ⟨w, n, ns, q, r, t, sd, e, hn, rd, z⟩ := h
  exact ⟨.inl w, n, ns, q, r, t, sd, e, fun m => m.elim hn fun e => rd_ne rd hp e, rd, z⟩
theorem Bag.less {K : PySem.W.Frag} {M N : Ms} {H : Hp} {b : Addr} (h : Bag K M H b) (w : N b) (f : ∀ a, N a → M a) : Bag K N H b := by
  obtain ⟨_, n, ns, q, r, t, sd, e, hn, rd, z⟩ := h
  exact ⟨w, n, ns, q, r, t, sd, e, fun m => hn (f _ m), rd, z⟩
theorem one_le {M : Ms} {b : Addr} (w : M b) : ∀ a, one b a → M a := fun a e => by
  have e' : a = b := e
  rw [e']
  exact w
/-- a draw: behind it the bag stands, all else too -/
def Dr (K : PySem.W.Frag) (M : Ms) (b : Addr) (H : Hp) (R : PyData → Prop) (Q : VK) : Prop := ∀ v H' d, Sx (one b) H H' → Gr H H' → Bag K M H' b → Rp M H' v d → R d → Q v H'
/-- a def that writes nothing -/
def Pu (M : Ms) (H : Hp) (R : PyData → Prop) (Q : VK) : Prop := ∀ v H' d, Same H H' → Rp M H' v d → R d → Q v H'

/-! ### loops that the layer has no short rule for -/
theorem for_enum {K : PySem.W.Frag} {a : Addr} {xs : List V} {g : TG} {tb : TS} {D : Ends} {σ : L2.St} {H : Hp} (Pv : Nat → L2.St → Hp → Prop) (h0 : Pv 0 σ H) (hl : ∀ i σ H, i ≤ xs.length → Pv i σ H → SqL K H a xs)
    (hs : ∀ i x T σ H, xs[i]? = some x → H T = none → Pv i σ H → g (.ref T) σ (upd H T (.tup [.int (i : Nat), x])) fun σ2 H2 => tb { D with nx := Pv (i + 1), ct := Pv (i + 1), bk := D.nx } σ2 H2) (hd : ∀ σ H, Pv xs.length σ H → D.nx σ H) :
    ∃ W : Nat → Nat → L2.St → Hp → Prop, (∃ m, W 0 m σ H) ∧ ∀ i m σ H, W i m σ H →
      ((Ite K a).stop i H ∧ D.nx σ H) ∨ ((Ite K a).go i H ∧ ∃ N : L2.St → Hp → Prop, (∀ σ' H', N σ' H' → ∃ m', m' < m ∧ W (i + 1) m' σ' H') ∧ ∀ x H', (Ite K a).yld i H x H' → g x σ H' fun σ2 H2 => tb { D with nx := N, ct := N, bk := D.nx } σ2 H2) := by
  refine ⟨fun i m σ H => m = xs.length - i ∧ i ≤ xs.length ∧ Pv i σ H, ⟨xs.length, by simp, Nat.zero_le _, h0⟩, ?_⟩
  rintro i m σ H ⟨rfl, hi, p⟩
  have q := hl i σ H hi p
  by_cases hlt : i < xs.length
  · refine .inr ⟨⟨xs, xs[i], q, by simp [hlt]⟩, Pv (i + 1), fun σ' H' p' => ⟨xs.length - (i + 1), by omega, rfl, hlt, p'⟩, fun x H' y => ?_⟩
    obtain ⟨T, z, rfl, hT, rfl, hz⟩ := y
    exact hs i z T σ _ (hz xs q) hT p
  · have e : i = xs.length := by omega
    subst e
    exact .inl ⟨⟨xs, q, Nat.le_refl _⟩, hd σ H p⟩

theorem seqIx {j n : Nat} (h : j < n) : seqIndex? (j : Int) n = some j := by
  unfold seqIndex?
  have h1 : ¬ ((j : Int) < 0) := by omega
  have h2 : (0 : Int) ≤ (j : Int) := by omega
  have h3 : (j : Int) < (n : Int) := by omega
  simp only [if_neg h1, decide_eq_true h2, decide_eq_true h3, Bool.and_self, if_true, Int.toNat_natCast]
theorem small1000000 {n : Nat} (h : n ≤ 1000000) : n < sizeLine := Nat.lt_of_le_of_lt h (by decide)
theorem At.gr {b : Addr} {H H' : Hp} (h : At b H H') (hb : H' b ≠ none) : Gr H H' := fun a n => by
  by_cases e : a = b
  · rw [e]
    exact hb
  · rw [h a e]
    exact n

/-- what did not stand needs no leave -/
theorem Sx.cut {M : Ms} {H H' : Hp} {p : Addr} (s : Sx (also M p) H H') (n : H p = none) : Sx M H H' := fun a o m e => s a o (fun z => z.elim m fun z => by
  rw [z, n] at e
  cases e) e

theorem str_len (x y : Str) : (x ++ y).length = x.length + y.length := by
  show (x.cps ++ y.cps).size = _
  rw [Array.size_append]
  rfl

theorem log2_10 {v : Int} (h0 : 0 ≤ v) (h1 : v < 10) : v.natAbs.log2 < 1920 := Nat.lt_of_le_of_lt (Nat.log2_le_self _) (by omega)
theorem dig_len {v : Int} (h0 : 0 ≤ v) (h1 : v < 10) : (Str.ofString (toString v)).length = 1 := by
  have h : v = 0 ∨ v = 1 ∨ v = 2 ∨ v = 3 ∨ v = 4 ∨ v = 5 ∨ v = 6 ∨ v = 7 ∨ v = 8 ∨ v = 9 := by omega
  rcases h with rfl | rfl | rfl | rfl | rfl | rfl | rfl | rfl | rfl | rfl <;> decide +kernel
def isLab : V → Bool
  | .str z => decide (z.length ≤ 30)
  | _ => false
theorem lab_all (xs : List V) (h : xs.all isLab = true) : ∀ v ∈ xs, ∃ z : Str, v = V.str z ∧ z.length ≤ 30 := fun v hv => by
  have h1 := List.all_eq_true.mp h v hv
  cases v with
  | str z => exact ⟨z, rfl, of_decide_eq_true h1⟩
  | _ => cases h1

theorem sz2 {x y : V} : [x, y].length ≤ sizeLine := by show 2 ≤ sizeLine; decide
/-! ### sizes of nodes -/
def mx (ns : List Int) : Int := ns.foldl (fun a b => if a < b then b else a) 0
theorem foldmx : ∀ (ns : List Int) (a : Int), a ≤ ns.foldl (fun a b => if a < b then b else a) a ∧ (∀ n ∈ ns, n ≤ ns.foldl (fun a b => if a < b then b else a) a) ∧ (ns.foldl (fun a b => if a < b then b else a) a = a ∨ ns.foldl (fun a b => if a < b then b else a) a ∈ ns)
  | [], a => ⟨Int.le_refl _, (fun _ h => nomatch h), .inl rfl⟩
  | n :: r, a => by
    have ih := foldmx r (if a < n then n else a)
    simp only [List.foldl_cons]
    obtain ⟨h1, h2, h3⟩ := ih
    refine ⟨?_, fun m hm => ?_, ?_⟩
    · split at h1 <;> split <;> omega
    · rcases List.mem_cons.mp hm with rfl | hm
      · split at h1 <;> split <;> omega
      · exact h2 m hm
    · rcases h3 with h3 | h3
      · by_cases c : a < n
        · right
          rw [if_pos c] at h3 ⊢
          rw [h3]
          exact List.mem_cons_self
        · left
          rw [if_neg c] at h3 ⊢
          exact h3
      · exact .inr (List.mem_cons_of_mem _ h3)
theorem mx_of {ns : List Int} {m : Int} (h0 : ∀ n ∈ ns, 0 ≤ n) (hm : m ∈ ns) (hle : ∀ y, y ∈ ns → y ≤ m) : m = mx ns := by
  obtain ⟨h1, h2, h3⟩ := foldmx ns 0
  have a := h2 m hm
  have b := h0 m hm
  unfold mx
  rcases h3 with h3 | h3
  · omega
  · have c := hle _ h3
    omega
theorem mx_take {ns : List Int} {i : Nat} {z : Int} (h : ns[i]? = some z) : mx (ns.take (i + 1)) = if mx (ns.take i) < z then z else mx (ns.take i) := by
  unfold mx
  rw [List.take_add_one, h, List.foldl_append]
  rfl
def sRow : Str := "row"
def sCol : Str := "col"
def szf (z : Str) (ps : List (Int × Int)) : Int × Int :=
  if ps = [] then (if z = sRow ∨ z = sCol then (0, 0) else ((z.length : Int), 1))
  else if z = sRow then ((ps.map (·.1)).sum, mx (ps.map (·.2))) else (mx (ps.map (·.1)), (ps.map (·.2)).sum)
/-- pairs -/
def pD (p : Int × Int) : PyData := .tuple [.int p.1, .int p.2]
theorem Rp.pair {M : Ms} {H : Hp} {v : V} {p : Int × Int} (h : Rp M H v (pD p)) : ∃ t, v = .ref t ∧ Rd H t (.tup [.int p.1, .int p.2]) := by
  cases h with
  | @tup a xs _ n s r =>
    cases r with
    | cons h1 h2 =>
      cases h2 with
      | cons h3 h4 =>
        cases h1
        cases h3
        cases h4
        exact ⟨a, rfl, s.rd⟩
theorem RpAll.pair {M : Ms} {H : Hp} {vs : List V} {ps : List (Int × Int)} {i : Nat} {v : V} (h : RpAll M H vs (ps.map pD)) (hv : vs[i]? = some v) : ∃ p t, ps[i]? = some p ∧ v = .ref t ∧ Rd H t (.tup [.int p.1, .int p.2]) := by
  obtain ⟨d, hd, hr⟩ := h.get hv
  rw [List.getElem?_map] at hd
  obtain ⟨p, hp, rfl⟩ := Option.map_eq_some_iff.mp hd
  obtain ⟨t, e, r⟩ := hr.pair
  exact ⟨p, t, hp, e, r⟩
theorem same_rd {H H' : Hp} {a : Addr} {u : HO} (s : Same H H') (h : Rd H a u) : Rd H' a u := sx_rd (M := fun _ => False) (Sx.same s) (fun z => z) h

/-! ### the layer's rules with the written part named, for comprehensions -/
section
variable {X : Cx} {K : PySem.W.Frag}
theorem ix_listK (h : X.K = K) : IxR X (rIxL K) := by subst h; exact ix_list
theorem ix_tupK (h : X.K = K) : IxR X (rIxT K) := by subst h; exact ix_tup
theorem sl_listK (h : X.K = K) : SlR X (rSlL K) := by subst h; exact sl_list
theorem sl_tupK (h : X.K = K) : SlR X (rSlA K) := by subst h; exact sl_tupA
theorem op_in_seqK (h : X.K = K) : OpR X (compareOp .In) (rIn K false) := by subst h; exact op_in_seq
theorem op_notIn_seqK (h : X.K = K) : OpR X (compareOp .NotIn) (rIn K true) := by subst h; exact op_notIn_seq
theorem op_catAK (h : X.K = K) : OpR X (binaryOp .Add) (rCatA K) := by subst h; exact op_catA
theorem op_eqDK (h : X.K = K) (hu : X.A.units + 64 < cLine) : OpR X (compareOp .Eq) (rEqD K) := by subst h; exact op_eqD hu
theorem op_neDK (h : X.K = K) (hu : X.A.units + 64 < cLine) : OpR X (compareOp .NotEq) (rNeD K) := by subst h; exact op_neD hu
def rLenS (K : PySem.W.Frag) : List V → Hp → VK → Prop := fun xs H Q => ∃ p ys, xs = [.ref p] ∧ (SqL K H p ys ∨ SqT K H p ys) ∧ Q (.int ys.length) H
theorem call_lenK (h : X.K = K) : CallR X (.builtin "len") (rLenS K) := by subst h; exact call_len_seq
def rListS (K : PySem.W.Frag) : List V → Hp → VK → Prop := fun xs H Q => ∃ p ys, xs = [.ref p] ∧ (SqL K H p ys ∨ SqT K H p ys) ∧ ∀ l, H l = none → Q (.ref l) (upd H l (.lst ys))
theorem call_listK (h : X.K = K) : CallR X (.type "list") (rListS K) := by subst h; exact call_list_of
def rTupS (K : PySem.W.Frag) : List V → Hp → VK → Prop := fun xs H Q => ∃ p ys, xs = [.ref p] ∧ ((SqL K H p ys ∧ ∀ l, H l = none → Q (.ref l) (upd H l (.tup ys))) ∨ (SqT K H p ys ∧ Q (.ref p) H))
theorem call_tupleK (h : X.K = K) : CallR X (.type "tuple") (rTupS K) := by subst h; exact call_tuple_of
theorem cr_sumK (h : X.K = K) (hc : X.calm = true) : CallR X (.builtin "sum") (rSum K) := by subst h; exact cr_sum hc
theorem cr_maxK (h : X.K = K) (hc : X.calm = true) : CallR X (.builtin "max") (rMax K) := by subst h; exact cr_max hc
theorem cr_minK (h : X.K = K) (hc : X.calm = true) : CallR X (.builtin "min") (rMin K) := by subst h; exact cr_min hc
theorem cr_anyK (h : X.K = K) (hc : X.calm = true) : CallR X (.builtin "any") (rAny K) := by subst h; exact cr_any hc
theorem cr_allK (h : X.K = K) (hc : X.calm = true) : CallR X (.builtin "all") (rAll K) := by subst h; exact cr_all hc
theorem call_isi1K (h : X.K = K) : CallR X (.builtin "isinstance") (rIsi K) := by subst h; exact call_isi
theorem call_isiTK (h : X.K = K) : CallR X (.builtin "isinstance") (rIsiT K) := by subst h; exact call_isiT
def tTruth (K : PySem.W.Frag) (ta : TE) : TT := fun σ H Q => ta σ H fun x H' => ∃ k, TruV K x H' k ∧ Q k H'
theorem pt_truthK {a : Expr} {ta : TE} (h : X.K = K) (ha : PE X a ta) (he : ∀ whole, isTrue a X.env whole = (do let v ← whole; standAt a.pos; holding [v] (truthy v))) : PT X a (tTruth K ta) := by subst h; exact pt_truth ha he
theorem pe_fldK {e : Expr} {f : Str} {pos : Pos} {ta : TE} (h : X.K = K) (he : PE X e ta) (hb : attributeBase e f X.env (eval e X.env) = eval e X.env) : PE X (.Attribute e f pos) (tFld K ta f) := by subst h; exact pe_fld he hb
theorem pi_listK {tg l : Expr} {tl : TE} (h : X.K = K) (hl : PE X l tl) : PI X tg l (iList K tl) := by subst h; exact pi_list hl
theorem pi_tupK {tg l : Expr} {tl : TE} (h : X.K = K) (hl : PE X l tl) : PI X tg l (iTup K tl) := by subst h; exact pi_tup hl
theorem pg_tupK {es : List Expr} {k : Nat} {t : TGs} {n : Nat} {pos : Pos} (hK : X.K = K) (hc : X.calm = true) (h : PGs X es t)
    (hn : (assignEach es X.env).length = n := by rfl) (hst : (assignEach es X.env).findIdx? (·.1) = none := by rfl) : PG X (.Tuple es k pos) (gTup K n t) := by subst hK; exact pg_tup hc h hn hst
theorem pi_enumK {e : Expr} {ta : TA} {p pos tpos : Pos} {elts : List Expr} {kk : Nat} (hK : X.K = K) (hg : Gl X "enumerate") (hm : X.mg "enumerate" = none) (ha : PA X [e] ta) (hs : starEach [e] X.env = [(false, eval e X.env)] := by rfl) :
    PI X (.Tuple elts kk tpos) (.Call (.Name "enumerate" p) [e] [] pos) (iEnum K ta) := by subst hK; exact pi_enum hg hm ha hs
theorem pi_zipK {e e2 : Expr} {ta : TA} {p pos tpos : Pos} {elts : List Expr} {kk : Nat} (hK : X.K = K) (hg : Gl X "zip") (hm : X.mg "zip" = none) (ha : PA X [e, e2] ta)
    (hs : starEach [e, e2] X.env = (false, eval e X.env) :: starEach [e2] X.env := by rfl) (hpl : (backTo pos (starEach [e2] X.env)).any (·.1) = false := by rfl) :
    PI X (.Tuple elts kk tpos) (.Call (.Name "zip" p) [e, e2] [] pos) (iZip K ta) := by subst hK; exact pi_zip hg hm ha hs hpl
end

/-- a comprehension over a list whose elements make nothing -/
theorem lc_vals {K : PySem.W.Frag} {a : Addr} {xs ys : List V} {g : TG} {tt : TT} {te : TE} {vs : List Nat} {σ : L2.St} {H : Hp} {D : Addr} {Qd : Hp → Prop} (hD : H D = none) (hS : SqL K H a xs) (hn : ys.length = xs.length) (hz : xs.length ≤ 1000000)
    (hs : ∀ (i : Nat) (x y : V) (H' : Hp) (C : VK) (N : Hp → Prop), xs[i]? = some x → ys[i]? = some y → Same H H' → C y H' → g x (wipe σ vs) H' fun σ2 H2 => wipe σ2 vs = wipe σ vs ∧ tt σ2 H2 fun b H3 => if b = true then te σ2 H3 C else N H3)
    (hd : ∀ H', Same H H' → H' D = some (.lst ys) → Qd H') :
    ∃ W : Nat → Nat → Hp → Prop, (∃ m, W 0 m (upd H D (.lst []))) ∧ ∀ i m H, W i m H →
      ((Itl K a).stop i H ∧ Qd H) ∨ ((Itl K a).go i H ∧ ∃ Nx : Hp → Prop, (∀ H', Nx H' → ∃ m', m' < m ∧ W (i + 1) m' H') ∧ ∀ x H', (Itl K a).yld i H x H' → g x (wipe σ vs) H' fun σ2 H2 => wipe σ2 vs = wipe σ vs ∧ tt σ2 H2 fun b H3 =>
        if b = true then te σ2 H3 fun y H4 => ∃ acc, H4 D = some (.lst acc) ∧ acc.length < sizeLine ∧ Nx (upd H4 D (.lst (acc ++ [y]))) else Nx H3) := by
  refine lc_list (K := K) (a := a) (xs := xs) (fun i H' => Same H H' ∧ H' D = some (.lst (ys.take i))) ⟨same_new hD, by rw [upd_same]; rfl⟩ (fun i H' _ p => p.1.seq hS) (fun i x H' hx p => ?_) (fun H' p => ?_)
  · have hi : i < ys.length := by
      rw [hn]
      exact (List.getElem?_eq_some_iff.mp hx).1
    refine hs i x ys[i] H' _ _ hx (List.getElem?_eq_getElem hi) p.1 ⟨_, p.2, ?_, fun c o e => ?_, ?_⟩
    · rw [List.length_take]
      exact small1000000 (by omega)
    · rw [upd_ne (ne_of_none e hD)]
      exact p.1 c o e
    · rw [upd_same, List.take_add_one, List.getElem?_eq_getElem hi]
      rfl
  · refine hd H' p.1 ?_
    have e := p.2
    rw [← hn, List.take_length] at e
    exact e
theorem same_sqt {K : PySem.W.Frag} {H H' : Hp} {a : Addr} {xs : List V} (s : Same H H') (h : SqT K H a xs) : SqT K H' a xs := sx_t (M := fun _ => False) (Sx.same s) (fun z => z) h
/-- a comprehension over a tuple whose elements make nothing -/
theorem lc_valsT {K : PySem.W.Frag} {a : Addr} {xs ys : List V} {g : TG} {tt : TT} {te : TE} {vs : List Nat} {σ : L2.St} {H : Hp} {D : Addr} {Qd : Hp → Prop} (hD : H D = none) (hS : SqT K H a xs) (hn : ys.length = xs.length) (hz : xs.length ≤ 1000000)
    (hs : ∀ (i : Nat) (x y : V) (H' : Hp) (C : VK) (N : Hp → Prop), xs[i]? = some x → ys[i]? = some y → Same H H' → C y H' → g x (wipe σ vs) H' fun σ2 H2 => wipe σ2 vs = wipe σ vs ∧ tt σ2 H2 fun b H3 => if b = true then te σ2 H3 C else N H3)
    (hd : ∀ H', Same H H' → H' D = some (.lst ys) → Qd H') :
    ∃ W : Nat → Nat → Hp → Prop, (∃ m, W 0 m (upd H D (.lst []))) ∧ ∀ i m H, W i m H →
      ((Itt K a).stop i H ∧ Qd H) ∨ ((Itt K a).go i H ∧ ∃ Nx : Hp → Prop, (∀ H', Nx H' → ∃ m', m' < m ∧ W (i + 1) m' H') ∧ ∀ x H', (Itt K a).yld i H x H' → g x (wipe σ vs) H' fun σ2 H2 => wipe σ2 vs = wipe σ vs ∧ tt σ2 H2 fun b H3 =>
        if b = true then te σ2 H3 fun y H4 => ∃ acc, H4 D = some (.lst acc) ∧ acc.length < sizeLine ∧ Nx (upd H4 D (.lst (acc ++ [y]))) else Nx H3) := by
  refine lc_tup (K := K) (a := a) (xs := xs) (fun i H' => Same H H' ∧ H' D = some (.lst (ys.take i))) ⟨same_new hD, by rw [upd_same]; rfl⟩ (fun i H' _ p => same_sqt p.1 hS) (fun i x H' hx p => ?_) (fun H' p => ?_)
  · have hi : i < ys.length := by
      rw [hn]
      exact (List.getElem?_eq_some_iff.mp hx).1
    refine hs i x ys[i] H' _ _ hx (List.getElem?_eq_getElem hi) p.1 ⟨_, p.2, ?_, fun c o e => ?_, ?_⟩
    · rw [List.length_take]
      exact small1000000 (by omega)
    · rw [upd_ne (ne_of_none e hD)]
      exact p.1 c o e
    · rw [upd_same, List.take_add_one, List.getElem?_eq_getElem hi]
      rfl
  · refine hd H' p.1 ?_
    have e := p.2
    rw [← hn, List.take_length] at e
    exact e

/-- two ways meet behind an if without else -/
theorem join2 {b : Bool} {A : Prop} {N : L2.St → Hp → Prop} {σ : L2.St} {H : Hp} (Pv : L2.St → Hp → Prop) (h1 : b = true → (∀ σ H, Pv σ H → N σ H) → A) (h2 : b = false → Pv σ H) (hN : ∀ σ H, Pv σ H → N σ H) : if b = true then A else N σ H := by
  cases b with
  | true =>
    rw [if_pos rfl]
    exact h1 rfl hN
  | false =>
    rw [if_neg Bool.false_ne_true]
    exact hN _ _ (h2 rfl)


theorem RpAll.rep {M : Ms} {H : Hp} {xs : List V} {ds : List PyData} (h : RpAll M H xs ds) : ∀ n : Nat, RpAll M H (List.replicate n xs).flatten (List.replicate n ds).flatten
  | 0 => .nil
  | n + 1 => by
    rw [List.replicate_succ, List.replicate_succ, List.flatten_cons, List.flatten_cons]
    exact h.append (RpAll.rep h n)
theorem Bag.same {K : PySem.W.Frag} {M : Ms} {H H' : Hp} {b : Addr} (h : Bag K M H b) (s : Same H H') : Bag K M H' b := h.keep (N := fun _ => False) (Sx.same s) (fun z => z) (fun _ z => z.elim)
/-- a list of data that may still be written -/
def Ld (M : Ms) (H : Hp) (a : Addr) (ds : List PyData) : Prop := ¬ M a ∧ ∃ xs, H a = some (.lst xs) ∧ RpAll M H xs ds
theorem Ld.rp {M : Ms} {H : Hp} {a : Addr} {ds : List PyData} (h : Ld M H a ds) : Rp M H (.ref a) (.list ds) := by
  obtain ⟨n, xs, e, r⟩ := h
  exact .lst n (.inl e) r
theorem Ld.sx {M : Ms} {H H' : Hp} {a : Addr} {ds : List PyData} (h : Ld M H a ds) (s : Sx M H H') : Ld M H' a ds := by
  obtain ⟨n, xs, e, r⟩ := h
  exact ⟨n, xs, s _ _ n e, r.sx s⟩
theorem Ld.new {M : Ms} {H : Hp} {a : Addr} {xs : List V} {ds : List PyData} (m : Mk M H) (h : H a = none) (r : RpAll M H xs ds) : Ld M (upd H a (.lst xs)) a ds := ⟨m.out h, xs, upd_same, r.sx (Sx.new h)⟩
/-- a comprehension over a list: each element a datum, made on the way -/
theorem lc_data {K : PySem.W.Frag} {a : Addr} {xs : List V} {ys : List PyData} {g : TG} {tt : TT} {te : TE} {vs : List Nat} {σ : L2.St} {H : Hp} {D : Addr} {Qd : Hp → Prop} (M : Ms) (hM : Mk M H) (hD : H D = none) (hS : SqL K H a xs) (hn : ys.length = xs.length) (hz : xs.length ≤ 1000000)
    (hs : ∀ (i : Nat) (x : V) (y : PyData) (H' : Hp) (C : VK) (N : Hp → Prop), xs[i]? = some x → ys[i]? = some y → Same H H' → Mk (also M D) H' → (∀ v H2, Same H' H2 → Rp (also M D) H2 v y → C v H2) → g x (wipe σ vs) H' fun σ2 H2 => wipe σ2 vs = wipe σ vs ∧ tt σ2 H2 fun b H3 => if b = true then te σ2 H3 C else N H3)
    (hd : ∀ H', Same H H' → Ld M H' D ys → Qd H') :
    ∃ W : Nat → Nat → Hp → Prop, (∃ m, W 0 m (upd H D (.lst []))) ∧ ∀ i m H, W i m H →
      ((Itl K a).stop i H ∧ Qd H) ∨ ((Itl K a).go i H ∧ ∃ Nx : Hp → Prop, (∀ H', Nx H' → ∃ m', m' < m ∧ W (i + 1) m' H') ∧ ∀ x H', (Itl K a).yld i H x H' → g x (wipe σ vs) H' fun σ2 H2 => wipe σ2 vs = wipe σ vs ∧ tt σ2 H2 fun b H3 =>
        if b = true then te σ2 H3 fun y H4 => ∃ acc, H4 D = some (.lst acc) ∧ acc.length < sizeLine ∧ Nx (upd H4 D (.lst (acc ++ [y]))) else Nx H3) := by
  refine lc_list (K := K) (a := a) (xs := xs) (fun i H' => Same H H' ∧ ∃ acc, H' D = some (.lst acc) ∧ RpAll (also M D) H' acc (ys.take i)) ⟨same_new hD, [], upd_same, by rw [List.take_zero]; exact .nil⟩ (fun i H' _ p => p.1.seq hS) (fun i x H' hx p => ?_) (fun H' p => ?_)
  · obtain ⟨s, acc, e, r⟩ := p
    have hi : i < ys.length := by
      rw [hn]
      exact (List.getElem?_eq_some_iff.mp hx).1
    have hl := r.length
    rw [List.length_take] at hl
    refine hs i x ys[i] H' _ _ hx (List.getElem?_eq_getElem hi) s ((hM.gr (Gr.same s)).also (ne_none e)) fun v H2 s2 rv => ?_
    refine ⟨acc, s2 _ _ e, small1000000 (by omega), fun c o q => ?_, acc ++ [v], upd_same, ?_⟩
    · rw [upd_ne (ne_of_none q hD)]
      exact s2 _ _ (s c o q)
    · rw [List.take_add_one, List.getElem?_eq_getElem hi]
      exact ((r.sx (Sx.same s2)).append (.one rv)).sx (Sx.put (.inr rfl))
  · obtain ⟨s, acc, e, r⟩ := p
    rw [← hn, List.take_length] at r
    exact hd H' s ⟨hM.out hD, acc, e, r.less also_le⟩

theorem cut_hi (xs : List V) (n : Nat) : cutV xs none (some (n : Int)) = xs.take n := by
  unfold cutV
  rw [show HT.sIx xs.length 0 none = 0 from HT.sIx_none .., show HT.sIx xs.length xs.length (some (n : Int)) = min n xs.length from HT.sIx_nat _ _ n, List.drop_zero, Nat.sub_zero]
  rw [List.take_eq_take_iff]
  omega

theorem szK {n : Nat} (h : Nat.ble n 1000 = true) : n ≤ sizeLine := Nat.le_of_lt (small1000 (Nat.le_of_ble_eq_true h))

/-- what holds behind a statement, said once for all its ways -/
theorem seq_join {t u : TS} {D : Ends} {σ : L2.St} {H : Hp} (Pv : L2.St → Hp → Prop) (h : (∀ σ H, Pv σ H → u D σ H) → t { D with nx := u D } σ H) (hN : ∀ σ H, Pv σ H → u D σ H) : tSeq t u D σ H := h hN

theorem lc_str {z : Str} {g : TG} {tt : TT} {te : TE} {vs : List Nat} {σ : L2.St} {H1 : Hp} {D : Addr} {Qd : Hp → Prop} (Pv : Nat → Hp → Prop) (h0 : Pv 0 (upd H1 D (.lst [])))
    (hs : ∀ i c H, z.cps[i]? = some c → Pv i H → g (.str ⟨#[c]⟩) (wipe σ vs) H fun σ2 H2 => wipe σ2 vs = wipe σ vs ∧ tt σ2 H2 fun b H3 =>
      if b = true then te σ2 H3 fun y H4 => ∃ acc, H4 D = some (.lst acc) ∧ acc.length < sizeLine ∧ Pv (i + 1) (upd H4 D (.lst (acc ++ [y]))) else Pv (i + 1) H3) (hd : ∀ H, Pv z.cps.size H → Qd H) :
    ∃ W : Nat → Nat → Hp → Prop, (∃ m, W 0 m (upd H1 D (.lst []))) ∧ ∀ i m H, W i m H →
      ((Its z).stop i H ∧ Qd H) ∨ ((Its z).go i H ∧ ∃ Nx : Hp → Prop, (∀ H', Nx H' → ∃ m', m' < m ∧ W (i + 1) m' H') ∧ ∀ x H', (Its z).yld i H x H' → g x (wipe σ vs) H' fun σ2 H2 => wipe σ2 vs = wipe σ vs ∧ tt σ2 H2 fun b H3 =>
        if b = true then te σ2 H3 fun y H4 => ∃ acc, H4 D = some (.lst acc) ∧ acc.length < sizeLine ∧ Nx (upd H4 D (.lst (acc ++ [y]))) else Nx H3) := by
  refine ⟨fun i m H => m = z.cps.size - i ∧ i ≤ z.cps.size ∧ Pv i H, ⟨_, rfl, Nat.zero_le _, h0⟩, ?_⟩
  rintro i m H ⟨rfl, hi, p⟩
  by_cases hlt : i < z.cps.size
  · refine .inr ⟨hlt, Pv (i + 1), fun H' p' => ⟨z.cps.size - (i + 1), by omega, rfl, hlt, p'⟩, fun x H' y => ?_⟩
    obtain ⟨e, c, hc, rfl⟩ := y
    subst e
    exact hs i c _ hc p
  · have e : i = z.cps.size := by omega
    subst e
    exact .inl ⟨Nat.le_refl _, hd H p⟩
/-- a comprehension over a text whose elements make nothing -/
theorem lc_valsS {z : Str} {ys : List V} {g : TG} {tt : TT} {te : TE} {vs : List Nat} {σ : L2.St} {H : Hp} {D : Addr} {Qd : Hp → Prop} (hD : H D = none) (hn : ys.length = z.cps.size) (hz : z.cps.size ≤ 1000000)
    (hs : ∀ (i : Nat) (c : Nat) (y : V) (H' : Hp) (C : VK) (N : Hp → Prop), z.cps[i]? = some c → ys[i]? = some y → Same H H' → C y H' → g (.str ⟨#[c]⟩) (wipe σ vs) H' fun σ2 H2 => wipe σ2 vs = wipe σ vs ∧ tt σ2 H2 fun b H3 => if b = true then te σ2 H3 C else N H3)
    (hd : ∀ H', Same H H' → H' D = some (.lst ys) → Qd H') :
    ∃ W : Nat → Nat → Hp → Prop, (∃ m, W 0 m (upd H D (.lst []))) ∧ ∀ i m H, W i m H →
      ((Its z).stop i H ∧ Qd H) ∨ ((Its z).go i H ∧ ∃ Nx : Hp → Prop, (∀ H', Nx H' → ∃ m', m' < m ∧ W (i + 1) m' H') ∧ ∀ x H', (Its z).yld i H x H' → g x (wipe σ vs) H' fun σ2 H2 => wipe σ2 vs = wipe σ vs ∧ tt σ2 H2 fun b H3 =>
        if b = true then te σ2 H3 fun y H4 => ∃ acc, H4 D = some (.lst acc) ∧ acc.length < sizeLine ∧ Nx (upd H4 D (.lst (acc ++ [y]))) else Nx H3) := by
  refine lc_str (z := z) (fun i H' => Same H H' ∧ H' D = some (.lst (ys.take i))) ⟨same_new hD, by rw [upd_same]; rfl⟩ (fun i c H' hc p => ?_) (fun H' p => ?_)
  · have hi : i < ys.length := by
      rw [hn]
      exact (Array.getElem?_eq_some_iff.mp hc).1
    refine hs i c ys[i] H' _ _ hc (List.getElem?_eq_getElem hi) p.1 ⟨_, p.2, ?_, fun c o e => ?_, ?_⟩
    · rw [List.length_take]
      exact small1000000 (by omega)
    · rw [upd_ne (ne_of_none e hD)]
      exact p.1 c o e
    · rw [upd_same, List.take_add_one, List.getElem?_eq_getElem hi]
      rfl
  · refine hd H' p.1 ?_
    have e := p.2
    rw [← hn, List.take_length] at e
    exact e

theorem cut1 (y : V) (r : List V) : cutV (y :: r) (some 1) none = r := by
  unfold cutV
  rw [show HT.sIx (y :: r).length 0 (some 1) = min 1 (y :: r).length from HT.sIx_nat (y :: r).length 0 1, HT.sIx_none]
  rw [show min 1 (y :: r).length = 1 by
      rw [List.length_cons]
      omega]
  show List.take ((y :: r).length - 1) r = r
  rw [List.length_cons, Nat.add_sub_cancel]
  exact List.take_length

theorem rd_ty {K : PySem.W.Frag} {H : Hp} {a : Addr} {xs : List V} (h : Rd H a (.tup xs)) : TyX K H (.ref a) (.type "tuple") := by
  rcases h with h | ⟨o, h⟩
  · exact .base (.tup h)
  · exact .fTuple h
/-- a comprehension over a tuple: each element a datum, made on the way -/
theorem lc_dataT {K : PySem.W.Frag} {a : Addr} {xs : List V} {ys : List PyData} {g : TG} {tt : TT} {te : TE} {vs : List Nat} {σ : L2.St} {H : Hp} {D : Addr} {Qd : Hp → Prop} (M : Ms) (hM : Mk M H) (hD : H D = none) (hS : SqT K H a xs) (hn : ys.length = xs.length) (hz : xs.length ≤ 1000000)
    (hs : ∀ (i : Nat) (x : V) (y : PyData) (H' : Hp) (C : VK) (N : Hp → Prop), xs[i]? = some x → ys[i]? = some y → Same H H' → Mk (also M D) H' → (∀ v H2, Same H' H2 → Rp (also M D) H2 v y → C v H2) → g x (wipe σ vs) H' fun σ2 H2 => wipe σ2 vs = wipe σ vs ∧ tt σ2 H2 fun b H3 => if b = true then te σ2 H3 C else N H3)
    (hd : ∀ H', Same H H' → Ld M H' D ys → Qd H') :
    ∃ W : Nat → Nat → Hp → Prop, (∃ m, W 0 m (upd H D (.lst []))) ∧ ∀ i m H, W i m H →
      ((Itt K a).stop i H ∧ Qd H) ∨ ((Itt K a).go i H ∧ ∃ Nx : Hp → Prop, (∀ H', Nx H' → ∃ m', m' < m ∧ W (i + 1) m' H') ∧ ∀ x H', (Itt K a).yld i H x H' → g x (wipe σ vs) H' fun σ2 H2 => wipe σ2 vs = wipe σ vs ∧ tt σ2 H2 fun b H3 =>
        if b = true then te σ2 H3 fun y H4 => ∃ acc, H4 D = some (.lst acc) ∧ acc.length < sizeLine ∧ Nx (upd H4 D (.lst (acc ++ [y]))) else Nx H3) := by
  refine lc_tup (K := K) (a := a) (xs := xs) (fun i H' => Same H H' ∧ ∃ acc, H' D = some (.lst acc) ∧ RpAll (also M D) H' acc (ys.take i)) ⟨same_new hD, [], upd_same, by rw [List.take_zero]; exact .nil⟩ (fun i H' _ p => same_sqt p.1 hS) (fun i x H' hx p => ?_) (fun H' p => ?_)
  · obtain ⟨s, acc, e, r⟩ := p
    have hi : i < ys.length := by
      rw [hn]
      exact (List.getElem?_eq_some_iff.mp hx).1
    have hl := r.length
    rw [List.length_take] at hl
    refine hs i x ys[i] H' _ _ hx (List.getElem?_eq_getElem hi) s ((hM.gr (Gr.same s)).also (ne_none e)) fun v H2 s2 rv => ?_
    refine ⟨acc, s2 _ _ e, small1000000 (by omega), fun c o q => ?_, acc ++ [v], upd_same, ?_⟩
    · rw [upd_ne (ne_of_none q hD)]
      exact s2 _ _ (s c o q)
    · rw [List.take_add_one, List.getElem?_eq_getElem hi]
      exact ((r.sx (Sx.same s2)).append (.one rv)).sx (Sx.put (.inr rfl))
  · obtain ⟨s, acc, e, r⟩ := p
    rw [← hn, List.take_length] at r
    exact hd H' s ⟨hM.out hD, acc, e, r.less also_le⟩


/-- a list that is made beside stays away -/
theorem same_put {H H' : Hp} {p : Addr} {o : HO} (s : Same H H') (h : H p = none) : Same H (upd H' p o) := fun a u e => by
  rw [upd_ne (ne_of_none e h)]
  exact s a u e
end D

namespace D
open PySem PySem.Spec PyProof.Rows L2
/-! ### forms -/
inductive Fm where
  | is (n : Int) | get (x : Str) | sum (f g : Fm) | same (f g : Fm) | pick (f g h : Fm)
def sIs : Str := "is"
def sGet : Str := "get"
def sSum : Str := "sum"
def sSame : Str := "same"
def sPick : Str := "pick"
namespace Fm
def word : Fm → Str
  | .is _ => sIs | .get _ => sGet | .sum _ _ => sSum | .same _ _ => sSame | .pick _ _ _ => sPick
def enc : Fm → PyData
  | .is n => .tuple [.str sIs, .int n]
  | .get x => .tuple [.str sGet, .str x]
  | .sum f g => .tuple [.str sSum, f.enc, g.enc]
  | .same f g => .tuple [.str sSame, f.enc, g.enc]
  | .pick f g h => .tuple [.str sPick, f.enc, g.enc, h.enc]
def subs : Fm → List Fm
  | .is _ => [] | .get _ => [] | .sum f g => [f, g] | .same f g => [f, g] | .pick f g h => [f, g, h]
def dep : Fm → Nat
  | .is _ => 1 | .get _ => 1
  | .sum f g => max f.dep g.dep + 1 | .same f g => max f.dep g.dep + 1
  | .pick f g h => max f.dep (max g.dep h.dep) + 1
def size : Fm → Nat
  | .is _ => 1 | .get _ => 1
  | .sum f g => f.size + g.size + 1 | .same f g => f.size + g.size + 1
  | .pick f g h => f.size + g.size + h.size + 1
def val (ρ : Str → Int) : Fm → Int
  | .is n => n | .get x => ρ x
  | .sum f g => (f.val ρ + g.val ρ) % 10
  | .same f g => if f.val ρ = g.val ρ then 1 else 0
  | .pick f g h => if f.val ρ = 0 then h.val ρ else g.val ρ
def ok (nm : Str → Prop) : Fm → Prop
  | .is n => 0 ≤ n ∧ n ≤ 9 | .get x => nm x
  | .sum f g => f.ok nm ∧ g.ok nm | .same f g => f.ok nm ∧ g.ok nm
  | .pick f g h => f.ok nm ∧ g.ok nm ∧ h.ok nm
theorem dep_pos : ∀ f : Fm, 1 ≤ f.dep
  | .is _ => Nat.le_refl _ | .get _ => Nat.le_refl _
  | .sum f g => by show 1 ≤ max f.dep g.dep + 1; omega
  | .same f g => by show 1 ≤ max f.dep g.dep + 1; omega
  | .pick f g h => by show 1 ≤ max f.dep (max g.dep h.dep) + 1; omega
theorem val_range {ρ : Str → Int} {nm : Str → Prop} (h : ∀ x, nm x → 0 ≤ ρ x ∧ ρ x ≤ 9) : ∀ f : Fm, f.ok nm → 0 ≤ f.val ρ ∧ f.val ρ ≤ 9
  | .is n, o => o
  | .get x, o => h x o
  | .sum f g, o => by
    show 0 ≤ (f.val ρ + g.val ρ) % 10 ∧ (f.val ρ + g.val ρ) % 10 ≤ 9
    omega
  | .same f g, o => by
    show 0 ≤ (if f.val ρ = g.val ρ then (1 : Int) else 0) ∧ (if f.val ρ = g.val ρ then (1 : Int) else 0) ≤ 9
    split <;> decide
  | .pick f g k, o => by
    show 0 ≤ (if f.val ρ = 0 then k.val ρ else g.val ρ) ∧ (if f.val ρ = 0 then k.val ρ else g.val ρ) ≤ 9
    split
    · exact val_range h k o.2.2
    · exact val_range h g o.2.1
end Fm
section
variable {M : Ms} {H : Hp} {v : V}
theorem Rp.tupN {ds : List PyData} (h : Rp M H v (.tuple ds)) : ∃ a xs, v = .ref a ∧ ¬ M a ∧ Rd H a (.tup xs) ∧ RpAll M H xs ds := by
  cases h with
  | @tup a xs _ n s r => exact ⟨a, xs, rfl, n, s.rd, r⟩
theorem Rp.tupX {ds : List PyData} (h : Rp M H v (.tuple ds)) : ∃ a xs, v = .ref a ∧ ¬ M a ∧ H a = some (.tup xs) ∧ RpAll M H xs ds := by
  cases h with
  | @tup a xs _ n s r => exact ⟨a, xs, rfl, n, s.at, r⟩
theorem Rp.lstN {ds : List PyData} (h : Rp M H v (.list ds)) : ∃ a xs, v = .ref a ∧ ¬ M a ∧ Rd H a (.lst xs) ∧ RpAll M H xs ds := by
  cases h with
  | @lst a xs _ n s r => exact ⟨a, xs, rfl, n, s, r⟩
theorem Rp.int_inv {i : Int} (h : Rp M H v (.int i)) : v = .int i := by cases h; rfl
theorem Rp.str_inv {x : Str} (h : Rp M H v (.str x)) : v = .str x := by cases h; rfl
theorem RpAll.inv1 {xs : List V} {d1 : PyData} (h : RpAll M H xs [d1]) : ∃ v1, xs = [v1] ∧ Rp M H v1 d1 := by
  cases h with | cons h1 h2 => cases h2; exact ⟨_, rfl, h1⟩
theorem RpAll.inv2 {xs : List V} {d1 d2 : PyData} (h : RpAll M H xs [d1, d2]) : ∃ v1 v2, xs = [v1, v2] ∧ Rp M H v1 d1 ∧ Rp M H v2 d2 := by
  cases h with | cons h1 h2 => obtain ⟨v2, rfl, r2⟩ := h2.inv1; exact ⟨_, _, rfl, h1, r2⟩
theorem RpAll.inv3 {xs : List V} {d1 d2 d3 : PyData} (h : RpAll M H xs [d1, d2, d3]) : ∃ v1 v2 v3, xs = [v1, v2, v3] ∧ Rp M H v1 d1 ∧ Rp M H v2 d2 ∧ Rp M H v3 d3 := by
  cases h with | cons h1 h2 => obtain ⟨v2, v3, rfl, r2, r3⟩ := h2.inv2; exact ⟨_, _, _, rfl, h1, r2, r3⟩
theorem RpAll.inv4 {xs : List V} {d1 d2 d3 d4 : PyData} (h : RpAll M H xs [d1, d2, d3, d4]) : ∃ v1 v2 v3 v4, xs = [v1, v2, v3, v4] ∧ Rp M H v1 d1 ∧ Rp M H v2 d2 ∧ Rp M H v3 d3 ∧ Rp M H v4 d4 := by
  cases h with | cons h1 h2 => obtain ⟨v2, v3, v4, rfl, r2, r3, r4⟩ := h2.inv3; exact ⟨_, _, _, _, rfl, h1, r2, r3, r4⟩
/-- what stands of a form -/
inductive FmAt (M : Ms) (H : Hp) : Fm → List V → Prop
  | is (n : Int) : FmAt M H (.is n) [.str sIs, .int n]
  | get (x : Str) : FmAt M H (.get x) [.str sGet, .str x]
  | sum {f g : Fm} {u w : V} (a : Rp M H u f.enc) (b : Rp M H w g.enc) : FmAt M H (.sum f g) [.str sSum, u, w]
  | same {f g : Fm} {u w : V} (a : Rp M H u f.enc) (b : Rp M H w g.enc) : FmAt M H (.same f g) [.str sSame, u, w]
  | pick {f g h : Fm} {u w z : V} (a : Rp M H u f.enc) (b : Rp M H w g.enc) (c : Rp M H z h.enc) : FmAt M H (.pick f g h) [.str sPick, u, w, z]
theorem Rp.form {f : Fm} (h : Rp M H v f.enc) : ∃ a xs, v = .ref a ∧ ¬ M a ∧ Rd H a (.tup xs) ∧ FmAt M H f xs := by
  cases f with
  | is n =>
    obtain ⟨a, xs, rfl, n, s, r⟩ := Rp.tupN h
    obtain ⟨v1, v2, rfl, r1, r2⟩ := r.inv2
    cases r1; cases r2
    exact ⟨a, _, rfl, n, s, .is _⟩
  | get x =>
    obtain ⟨a, xs, rfl, n, s, r⟩ := Rp.tupN h
    obtain ⟨v1, v2, rfl, r1, r2⟩ := r.inv2
    cases r1; cases r2
    exact ⟨a, _, rfl, n, s, .get _⟩
  | sum f g =>
    obtain ⟨a, xs, rfl, n, s, r⟩ := Rp.tupN h
    obtain ⟨v1, v2, v3, rfl, r1, r2, r3⟩ := r.inv3
    cases r1
    exact ⟨a, _, rfl, n, s, .sum r2 r3⟩
  | same f g =>
    obtain ⟨a, xs, rfl, n, s, r⟩ := Rp.tupN h
    obtain ⟨v1, v2, v3, rfl, r1, r2, r3⟩ := r.inv3
    cases r1
    exact ⟨a, _, rfl, n, s, .same r2 r3⟩
  | pick f g k =>
    obtain ⟨a, xs, rfl, n, s, r⟩ := Rp.tupN h
    obtain ⟨v1, v2, v3, v4, rfl, r1, r2, r3, r4⟩ := r.inv4
    cases r1
    exact ⟨a, _, rfl, n, s, .pick r2 r3 r4⟩
theorem FmAt.rp {f : Fm} {xs : List V} {a : Addr} (h : FmAt M H f xs) (n : ¬ M a) (s : RdT H a xs) : Rp M H (.ref a) f.enc := by
  cases h with
  | is k => exact .tup n s (.cons (.str _) (.one (.int _)))
  | get x => exact .tup n s (.cons (.str _) (.one (.str _)))
  | sum a b => exact .tup n s (.cons (.str _) (.cons a (.one b)))
  | same a b => exact .tup n s (.cons (.str _) (.cons a (.one b)))
  | pick a b c => exact .tup n s (.cons (.str _) (.cons a (.cons b (.one c))))
end

/-! ### names -/
def isNm (x : Str) : Prop := 1 ≤ x.length ∧ x.length ≤ 8 ∧ ∀ c ∈ x.cps.toList, 97 ≤ c ∧ c ≤ 122
def addN (acc : List Str) (n : Str) : List Str := if n ∈ acc then acc else acc ++ [n]
def Fm.names : Fm → List Str
  | .is _ => [] | .get x => [x]
  | .sum f g => g.names.foldl addN (f.names.foldl addN [])
  | .same f g => g.names.foldl addN (f.names.foldl addN [])
  | .pick f g h => h.names.foldl addN (g.names.foldl addN (f.names.foldl addN []))
theorem addN_mem {acc : List Str} {n x : Str} (h : x ∈ addN acc n) : x ∈ acc ∨ x = n := by
  unfold addN at h
  split at h
  · exact .inl h
  · rcases List.mem_append.mp h with h | h
    · exact .inl h
    · exact .inr (List.mem_singleton.mp h)
theorem addsN_mem : ∀ (ns acc : List Str) (x : Str), x ∈ ns.foldl addN acc → x ∈ acc ∨ x ∈ ns
  | [], acc, x, h => .inl h
  | n :: r, acc, x, h => by
    rcases addsN_mem r (addN acc n) x h with h | h
    · rcases addN_mem h with h | h
      · exact .inl h
      · exact .inr (by rw [h]; exact List.mem_cons_self)
    · exact .inr (List.mem_cons_of_mem _ h)
theorem Fm.names_ok {nm : Str → Prop} : ∀ f : Fm, f.ok nm → ∀ x ∈ f.names, nm x
  | .is _, _, x, h => nomatch h
  | .get y, o, x, h => by rw [List.mem_singleton.mp h]; exact o
  | .sum f g, o, x, h => by
    rcases addsN_mem _ _ _ h with h | h
    · rcases addsN_mem _ _ _ h with h | h
      · exact nomatch h
      · exact f.names_ok o.1 x h
    · exact g.names_ok o.2 x h
  | .same f g, o, x, h => by
    rcases addsN_mem _ _ _ h with h | h
    · rcases addsN_mem _ _ _ h with h | h
      · exact nomatch h
      · exact f.names_ok o.1 x h
    · exact g.names_ok o.2 x h
  | .pick f g k, o, x, h => by
    rcases addsN_mem _ _ _ h with h | h
    · rcases addsN_mem _ _ _ h with h | h
      · rcases addsN_mem _ _ _ h with h | h
        · exact nomatch h
        · exact f.names_ok o.1 x h
      · exact g.names_ok o.2.1 x h
    · exact k.names_ok o.2.2 x h
theorem addN_len (acc : List Str) (n : Str) : (addN acc n).length ≤ acc.length + 1 := by
  unfold addN
  split
  · omega
  · rw [List.length_append]
    exact Nat.le_refl _
theorem addsN_len : ∀ (ns acc : List Str), (ns.foldl addN acc).length ≤ acc.length + ns.length
  | [], acc => Nat.le_refl _
  | n :: r, acc => by
    have h1 := addsN_len r (addN acc n)
    have h2 := addN_len acc n
    show (r.foldl addN (addN acc n)).length ≤ acc.length + (r.length + 1)
    omega
theorem Fm.names_len : ∀ f : Fm, f.names.length ≤ f.size
  | .is _ => Nat.zero_le _
  | .get _ => Nat.le_refl _
  | .sum f g => by
    have h1 := f.names_len; have h2 := g.names_len; have h3 := addsN_len f.names []; have h4 := addsN_len g.names (f.names.foldl addN [])
    show (g.names.foldl addN (f.names.foldl addN [])).length ≤ f.size + g.size + 1
    rw [List.length_nil] at h3
    omega
  | .same f g => by
    have h1 := f.names_len; have h2 := g.names_len; have h3 := addsN_len f.names []; have h4 := addsN_len g.names (f.names.foldl addN [])
    show (g.names.foldl addN (f.names.foldl addN [])).length ≤ f.size + g.size + 1
    rw [List.length_nil] at h3
    omega
  | .pick f g k => by
    have h1 := f.names_len; have h2 := g.names_len; have h3 := addsN_len f.names []; have h4 := addsN_len g.names (f.names.foldl addN [])
    have h5 := k.names_len; have h6 := addsN_len k.names (g.names.foldl addN (f.names.foldl addN []))
    show (k.names.foldl addN (g.names.foldl addN (f.names.foldl addN []))).length ≤ f.size + g.size + k.size + 1
    rw [List.length_nil] at h3
    omega
theorem Fm.size_le : ∀ (d : Nat) (f : Fm), f.dep ≤ d → f.size ≤ 4 ^ d
  | 0, f, h => absurd f.dep_pos (by omega)
  | d + 1, .is _, _ => Nat.pow_pos (by decide)
  | d + 1, .get _, _ => Nat.pow_pos (by decide)
  | d + 1, .sum f g, h => by
    have h0 : max f.dep g.dep + 1 ≤ d + 1 := h
    have h1 := Fm.size_le d f (by omega)
    have h2 := Fm.size_le d g (by omega)
    have h3 : 1 ≤ 4 ^ d := Nat.pow_pos (by decide)
    show f.size + g.size + 1 ≤ 4 ^ d * 4
    omega
  | d + 1, .same f g, h => by
    have h0 : max f.dep g.dep + 1 ≤ d + 1 := h
    have h1 := Fm.size_le d f (by omega)
    have h2 := Fm.size_le d g (by omega)
    have h3 : 1 ≤ 4 ^ d := Nat.pow_pos (by decide)
    show f.size + g.size + 1 ≤ 4 ^ d * 4
    omega
  | d + 1, .pick f g k, h => by
    have h0 : max f.dep (max g.dep k.dep) + 1 ≤ d + 1 := h
    have h1 := Fm.size_le d f (by omega)
    have h2 := Fm.size_le d g (by omega)
    have h4 := Fm.size_le d k (by omega)
    have h3 : 1 ≤ 4 ^ d := Nat.pow_pos (by decide)
    show f.size + g.size + k.size + 1 ≤ 4 ^ d * 4
    omega
theorem in_strs (n : Str) (acc : List Str) : inV (.str n) (acc.map V.str) = decide (n ∈ acc) := by
  unfold inV
  rw [List.any_map, Bool.eq_iff_iff, List.any_eq_true, decide_eq_true_iff]
  constructor
  · rintro ⟨x, hx, e⟩
    have e' : (x == n) = true := e
    rw [beq_iff_eq] at e'
    rw [← e']
    exact hx
  · intro h
    exact ⟨n, h, by show (n == n) = true; exact beq_self_eq_true n⟩
theorem flat_strs (acc : List Str) : (acc.map V.str).all flatV = true := by
  rw [List.all_map, List.all_eq_true]
  intro x _
  rfl
theorem RpAll.strs {M : Ms} {H : Hp} : ∀ (ns : List Str), RpAll M H (ns.map V.str) (ns.map PyData.str)
  | [] => .nil
  | n :: r => .cons (.str n) (RpAll.strs r)
theorem RpAll.ofStrs {M : Ms} {H : Hp} : ∀ {ns : List Str} {vs : List V}, RpAll M H vs (ns.map PyData.str) → vs = ns.map V.str
  | [], _, h => by cases h; rfl
  | n :: r, _, h => by
    cases h with
    | cons h1 h2 =>
      cases h1
      rw [RpAll.ofStrs h2]
      rfl

theorem sign_lo {c : Nat} (h : 97 ≤ c) : decide (({ cps := #[c] } : Str).cps.toList < (Str.ofString "a").cps.toList) = false := by
  rw [show (Str.ofString "a").cps.toList = [97] by decide +kernel, decide_eq_false_iff_not]
  show ¬ [c] < [97]
  rw [List.cons_lt_cons_iff]
  rintro (h1 | ⟨_, h1⟩)
  · omega
  · exact absurd h1 (by decide)
theorem sign_hi {c : Nat} (h : c ≤ 122) : decide ((Str.ofString "z").cps.toList < ({ cps := #[c] } : Str).cps.toList) = false := by
  rw [show (Str.ofString "z").cps.toList = [122] by decide +kernel, decide_eq_false_iff_not]
  show ¬ [122] < [c]
  rw [List.cons_lt_cons_iff]
  rintro (h1 | ⟨_, h1⟩)
  · omega
  · exact absurd h1 (by decide)

/-- a form with its level -/
def lvD (p : Fm × Nat) : PyData := .tuple [p.1.enc, .int (p.2 : Int)]
def szs (ps : List (Fm × Nat)) : Nat := (ps.map fun p => p.1.size).sum
theorem szs_app (ps qs : List (Fm × Nat)) : szs (ps ++ qs) = szs ps + szs qs := by
  unfold szs
  rw [List.map_append, List.sum_append_nat]
theorem szs_rev (ps : List (Fm × Nat)) : szs ps.reverse = szs ps := by
  unfold szs
  rw [List.map_reverse, List.sum_reverse]
theorem subs_size (f : Fm) (n : Nat) : szs (f.subs.map fun g => (g, n)) + 1 = f.size := by
  cases f <;> simp [szs, Fm.subs, Fm.size] <;> omega
theorem subs_ok {nm : Str → Prop} {f g : Fm} (h : f.ok nm) (hg : g ∈ f.subs) : g.ok nm := by
  cases f <;> simp [Fm.subs] at hg <;> simp [Fm.ok] at h
  all_goals (first | (rcases hg with rfl | rfl | rfl <;> simp_all) | (rcases hg with rfl | rfl <;> simp_all))
theorem subs_dep {f g : Fm} (hg : g ∈ f.subs) : g.dep + 1 ≤ f.dep := by
  cases f <;> simp [Fm.subs] at hg <;> simp [Fm.dep]
  all_goals (first | (rcases hg with rfl | rfl | rfl <;> omega) | (rcases hg with rfl | rfl <;> omega))
theorem subs_len (f : Fm) : f.subs.length ≤ 3 := by cases f <;> simp [Fm.subs]
theorem RpAll.reverse {M : Ms} {H : Hp} : ∀ {vs : List V} {ds : List PyData}, RpAll M H vs ds → RpAll M H vs.reverse ds.reverse
  | _, [], h => by cases h; exact .nil
  | _, d :: ds, h => by
    cases h with
    | cons h1 h2 =>
      rw [List.reverse_cons, List.reverse_cons]
      exact (RpAll.reverse h2).append (.one h1)
theorem RpAll.last {M : Ms} {H : Hp} {vs : List V} {ds : List PyData} {d : PyData} (h : RpAll M H vs (ds ++ [d])) : ∃ us v, vs = us ++ [v] ∧ RpAll M H us ds ∧ Rp M H v d := by
  have h1 := h.reverse
  rw [List.reverse_append] at h1
  generalize hv : vs.reverse = ws at h1
  cases h1 with
  | @cons v us _ _ a b =>
    have e : vs = us.reverse ++ [v] := by
      rw [← List.reverse_reverse vs, hv, List.reverse_cons]
    refine ⟨us.reverse, v, e, ?_, a⟩
    have b' : RpAll M H us ds.reverse := b
    have := b'.reverse
    rw [List.reverse_reverse] at this
    exact this

theorem Fm.size_pos : ∀ f : Fm, 1 ≤ f.size
  | .is _ => Nat.le_refl _ | .get _ => Nat.le_refl _
  | .sum f g => by show 1 ≤ f.size + g.size + 1; omega
  | .same f g => by show 1 ≤ f.size + g.size + 1; omega
  | .pick f g h => by show 1 ≤ f.size + g.size + h.size + 1; omega
theorem szs_len : ∀ ps : List (Fm × Nat), ps.length ≤ szs ps
  | [] => Nat.le_refl _
  | p :: r => by
    have h1 := szs_len r
    have h2 := p.1.size_pos
    show r.length + 1 ≤ ((p :: r).map fun p => p.1.size).sum
    rw [List.map_cons, List.sum_cons]
    unfold szs at h1
    omega

def stepN (acc : List Str) (s : Fm) : List Str := s.names.foldl addN acc
theorem names_fold (f : Fm) (h : ∀ x, f ≠ .get x) : f.names = f.subs.foldl stepN [] := by
  cases f with
  | get x => exact absurd rfl (h x)
  | _ => rfl
theorem fold_take {α β : Type} (g : β → α → β) (b : β) (l : List α) (i : Nat) (x : α) (h : l[i]? = some x) : (l.take (i + 1)).foldl g b = g ((l.take i).foldl g b) x := by
  rw [List.take_add_one, h, List.foldl_append]
  rfl
end D

namespace D
open PySem PySem.Spec PyProof.Rows L2
theorem sub_len {α : Type} [DecidableEq α] : ∀ (l2 l1 : List α), l1.Nodup → (∀ x ∈ l1, x ∈ l2) → l1.length ≤ l2.length ∧ (l1.length = l2.length → l2.Nodup)
  | [], l1, _, h => by
    cases l1 with
    | nil => exact ⟨Nat.le_refl _, fun _ => .nil⟩
    | cons x r => exact nomatch h x List.mem_cons_self
  | y :: r, l1, nd, h => by
    by_cases hy : y ∈ l1
    · have nd1 : (l1.erase y).Nodup := nd.erase y
      have h1 : ∀ x ∈ l1.erase y, x ∈ r := fun x hx => by
        have hx' := (nd.mem_erase_iff).mp hx
        rcases List.mem_cons.mp (h x hx'.2) with e | e
        · exact absurd e hx'.1
        · exact e
      obtain ⟨a, b⟩ := sub_len r (l1.erase y) nd1 h1
      have le := List.length_erase_of_mem hy
      have pos : 0 < l1.length := List.length_pos_of_mem hy
      refine ⟨by rw [List.length_cons]; omega, fun e => ?_⟩
      rw [List.length_cons] at e
      refine List.nodup_cons.mpr ⟨fun hr => ?_, b (by omega)⟩
      have h2 : ∀ x ∈ l1, x ∈ r := fun x hx => by
        rcases List.mem_cons.mp (h x hx) with e | e
        · rw [e]; exact hr
        · exact e
      have := (sub_len r l1 nd h2).1
      omega
    · have h2 : ∀ x ∈ l1, x ∈ r := fun x hx => by
        rcases List.mem_cons.mp (h x hx) with e | e
        · rw [e] at hx; exact absurd hx hy
        · exact e
      have := (sub_len r l1 nd h2).1
      refine ⟨by rw [List.length_cons]; omega, fun e => ?_⟩
      rw [List.length_cons] at e
      omega
section
variable {X : Cx}
def tLenSetT (K : PySem.W.Frag) (ta : TE) : TE := fun σ H Q => ta σ H fun x H1 => ∃ (l : Addr) (ns : List Int), x = V.ref l ∧ SqT K H1 l (ns.map V.int) ∧ ns.length ≤ 1000 ∧ ∀ c : Nat, (c = ns.length ↔ ns.Nodup) → Q (.int c) H1
theorem pe_lenSetT {K : PySem.W.Frag} {a : Expr} {ta : TE} {p p2 q pos : Pos} (hK : X.K = K) (hc : X.calm = true) (hg : Gl X "len") (hm : X.mg "len" = none) (hg2 : Gl X "set") (hm2 : X.mg "set" = none) (ha : PE X a ta)
    (na : starEach [a] X.env = (false, eval a X.env) :: starEach [] X.env := by rfl) : PE X (.Call (.Name "len" p) [.Call (.Name "set" p2) [a] [] q] [] pos) (tLenSetT K ta) := by
  subst hK
  refine ⟨fun pins s σ H Q I h => ?_⟩
  refine Call_ (ld_blt I hg hm PySem.boot_len ?_)
  refine PyProof.Rows.callWith_builtin1 (PyProof.Rows.args_cons ?_ rfl) rfl rfl
  refine Call_ (ld_blt I hg2 hm2 PyProof.Rows.boot_set ?_)
  refine PyProof.Rows.callWith_type1 (PyProof.Rows.args_cons (thn (ha.run pins s σ H _ I h) fun v s1 ⟨x, H1, I1, r1, q1⟩ => PyProof.Rows.args_nil ?_) na) na rfl
  obtain ⟨l, ns, rfl, hq, h1, q1⟩ := q1
  cases r1
  obtain ⟨its, rv, pt, hz⟩ := I1.tuple hq
  have hi : IntsAre its.toArray.toList ns := ints_of_vals rv
  refine call_set_tupI ns (I1.ok.hd hc) (show s1.heap.IsTuple l its.toArray from pt) hi (by unfold scanBound; omega) fun h' tk c R1 hcn k => ?_
  obtain ⟨o, es, ep, t, ho, hex, hdt, g, nd, hm2, hb, hf, hn, hr, hl2⟩ := R1
  refine PyProof.Rows.args_nil ?_
  have I2 : Inv X pins σ H1 { s1 with heap := h', toks := tk } := I1.kept k
  have hsub : ∀ x ∈ es.toList.map keyOf, x ∈ ns := fun x hx => of_decide_eq_true ((hm2 x).mpr hx)
  have hsup : ∀ x ∈ ns, x ∈ es.toList.map keyOf := fun x hx => (hm2 x).mp (decide_eq_true hx)
  have hlen : (es.toList.map keyOf).length = es.size := by rw [List.length_map, Array.length_toList]
  have hc2 : es.size = ns.length ↔ ns.Nodup := by
    obtain ⟨a1, a2⟩ := sub_len ns _ nd hsub
    refine ⟨fun e => a2 (by rw [hlen, e]), fun hnd => ?_⟩
    have b1 := (sub_len (es.toList.map keyOf) ns hnd hsup).1
    omega
  exact call_len_set ho hex hdt hf (by unfold scanBound at hb; omega) ⟨.int es.size, H1, I2.tok _, ⟨_, rfl⟩, q1 es.size hc2⟩
end
end D

namespace D
open PySem PySem.Spec PyProof.Rows L2
section
variable {X : Cx} {C g : Addr} {n : Nat} {CX : CXT} {sp : Sp} {E : XK} {fd : FuncData} {ps : List Str}
/-- x op y, two instances of one class with its own def for op -/
def rOwnI (C : Addr) (sp : Sp) (E : XK) : R2 := fun x y H Q => ∃ a dx fs b dy gs, x = .ref a ∧ y = .ref b ∧ H a = some (.ins C dx fs) ∧ H b = some (.ins C dy gs) ∧ sp [x, y] H Q E
theorem op_ownI {op : CmpOp} (hop : ∀ a b, compareOp op a b = richCompare op a b) (hs : PySem.W.findIn X.K (.ref C) (cmpInfo op).2.1 = some (some (.ref g))) (hf : PySem.W.isFn X.K (.ref g) = true) (hn : PySem.W.notFirst X.K C (.ref C) = true)
    (F : FnOk X.prog X.w X.K X.mg X.base CX n g fd ps sp) (hb : Binds X.K fd ps []) (hr : Room n X.A) (hx : Passes CX X E) : OpR X (compareOp op) (rOwnI C sp E) := by
  intro pins s σ H x y v u Q I rx ry h
  obtain ⟨a, dx, fs, b, dy, gs, rfl, rfl, ha, hb2, q⟩ := h
  cases (show v = Value.ref a from rx)
  cases (show u = Value.ref b from ry)
  obtain ⟨mA, O, _⟩ := ins_get I.hok ha
  obtain ⟨od, J, _⟩ := O.look
  obtain ⟨mA', O', _⟩ := ins_get I.hok hb2
  obtain ⟨od', J', _⟩ := O'.look
  obtain ⟨m, hF⟩ := I.fr
  rw [hop]
  refine PySem.W.cmp_K (op := op) (tb := .ref C) hr.units0 hF I.ok.mod.kin J J'.type hn hs hf ?_
  refine wpAny_mono (run_fn (us := [.ref a, .ref b]) (vs := [.ref a, .ref b]) F hr hb .nil hx I (.cons rfl (.cons rfl .nil)) q) (fun w s' z => ?_) fun _ _ x => x
  obtain ⟨z', H', I', rz, qz⟩ := z
  exact SlX.cmpback rz ⟨z', H', I', rz, qz⟩
/-- an instance is called -/
def tCallOI (C : Addr) (sp : Sp) (E : XK) (tf : TE) (t : TA) : TE := fun σ H Q => tf σ H fun y H1 => ∃ a dx fs, y = V.ref a ∧ t σ H1 fun vs H2 => H2 a = some (.ins C dx fs) ∧ sp (V.ref a :: vs) H2 Q E
theorem pe_callOI {fe e : Expr} {es : List Expr} {pos : Pos} {tf : TE} {t : TA} (c : StX.CallO X.K C g) (F : FnOk X.prog X.w X.K X.mg X.base CX n g fd ps sp) (hb : Binds X.K fd ps []) (hr : Room n X.A) (hx : Passes CX X E) (hf : PE X fe tf) (ha : PA X (e :: es) t)
    (ht : eval (.Call fe (e :: es) [] pos) X.env = (do callWith pos (← eval fe X.env) [] (backTo pos (starEach (e :: es) X.env)) (backToKw pos (keywordEach [] X.env))) := by rfl)
    (he : starEach (e :: es) X.env = (false, eval e X.env) :: starEach es X.env := by rfl) (hpl : (backTo pos (starEach es X.env)).any (·.1) = false := by rfl) : PE X (.Call fe (e :: es) [] pos) (tCallOI C sp E tf t) := by
  refine ⟨fun pins s σ H Q I h => ?_⟩
  refine Call_ (thn (hf.run pins s σ H _ I h) fun u s1 ⟨y, H1, I1, ry, a, dx, fs, ey, q⟩ => ?_) ht
  subst ey
  cases (show u = Value.ref a from ry)
  refine StX.callO_with (thn (ha.run pos pins s1 σ H1 _ I1 q) fun us s2 ⟨vs, H2, I2, r, hi, q2⟩ => ?_) he hpl
  obtain ⟨ox, od, J, hd⟩ := StX.insC_at I2 (.inr ⟨dx, fs, hi⟩)
  exact ⟨⟨C, ox, od, J, hd⟩, StX.run_callO c (F.raw hb .nil) hr hx I2 (.inr ⟨dx, fs, hi⟩) r (by rw [List.append_nil]; exact q2)⟩
/-- isinstance of an own class -/
def rIsC (C : Addr) : List V → Hp → VK → Prop := fun xs H Q => ∃ a dx fs, xs = [.ref a, .ref C] ∧ H a = some (.ins C dx fs) ∧ Q (.bl true) H
theorem call_isCK (c : C8.InsC X.K C) : CallR X (.builtin "isinstance") (rIsC C) := C8.call_isC c
end
end D

namespace PySem
theorem meets_enumerate_newT (l : Addr) (items : Array Value) :
    Meets (Builtin.«enumerate.__new__» ⟨[.type "enumerate", .ref l], []⟩) (fun _ R s => s.heap.IsTuple l items ∧
      R (.ok (.ret (.ref (s.heap.push { cls := .type "tuple_iterator", data := .fields #[.ref l, .int 0 0] }).objs.size)))
        { s with heap := (s.heap.push { cls := .type "tuple_iterator", data := .fields #[.ref l, .int 0 0] }).push { cls := .type "enumerate", data := .fields #[.none, .bool false, .ref s.heap.objs.size, rawInt 0, .none, .none] } }) :=
  .of_wp fun prog w A R s h => by
    obtain ⟨hp, g, d, tk, os⟩ := s; obtain ⟨hL, h⟩ := h
    have hsub := sub_enumerate
    wp_walk
    refine wpAny_stack_any fun st => wpAny_pure ?_
    split
    · rename_i c _ _ _ _ _
      cases (c == Value.type "enumerate")
      · wp_walk using wpAny_pyIter_tuple hL
        exact ⟨_, rfl, h⟩
      · wp_walk using wpAny_pyIter_tuple hL
        exact ⟨_, rfl, h⟩
    · wp_walk using wpAny_pyIter_tuple hL
      exact ⟨_, rfl, h⟩
section
variable {prog : Program} {w : World} {A : Around} {E : Value → Shared → Prop} {s : Shared}
theorem call_enumerate_tuple {l : Addr} {items : Array Value} {Q : Value → Shared → Prop} (hL : s.heap.IsTuple l items)
    (h : ∀ h', IsEnum h' (s.heap.objs.size + 1) s.heap.objs.size 0 .none → h'.IsTupleIter s.heap.objs.size l 0 → h'.objs.size = s.heap.objs.size + 2 →
      (∀ b o, s.heap.get? b = some o → h'.get? b = some o) → Q (.ref (s.heap.objs.size + 1)) { s with heap := h' }) :
    wpAny (model prog w) A (call (.type "enumerate") [.ref l]) Q E s := by
  refine callType_new F.called_enumerate (by decide) (F.typeCall_enumerate_1 _) (F.newCall_enumerate_1 _) (fun obj => F.args_object_init_2 obj _) F.entry_enumerate_new
    (meets_enumerate_newT l items) ⟨hL, ?_⟩
  have hz : (s.heap.push { cls := .type "tuple_iterator", data := .fields #[.ref l, .int 0 0] }).objs.size = s.heap.objs.size + 1 := Heap.size_push ..
  show _ ∧ _
  rw [hz]
  have he : IsEnum ((s.heap.push { cls := .type "tuple_iterator", data := .fields #[.ref l, .int 0 0] }).push
      { cls := .type "enumerate", data := .fields #[.none, .bool false, .ref s.heap.objs.size, rawInt 0, .none, .none] }) (s.heap.objs.size + 1) s.heap.objs.size 0 .none := by
    have := Heap.get?_push_size (s.heap.push { cls := .type "tuple_iterator", data := .fields #[.ref l, .int 0 0] })
      (o := { cls := .type "enumerate", data := .fields #[.none, .bool false, .ref s.heap.objs.size, rawInt 0, .none, .none] }) rfl
    rw [hz] at this; exact this
  refine ⟨⟨_, he, rfl⟩, h _ he ⟨_, Heap.get?_push_of_some _ (Heap.get?_push_size _ rfl), rfl, rfl⟩ (by rw [Heap.size_push, hz]) fun b o x => Heap.get?_push_of_some _ (Heap.get?_push_of_some _ x)⟩
end
end PySem
namespace D
open PySem PySem.Spec PyProof.Rows L2
/-- the tuple at a, each item in a new pair with its place -/
def Itet (K : PySem.W.Frag) (a : Addr) : It :=
  ⟨fun i H => ∃ (xs : List V) (x : V), SqT K H a xs ∧ xs[i]? = some x, fun i H v H' => ∃ T x, v = .ref T ∧ H T = none ∧ H' = upd H T (.tup [.int (i : Nat), x]) ∧ ∀ xs, SqT K H a xs → xs[i]? = some x, fun i H => ∃ xs : List V, SqT K H a xs ∧ xs.length = i⟩
theorem turn_enumT {P : Program} {w : World} {K : PySem.W.Frag} {elts : List Expr} {kk : Nat} {tpos : Pos} (a e it : Addr) :
    Turn P w K (.Tuple elts kk tpos) (Itet K a) [e, it] e (fun i h => (∃ old, IsEnum h e it ((i : Nat) : Int) old) ∧ h.IsTupleIter it a i ∧ e ≠ it) where
  mem := by simp
  obj := fun i h st b hb => by
    obtain ⟨⟨old, he⟩, ⟨o, ho, hc, hd⟩, _⟩ := st
    have e' : b = e ∨ b = it := by simpa using hb
    rcases e' with z | z
    · rw [z]; exact ⟨_, he, fun v q => nomatch q⟩
    · rw [z]; exact ⟨o, ho, fun v q => by rw [hd] at q; cases q⟩
  keep := fun i h h' st k => let ⟨⟨old, he⟩, hi, hne⟩ := st; ⟨⟨old, k e (by simp) _ he⟩, hi.at fun o q => k it (by simp) o q, hne⟩
  item := by
    intro X hP hw hK hc i pins s σ H E I hf st hg
    subst hP hw hK
    obtain ⟨⟨old, he⟩, hit, hne⟩ := st
    obtain ⟨xs, x, hq, hx⟩ := hg
    obtain ⟨its, rv, p, hz⟩ := I.tuple hq
    have p2 : s.heap.IsTuple a its.toArray := p
    obtain ⟨u, hu, ru⟩ := rv.get hx
    have hel : e < s.heap.objs.size := Heap.lt_size he
    have hil : it < s.heap.objs.size := by obtain ⟨_, q, _⟩ := hit; exact Heap.lt_size q
    have hai : a ≠ it := fun z => by
      obtain ⟨o1, q1, c1, _⟩ := hit
      obtain ⟨o2, q2, c2, _⟩ := p2
      rw [z, q1] at q2
      cases q2
      rw [c1] at c2
      exact absurd c2 (by decide)
    have hea : e ≠ a := fun z => by
      obtain ⟨o2, q2, c2, _⟩ := p2
      rw [← z, he] at q2
      cases q2
      exact absurd (show Value.type "enumerate" = Value.type "tuple" from c2) (by decide)
    have hlt : i < its.toArray.size := by
      have := (List.getElem?_eq_some_iff.mp hu).1
      simpa using this
    refine wpAny_pyNext_enum_itemD (Draws.tuple (A := X.A.in1) (I.ok.hd hc) it a hai its.toArray) he ⟨hit, p2⟩ hlt hne (fun z => by
      rcases List.mem_cons.mp z with z | z
      · exact hne z
      · exact hea (List.mem_singleton.mp z)) fun x' h' tk hP ho hst' hT hsz hk => ?_
    obtain rfl : x' = u := by
      have h1 : its.toArray[i]? = some x' := hP
      rw [List.getElem?_toArray, hu] at h1
      exact (Option.some.inj h1).symm
    refine ⟨_, rfl, wpAny_letOwnedTupleGo_enum (s := { s with heap := h', toks := tk + 1 }) ho fun h'' he' sb => ?_⟩
    have hT2 : h''.get? s.heap.objs.size = some { cls := .type "tuple", data := .seq #[.int i tk, x'] } := (sb.2 _ (Nat.ne_of_gt hel)).trans hT
    have new : ObjOk X.prog X.w (upd H s.heap.objs.size (.tup [.int (i : Nat), x])) h'' s.heap.objs.size (.tup [.int (i : Nat), x]) :=
      ⟨by show 2 ≤ sizeLine; decide, [.int i tk, x'], .cons ⟨_, rfl⟩ (.cons ru .nil), ⟨_, hT2, rfl, _, rfl⟩⟩
    have I1 : Inv X pins σ (upd H s.heap.objs.size (.tup [.int (i : Nat), x])) { s with heap := h'', toks := tk + 1 } :=
      I.turnedNew (ch := [e, it]) (fun b ob hb q => (sb.2 b (fun z => hb (by simp [z]))).trans (hk b ob (fun z => hb (by simp [z])) (fun z => hb (by simp [z])) q)) hf (Nat.le_refl _) new
    refine ⟨.ref s.heap.objs.size, _, I1, rfl, ⟨_, x, rfl, I.hok.fresh (Nat.le_refl _), rfl, fun ys hy => by rw [I.tuple_inj hy hq]; exact hx⟩, ⟨⟨x', ?_⟩, hst'.1.at fun o q => (sb.2 it (Ne.symm hne)).trans q, hne⟩, fun b hb => ?_⟩
    · have e1 : ((i + 1 : Nat) : Int) = (i : Int) + 1 := by omega
      rw [e1]; exact he'
    · have hb' : b < s.heap.objs.size := by
        have e' : b = e ∨ b = it := by simpa using hb
        rcases e' with z | z
        · rw [z]; exact hel
        · rw [z]; exact hil
      rw [upd_ne (Nat.ne_of_lt hb')]
      exact (hf b hb).1
  done := by
    intro X hP hw hK hc i pins s σ H E I hf st hg
    subst hP hw hK
    obtain ⟨⟨old, he⟩, hit, hne⟩ := st
    obtain ⟨xs, hq, hx⟩ := hg
    obtain ⟨its, rv, p, hz⟩ := I.tuple hq
    have p2 : s.heap.IsTuple a its.toArray := p
    obtain ⟨f0, f1, f2, f3, f4, f5⟩ := hf it (by simp)
    have hl := rv.length
    have hai : a ≠ it := fun z => by
      obtain ⟨o1, q1, c1, _⟩ := hit
      obtain ⟨o2, q2, c2, _⟩ := p2
      rw [z, q1] at q2
      cases q2
      rw [c1] at c2
      exact absurd c2 (by decide)
    have en : i = its.toArray.size := by
      rw [List.size_toArray]
      omega
    exact wpAny_pyNext_enum_endD (Draws.tuple (A := X.A.in1) (I.ok.hd hc) it a hai its.toArray) he (show _ ∧ _ from ⟨by rw [← en]; exact hit, p2⟩) fun h' eb => ⟨rfl, I.turned (t' := s.toks) (fun b o hb q => eb b o hb q) f0 f1 f3 f4 f5⟩
  self := fun A i s Q E st h => let ⟨⟨_, he⟩, _⟩ := st; wpAny_pyIter_enum he h
def iEnumT (K : PySem.W.Frag) (ta : TA) : TI := fun σ H R => ta σ H fun vs H1 => ∃ a xs, vs = [.ref a] ∧ SqT K H1 a xs ∧ R (Itet K a) H1
theorem pi_enumTK {K : PySem.W.Frag} {X : Cx} {e : Expr} {ta : TA} {p pos tpos : Pos} {elts : List Expr} {kk : Nat} (hK : X.K = K) (hg : Gl X "enumerate") (hm : X.mg "enumerate" = none) (ha : PA X [e] ta) (hs : starEach [e] X.env = [(false, eval e X.env)] := by rfl) :
    PI X (.Tuple elts kk tpos) (.Call (.Name "enumerate" p) [e] [] pos) (iEnumT K ta) := by
  subst hK
  refine ⟨fun pins s σ H R I h => ?_⟩
  refine Call_ (ld_blt I hg hm boot_enumerate (PyProof.Rows.callWith_type1 (thn (ha.run pos pins s σ H _ I h) fun us s1 ⟨vs, H1, I1, r1, q1⟩ => ?_) hs rfl))
  obtain ⟨a, xs, ex, hq, q⟩ := q1
  subst ex
  cases r1 with
  | cons r rr =>
    cases rr
    cases r
    obtain ⟨its, rv, p', hz⟩ := I1.tuple hq
    refine call_enumerate_tuple (show s1.heap.IsTuple a its.toArray from p') fun h' he hit hsz hk => wpAny_pyIter_enum he ?_
    have I2 : Inv X pins σ H1 { s1 with heap := h' } := I1.kept (t' := s1.toks) hk
    refine ⟨s1.heap.objs.size + 1, [s1.heap.objs.size + 1, s1.heap.objs.size], _, _, H1, rfl, I2, turn_enumT a (s1.heap.objs.size + 1) s1.heap.objs.size, ⟨⟨.none, he⟩, hit, Nat.succ_ne_self _⟩, fun b hb => ?_, q⟩
    have e' : b = s1.heap.objs.size + 1 ∨ b = s1.heap.objs.size := by simpa using hb
    have hle : s1.heap.objs.size ≤ b := by
      rcases e' with z | z
      · rw [z]; exact Nat.le_add_right _ _
      · rw [z]; exact Nat.le_refl _
    exact I1.fpOk hle (I1.hok.fresh hle)
theorem for_enumT {K : PySem.W.Frag} {a : Addr} {xs : List V} {g : TG} {tb : TS} {D : Ends} {σ : L2.St} {H : Hp} (Pv : Nat → L2.St → Hp → Prop) (h0 : Pv 0 σ H) (hl : ∀ i σ H, i ≤ xs.length → Pv i σ H → SqT K H a xs)
    (hs : ∀ i x T σ H, xs[i]? = some x → H T = none → Pv i σ H → g (.ref T) σ (upd H T (.tup [.int (i : Nat), x])) fun σ2 H2 => tb { D with nx := Pv (i + 1), ct := Pv (i + 1), bk := D.nx } σ2 H2) (hd : ∀ σ H, Pv xs.length σ H → D.nx σ H) :
    ∃ W : Nat → Nat → L2.St → Hp → Prop, (∃ m, W 0 m σ H) ∧ ∀ i m σ H, W i m σ H →
      ((Itet K a).stop i H ∧ D.nx σ H) ∨ ((Itet K a).go i H ∧ ∃ N : L2.St → Hp → Prop, (∀ σ' H', N σ' H' → ∃ m', m' < m ∧ W (i + 1) m' σ' H') ∧ ∀ x H', (Itet K a).yld i H x H' → g x σ H' fun σ2 H2 => tb { D with nx := N, ct := N, bk := D.nx } σ2 H2) := by
  refine ⟨fun i m σ H => m = xs.length - i ∧ i ≤ xs.length ∧ Pv i σ H, ⟨xs.length, by simp, Nat.zero_le _, h0⟩, ?_⟩
  rintro i m σ H ⟨rfl, hi, p⟩
  have q := hl i σ H hi p
  by_cases hlt : i < xs.length
  · refine .inr ⟨⟨xs, xs[i], q, by simp [hlt]⟩, Pv (i + 1), fun σ' H' p' => ⟨xs.length - (i + 1), by omega, rfl, hlt, p'⟩, fun x H' y => ?_⟩
    obtain ⟨T, z, rfl, hT, rfl, hz⟩ := y
    exact hs i z T σ _ (hz xs q) hT p
  · have e : i = xs.length := by omega
    subst e
    exact .inl ⟨⟨xs, q, rfl⟩, hd σ H p⟩
/-- comprehensions over enumerate -/
theorem lc_enum {K : PySem.W.Frag} {a : Addr} {xs : List V} {g : TG} {tt : TT} {te : TE} {vs : List Nat} {σ : L2.St} {H1 : Hp} {D : Addr} {Qd : Hp → Prop} (Pv : Nat → Hp → Prop) (h0 : Pv 0 (upd H1 D (.lst []))) (hl : ∀ i H, i ≤ xs.length → Pv i H → SqL K H a xs)
    (hs : ∀ i x T H, xs[i]? = some x → H T = none → Pv i H → g (.ref T) (wipe σ vs) (upd H T (.tup [.int (i : Nat), x])) fun σ2 H2 => wipe σ2 vs = wipe σ vs ∧ tt σ2 H2 fun b H3 =>
      if b = true then te σ2 H3 fun y H4 => ∃ acc, H4 D = some (.lst acc) ∧ acc.length < sizeLine ∧ Pv (i + 1) (upd H4 D (.lst (acc ++ [y]))) else Pv (i + 1) H3) (hd : ∀ H, Pv xs.length H → Qd H) :
    ∃ W : Nat → Nat → Hp → Prop, (∃ m, W 0 m (upd H1 D (.lst []))) ∧ ∀ i m H, W i m H →
      ((Ite K a).stop i H ∧ Qd H) ∨ ((Ite K a).go i H ∧ ∃ Nx : Hp → Prop, (∀ H', Nx H' → ∃ m', m' < m ∧ W (i + 1) m' H') ∧ ∀ x H', (Ite K a).yld i H x H' → g x (wipe σ vs) H' fun σ2 H2 => wipe σ2 vs = wipe σ vs ∧ tt σ2 H2 fun b H3 =>
        if b = true then te σ2 H3 fun y H4 => ∃ acc, H4 D = some (.lst acc) ∧ acc.length < sizeLine ∧ Nx (upd H4 D (.lst (acc ++ [y]))) else Nx H3) := by
  refine ⟨fun i m H => m = xs.length - i ∧ i ≤ xs.length ∧ Pv i H, ⟨xs.length, by simp, Nat.zero_le _, h0⟩, ?_⟩
  rintro i m H ⟨rfl, hi, p⟩
  have q := hl i H hi p
  by_cases hlt : i < xs.length
  · refine .inr ⟨⟨xs, xs[i], q, by simp [hlt]⟩, Pv (i + 1), fun H' p' => ⟨xs.length - (i + 1), by omega, rfl, hlt, p'⟩, fun x H' y => ?_⟩
    obtain ⟨T, z, rfl, hT, rfl, hz⟩ := y
    exact hs i z T _ (hz xs q) hT p
  · have e : i = xs.length := by omega
    subst e
    exact .inl ⟨⟨xs, q, Nat.le_refl _⟩, hd H p⟩
theorem lc_enumT {K : PySem.W.Frag} {a : Addr} {xs : List V} {g : TG} {tt : TT} {te : TE} {vs : List Nat} {σ : L2.St} {H1 : Hp} {D : Addr} {Qd : Hp → Prop} (Pv : Nat → Hp → Prop) (h0 : Pv 0 (upd H1 D (.lst []))) (hl : ∀ i H, i ≤ xs.length → Pv i H → SqT K H a xs)
    (hs : ∀ i x T H, xs[i]? = some x → H T = none → Pv i H → g (.ref T) (wipe σ vs) (upd H T (.tup [.int (i : Nat), x])) fun σ2 H2 => wipe σ2 vs = wipe σ vs ∧ tt σ2 H2 fun b H3 =>
      if b = true then te σ2 H3 fun y H4 => ∃ acc, H4 D = some (.lst acc) ∧ acc.length < sizeLine ∧ Pv (i + 1) (upd H4 D (.lst (acc ++ [y]))) else Pv (i + 1) H3) (hd : ∀ H, Pv xs.length H → Qd H) :
    ∃ W : Nat → Nat → Hp → Prop, (∃ m, W 0 m (upd H1 D (.lst []))) ∧ ∀ i m H, W i m H →
      ((Itet K a).stop i H ∧ Qd H) ∨ ((Itet K a).go i H ∧ ∃ Nx : Hp → Prop, (∀ H', Nx H' → ∃ m', m' < m ∧ W (i + 1) m' H') ∧ ∀ x H', (Itet K a).yld i H x H' → g x (wipe σ vs) H' fun σ2 H2 => wipe σ2 vs = wipe σ vs ∧ tt σ2 H2 fun b H3 =>
        if b = true then te σ2 H3 fun y H4 => ∃ acc, H4 D = some (.lst acc) ∧ acc.length < sizeLine ∧ Nx (upd H4 D (.lst (acc ++ [y]))) else Nx H3) := by
  refine ⟨fun i m H => m = xs.length - i ∧ i ≤ xs.length ∧ Pv i H, ⟨xs.length, by simp, Nat.zero_le _, h0⟩, ?_⟩
  rintro i m H ⟨rfl, hi, p⟩
  have q := hl i H hi p
  by_cases hlt : i < xs.length
  · refine .inr ⟨⟨xs, xs[i], q, by simp [hlt]⟩, Pv (i + 1), fun H' p' => ⟨xs.length - (i + 1), by omega, rfl, hlt, p'⟩, fun x H' y => ?_⟩
    obtain ⟨T, z, rfl, hT, rfl, hz⟩ := y
    exact hs i z T _ (hz xs q) hT p
  · have e : i = xs.length := by omega
    subst e
    exact .inl ⟨⟨xs, q, rfl⟩, hd H p⟩
/-- the same where each element is a value that is known: new things may be made on the way -/
theorem lc_enumV {K : PySem.W.Frag} {a : Addr} {xs ys : List V} {g : TG} {tt : TT} {te : TE} {vs : List Nat} {σ : L2.St} {H : Hp} {D : Addr} {Qd : Hp → Prop} (hD : H D = none) (hS : SqL K H a xs) (hn : ys.length = xs.length) (hz : xs.length ≤ 1000000)
    (hs : ∀ (i : Nat) (x y : V) (T : Addr) (H' : Hp) (C : VK) (N : Hp → Prop), xs[i]? = some x → ys[i]? = some y → H' T = none → Same H H' → H' D ≠ none → (∀ H2, Same (upd H' T (.tup [.int (i : Nat), x])) H2 → C y H2) → g (.ref T) (wipe σ vs) (upd H' T (.tup [.int (i : Nat), x])) fun σ2 H2 => wipe σ2 vs = wipe σ vs ∧ tt σ2 H2 fun b H3 => if b = true then te σ2 H3 C else N H3)
    (hd : ∀ H', Same H H' → H' D = some (.lst ys) → Qd H') :
    ∃ W : Nat → Nat → Hp → Prop, (∃ m, W 0 m (upd H D (.lst []))) ∧ ∀ i m H, W i m H →
      ((Ite K a).stop i H ∧ Qd H) ∨ ((Ite K a).go i H ∧ ∃ Nx : Hp → Prop, (∀ H', Nx H' → ∃ m', m' < m ∧ W (i + 1) m' H') ∧ ∀ x H', (Ite K a).yld i H x H' → g x (wipe σ vs) H' fun σ2 H2 => wipe σ2 vs = wipe σ vs ∧ tt σ2 H2 fun b H3 =>
        if b = true then te σ2 H3 fun y H4 => ∃ acc, H4 D = some (.lst acc) ∧ acc.length < sizeLine ∧ Nx (upd H4 D (.lst (acc ++ [y]))) else Nx H3) := by
  refine lc_enum (K := K) (a := a) (xs := xs) (fun i H' => Same H H' ∧ H' D = some (.lst (ys.take i))) ⟨same_new hD, by rw [upd_same]; rfl⟩ (fun i H' _ p => p.1.seq hS) (fun i x T H' hx hT p => ?_) (fun H' p => ?_)
  · have hi : i < ys.length := by
      rw [hn]
      exact (List.getElem?_eq_some_iff.mp hx).1
    refine hs i x ys[i] T H' _ _ hx (List.getElem?_eq_getElem hi) hT p.1 (ne_none p.2) fun H2 s2 => ⟨_, s2 _ _ (same_new hT _ _ p.2), ?_, ?_, ?_⟩
    · rw [List.length_take]
      exact small1000000 (by omega)
    · exact same_put (p.1.trans ((same_new hT).trans s2)) hD
    · rw [upd_same, List.take_add_one, List.getElem?_eq_getElem hi]
      rfl
  · refine hd H' p.1 ?_
    have e := p.2
    rw [← hn, List.take_length] at e
    exact e
theorem lc_enumTV {K : PySem.W.Frag} {a : Addr} {xs ys : List V} {g : TG} {tt : TT} {te : TE} {vs : List Nat} {σ : L2.St} {H : Hp} {D : Addr} {Qd : Hp → Prop} (hD : H D = none) (hS : SqT K H a xs) (hn : ys.length = xs.length) (hz : xs.length ≤ 1000000)
    (hs : ∀ (i : Nat) (x y : V) (T : Addr) (H' : Hp) (C : VK) (N : Hp → Prop), xs[i]? = some x → ys[i]? = some y → H' T = none → Same H H' → H' D ≠ none → (∀ H2, Same (upd H' T (.tup [.int (i : Nat), x])) H2 → C y H2) → g (.ref T) (wipe σ vs) (upd H' T (.tup [.int (i : Nat), x])) fun σ2 H2 => wipe σ2 vs = wipe σ vs ∧ tt σ2 H2 fun b H3 => if b = true then te σ2 H3 C else N H3)
    (hd : ∀ H', Same H H' → H' D = some (.lst ys) → Qd H') :
    ∃ W : Nat → Nat → Hp → Prop, (∃ m, W 0 m (upd H D (.lst []))) ∧ ∀ i m H, W i m H →
      ((Itet K a).stop i H ∧ Qd H) ∨ ((Itet K a).go i H ∧ ∃ Nx : Hp → Prop, (∀ H', Nx H' → ∃ m', m' < m ∧ W (i + 1) m' H') ∧ ∀ x H', (Itet K a).yld i H x H' → g x (wipe σ vs) H' fun σ2 H2 => wipe σ2 vs = wipe σ vs ∧ tt σ2 H2 fun b H3 =>
        if b = true then te σ2 H3 fun y H4 => ∃ acc, H4 D = some (.lst acc) ∧ acc.length < sizeLine ∧ Nx (upd H4 D (.lst (acc ++ [y]))) else Nx H3) := by
  refine lc_enumT (K := K) (a := a) (xs := xs) (fun i H' => Same H H' ∧ H' D = some (.lst (ys.take i))) ⟨same_new hD, by rw [upd_same]; rfl⟩ (fun i H' _ p => same_sqt p.1 hS) (fun i x T H' hx hT p => ?_) (fun H' p => ?_)
  · have hi : i < ys.length := by
      rw [hn]
      exact (List.getElem?_eq_some_iff.mp hx).1
    refine hs i x ys[i] T H' _ _ hx (List.getElem?_eq_getElem hi) hT p.1 (ne_none p.2) fun H2 s2 => ⟨_, s2 _ _ (same_new hT _ _ p.2), ?_, ?_, ?_⟩
    · rw [List.length_take]
      exact small1000000 (by omega)
    · exact same_put (p.1.trans ((same_new hT).trans s2)) hD
    · rw [upd_same, List.take_add_one, List.getElem?_eq_getElem hi]
      rfl
  · refine hd H' p.1 ?_
    have e := p.2
    rw [← hn, List.take_length] at e
    exact e
/-- elements are data that are made on the way -/
theorem lc_enumD {K : PySem.W.Frag} {a : Addr} {xs : List V} {ys : List PyData} {g : TG} {tt : TT} {te : TE} {vs : List Nat} {σ : L2.St} {H : Hp} {D : Addr} {Qd : Hp → Prop} (M : Ms) (hM : Mk M H) (hD : H D = none) (hS : SqL K H a xs) (hn : ys.length = xs.length) (hz : xs.length ≤ 1000000)
    (hs : ∀ (i : Nat) (x : V) (y : PyData) (T : Addr) (H' : Hp) (C : VK) (N : Hp → Prop), xs[i]? = some x → ys[i]? = some y → H' T = none → Same H H' → Mk (also M D) (upd H' T (.tup [.int (i : Nat), x])) → (∀ v H2, Same (upd H' T (.tup [.int (i : Nat), x])) H2 → Rp (also M D) H2 v y → C v H2) → g (.ref T) (wipe σ vs) (upd H' T (.tup [.int (i : Nat), x])) fun σ2 H2 => wipe σ2 vs = wipe σ vs ∧ tt σ2 H2 fun b H3 => if b = true then te σ2 H3 C else N H3)
    (hd : ∀ H', Same H H' → Ld M H' D ys → Qd H') :
    ∃ W : Nat → Nat → Hp → Prop, (∃ m, W 0 m (upd H D (.lst []))) ∧ ∀ i m H, W i m H →
      ((Ite K a).stop i H ∧ Qd H) ∨ ((Ite K a).go i H ∧ ∃ Nx : Hp → Prop, (∀ H', Nx H' → ∃ m', m' < m ∧ W (i + 1) m' H') ∧ ∀ x H', (Ite K a).yld i H x H' → g x (wipe σ vs) H' fun σ2 H2 => wipe σ2 vs = wipe σ vs ∧ tt σ2 H2 fun b H3 =>
        if b = true then te σ2 H3 fun y H4 => ∃ acc, H4 D = some (.lst acc) ∧ acc.length < sizeLine ∧ Nx (upd H4 D (.lst (acc ++ [y]))) else Nx H3) := by
  refine lc_enum (K := K) (a := a) (xs := xs) (fun i H' => Same H H' ∧ ∃ acc, H' D = some (.lst acc) ∧ RpAll (also M D) H' acc (ys.take i)) ⟨same_new hD, [], upd_same, by rw [List.take_zero]; exact .nil⟩ (fun i H' _ p => p.1.seq hS) (fun i x T H' hx hT p => ?_) (fun H' p => ?_)
  · obtain ⟨s, acc, e, r⟩ := p
    have hi : i < ys.length := by
      rw [hn]
      exact (List.getElem?_eq_some_iff.mp hx).1
    have hl := r.length
    rw [List.length_take] at hl
    have s1 : Same H' (upd H' T (.tup [.int (i : Nat), x])) := same_new hT
    refine hs i x ys[i] T H' _ _ hx (List.getElem?_eq_getElem hi) hT s (((hM.gr (Gr.same s)).also (ne_none e)).gr (Gr.same s1)) fun v H2 s2 rv => ?_
    refine ⟨acc, s2 _ _ (s1 _ _ e), small1000000 (by omega), ?_, acc ++ [v], upd_same, ?_⟩
    · exact same_put (s.trans (s1.trans s2)) hD
    · rw [List.take_add_one, List.getElem?_eq_getElem hi]
      exact ((r.sx (Sx.same (s1.trans s2))).append (.one rv)).sx (Sx.put (.inr rfl))
  · obtain ⟨s, acc, e, r⟩ := p
    rw [← hn, List.take_length] at r
    exact hd H' s ⟨hM.out hD, acc, e, r.less also_le⟩
end D
namespace D
open PySem PySem.Spec PyProof.Rows L2
theorem mt_lcountK {K : PySem.W.Frag} {X : Cx} (hK : X.K = K) : MtR X "list.count" (rCntI K) := by subst hK; exact mt_lcount
end D
namespace D
open PySem PySem.Spec PyProof.Rows L2
section
variable {X : Cx} {K : PySem.W.Frag} {o e : Expr} {es : List Expr} {to : TE} {t : TA} {name : Str} {apos cpos : Pos} {T id : String} {r : V → List V → Hp → VK → Prop}
theorem pe_bm0K2 (hK : X.K = K) (pa : PlainAttrs T) (slot : Slot T name id) (hty : typeOf (.builtin id) = pure (.type "method_descriptor")) (hm : MtR X id r) (ho : PE X o to)
    (hbase : attributeBase o name X.env (eval o X.env) = eval o X.env := by rfl) (hline : (apos.endLine == cpos.line) = true := by rfl) : PE X (.Call (.Attribute o name apos) [] [] cpos) (tBM0 K T r to) := by
  subst hK
  exact pe_bm0 pa slot hty hm ho hbase hline
theorem pe_bmK2 (hK : X.K = K) (pa : PlainAttrs T) (slot : Slot T name id) (hty : typeOf (.builtin id) = pure (.type "method_descriptor")) (hm : MtR X id r) (ho : PE X o to) (ha : PA X (e :: es) t)
    (hbase : attributeBase o name X.env (eval o X.env) = eval o X.env := by rfl)
    (hfew : ((backTo cpos (starEach (e :: es) X.env)).all (fun x => !x.1) && (backToKw cpos (keywordEach [] X.env)).all (fun x => x.1.isSome)
      && decide ((e :: es).length + ([] : List Keyword).length + (if ([] : List Keyword).isEmpty then 0 else 1) < 30)) = true := by rfl)
    (hline : (apos.endLine == cpos.line) = true := by rfl) (hs : starEach (e :: es) X.env = (false, eval e X.env) :: starEach es X.env := by rfl) (hplain : (backTo cpos (starEach es X.env)).any (·.1) = false := by rfl) :
    PE X (.Call (.Attribute o name apos) (e :: es) [] cpos) (tBM K T r to t) := by
  subst hK
  exact pe_bm pa slot hty hm ho ha hbase hfew hline hs hplain
end
end D

namespace D
open PySem PySem.Spec PyProof.Rows L2
/-- comprehensions' loops, whatever their bodies -/
theorem rng_loop {n : Nat} {lo : Int} {Qd : Hp → Prop} {H0 : Hp} {B : V → Hp → (Hp → Prop) → Prop} (Pv : Nat → Hp → Prop) (h0 : Pv 0 H0) (hs : ∀ i H, i < n → Pv i H → B (.int (lo + (i : Nat))) H (Pv (i + 1))) (hd : ∀ H, Pv n H → Qd H) :
    ∃ W : Nat → Nat → Hp → Prop, (∃ m, W 0 m H0) ∧ ∀ i m H, W i m H → ((Itr lo n).stop i H ∧ Qd H) ∨ ((Itr lo n).go i H ∧ ∃ Nx : Hp → Prop, (∀ H', Nx H' → ∃ m', m' < m ∧ W (i + 1) m' H') ∧ ∀ x H', (Itr lo n).yld i H x H' → B x H' Nx) := by
  refine ⟨fun i m H => m = n - i ∧ i ≤ n ∧ Pv i H, ⟨_, rfl, Nat.zero_le _, h0⟩, ?_⟩
  rintro i m H ⟨rfl, hi, p⟩
  by_cases hlt : i < n
  · refine .inr ⟨hlt, Pv (i + 1), fun H' p' => ⟨n - (i + 1), by omega, rfl, hlt, p'⟩, fun x H' y => ?_⟩
    obtain ⟨rfl, rfl⟩ := y
    exact hs i _ hlt p
  · have e : i = n := by omega
    subst e
    exact .inl ⟨Nat.le_refl _, hd H p⟩
theorem list_loop {K : PySem.W.Frag} {a : Addr} {xs : List V} {Qd : Hp → Prop} {H0 : Hp} {B : V → Hp → (Hp → Prop) → Prop} (Pv : Nat → Hp → Prop) (h0 : Pv 0 H0) (hl : ∀ i H, i ≤ xs.length → Pv i H → SqL K H a xs) (hs : ∀ i x H, xs[i]? = some x → Pv i H → B x H (Pv (i + 1))) (hd : ∀ H, Pv xs.length H → Qd H) :
    ∃ W : Nat → Nat → Hp → Prop, (∃ m, W 0 m H0) ∧ ∀ i m H, W i m H → ((Itl K a).stop i H ∧ Qd H) ∨ ((Itl K a).go i H ∧ ∃ Nx : Hp → Prop, (∀ H', Nx H' → ∃ m', m' < m ∧ W (i + 1) m' H') ∧ ∀ x H', (Itl K a).yld i H x H' → B x H' Nx) := by
  refine ⟨fun i m H => m = xs.length - i ∧ i ≤ xs.length ∧ Pv i H, ⟨_, rfl, Nat.zero_le _, h0⟩, ?_⟩
  rintro i m H ⟨rfl, hi, p⟩
  have q := hl i H hi p
  by_cases hlt : i < xs.length
  · refine .inr ⟨⟨xs, xs[i], q, by simp [hlt]⟩, Pv (i + 1), fun H' p' => ⟨xs.length - (i + 1), by omega, rfl, hlt, p'⟩, fun x H' y => ?_⟩
    obtain ⟨e, y⟩ := y
    subst e
    exact hs i x _ (y xs q) p
  · have e : i = xs.length := by omega
    subst e
    exact .inl ⟨⟨xs, q, Nat.le_refl _⟩, hd H p⟩
theorem tup_loop {K : PySem.W.Frag} {a : Addr} {xs : List V} {Qd : Hp → Prop} {H0 : Hp} {B : V → Hp → (Hp → Prop) → Prop} (Pv : Nat → Hp → Prop) (h0 : Pv 0 H0) (hl : ∀ i H, i ≤ xs.length → Pv i H → SqT K H a xs) (hs : ∀ i x H, xs[i]? = some x → Pv i H → B x H (Pv (i + 1))) (hd : ∀ H, Pv xs.length H → Qd H) :
    ∃ W : Nat → Nat → Hp → Prop, (∃ m, W 0 m H0) ∧ ∀ i m H, W i m H → ((Itt K a).stop i H ∧ Qd H) ∨ ((Itt K a).go i H ∧ ∃ Nx : Hp → Prop, (∀ H', Nx H' → ∃ m', m' < m ∧ W (i + 1) m' H') ∧ ∀ x H', (Itt K a).yld i H x H' → B x H' Nx) := by
  refine ⟨fun i m H => m = xs.length - i ∧ i ≤ xs.length ∧ Pv i H, ⟨_, rfl, Nat.zero_le _, h0⟩, ?_⟩
  rintro i m H ⟨rfl, hi, p⟩
  have q := hl i H hi p
  by_cases hlt : i < xs.length
  · refine .inr ⟨⟨xs, xs[i], q, by simp [hlt]⟩, Pv (i + 1), fun H' p' => ⟨xs.length - (i + 1), by omega, rfl, hlt, p'⟩, fun x H' y => ?_⟩
    obtain ⟨e, y⟩ := y
    subst e
    exact hs i x _ (y xs q) p
  · have e : i = xs.length := by omega
    subst e
    exact .inl ⟨⟨xs, q, Nat.le_refl _⟩, hd H p⟩
/-- a dict made of pairs of whole numbers -/
def toldK (ps : List (Int × Int)) : List (Key × V) := ps.foldl (fun k p => putK k (.inl p.2) (.int p.1)) []
theorem putK_le (c : List (Key × V)) (k : Key) (x : V) : (putK c k x).length ≤ c.length + 1 := by
  unfold putK
  split
  · rw [List.length_map]; omega
  · rw [List.length_append]; exact Nat.le_refl _
theorem toldK_snoc (ps : List (Int × Int)) (p : Int × Int) : toldK (ps ++ [p]) = putK (toldK ps) (.inl p.2) (.int p.1) := by
  unfold toldK
  rw [List.foldl_append]
  rfl
theorem told_all (ps : List (Int × Int)) : ∀ qs : List (Int × Int), (∀ p ∈ qs, p ∈ ps) → ∀ s w, valV (toldK qs) (.inl s) = some w → ∃ v, w = .int v ∧ (v, s) ∈ ps := by
  suffices h : ∀ (qs : List (Int × Int)) (c : List (Key × V)), (∀ p ∈ qs, p ∈ ps) → (∀ s w, valV c (.inl s) = some w → ∃ v, w = .int v ∧ (v, s) ∈ ps) → ∀ s w, valV (qs.foldl (fun k p => putK k (.inl p.2) (.int p.1)) c) (.inl s) = some w → ∃ v, w = .int v ∧ (v, s) ∈ ps from fun qs hq => h qs [] hq (fun s w e => nomatch e)
  intro qs
  induction qs with
  | nil => intro c _ hc; exact hc
  | cons q r ih =>
    intro c hq hc
    refine ih _ (fun p hp => hq p (List.mem_cons_of_mem _ hp)) (fun s w e => ?_)
    rw [valV_put] at e
    split at e
    · rename_i e2
      cases e2
      cases e
      exact ⟨_, rfl, hq q List.mem_cons_self⟩
    · exact hc s w e
theorem told_mem : ∀ (qs : List (Int × Int)) (p : Int × Int), p ∈ qs → ∃ w, valV (toldK qs) (.inl p.2) = some w := by
  suffices h : ∀ (qs : List (Int × Int)) (c : List (Key × V)) (s : Int), ((∃ p ∈ qs, p.2 = s) ∨ ∃ w, valV c (.inl s) = some w) → ∃ w, valV (qs.foldl (fun k p => putK k (.inl p.2) (.int p.1)) c) (.inl s) = some w from fun qs p hp => h qs [] p.2 (.inl ⟨p, hp, rfl⟩)
  intro qs
  induction qs with
  | nil =>
    intro c s h
    rcases h with ⟨_, h, _⟩ | h
    · exact nomatch h
    · exact h
  | cons q r ih =>
    intro c s h
    refine ih _ s ?_
    rcases h with ⟨p, hp, e⟩ | ⟨w, e⟩
    · rcases List.mem_cons.mp hp with rfl | hp
      · exact .inr ⟨_, by rw [valV_put, if_pos (by rw [e])]⟩
      · exact .inl ⟨p, hp, e⟩
    · right
      rw [valV_put]
      split
      · exact ⟨_, rfl⟩
      · exact ⟨w, e⟩
/-- what such a dict tells of a pair -/
theorem told_get {ps : List (Int × Int)} {p : Int × Int} (h : p ∈ ps) : ∃ v, valV (toldK ps) (.inl p.2) = some (.int v) ∧ (v, p.2) ∈ ps := by
  obtain ⟨w, e⟩ := told_mem ps p h
  obtain ⟨v, rfl, hv⟩ := told_all ps ps (fun _ h => h) _ _ e
  exact ⟨v, e, hv⟩
end D

namespace D
open PySem PySem.Spec PyProof.Rows L2
/-! ### dict comprehensions whose keys are tuples (after the layer's own for ints and texts) -/
theorem d_dictSetT {X : Cx} {pins : List (Addr × Obj)} {σ : L2.St} {H : Hp} {s : Shared} {E : Value → Shared → Prop} {D : Addr} {kvs : List (List Key × V)} {k : List Key} {b : Addr} {v : V} {u r : Value} {Q : Unit → Shared → Prop} (hu : X.A.units + 1 < cLine) (I : Inv X pins σ H s) (hD : H D = some (.dT kvs)) (hz : kvs.length < sizeLine)
    (eb : H b = some (.tup (k.map kV))) (ry : RelV (.ref b) u) (rv : RelV v r) (h : ∀ s', Inv X pins σ (upd H D (.dT (putK kvs k v))) s' → Q () s') : wpAny (model X.prog X.w) X.A (dictSet D u r) Q E s := by
  cases (show u = Value.ref b from ry)
  obtain ⟨z, hd, xs, rel, dd⟩ := dt_of I.hok hD
  have hz' : xs.length ≤ sizeLine := by rw [← Paired.length rel]; exact z
  have hl : (putK kvs k v).length ≤ sizeLine := by have := length_putK kvs k v; omega
  refine wpAny_dictSet_heap (hsz := hz') (show (tupleKind (mixKind X.prog X.w)).room X.A from Nat.lt_of_succ_lt hu) (key_of I.hok eb) dd fun h' dd' hs => h _ ?_
  obtain ⟨q, es, ep, hq, h2, h3, h4, _, h5⟩ := dd'
  refine d_write I (by rw [hD]; exact True.intro) hs ⟨q, hq⟩ ⟨hl, hd, _, (rel.put k eb rv).keeps fun c ys ec => ?_, q, es, ep, hq, h2, h3, h4, h5⟩
  rw [upd_ne (ne_of ec hD (fun z => nomatch z))]
  exact ec
theorem key_rd {P : Program} {w : World} {H : Hp} {h : Heap} {a : Addr} {ks : List Key} (ok : HOk P w H h) (e : Rd H a (.tup (ks.map kV))) : (tupleKind (mixKind P w)).is h ks a := by
  obtain ⟨_, its, r, o, h1, h2, n, h3⟩ := (show ObjOk P w H h a (.tup (ks.map kV)) from rd_of ok e)
  exact ⟨o, its.toArray, n, h1, h2, h3, by simpa using items_are r⟩
section
variable {X : Cx}
/-- something holds of all contexts that a block may have -/
abbrev InBlk (X : Cx) (sc : Scope) (F : Cx → Prop) : Prop := ∀ (t : Shared) (G : Hp) (L : Addr) (cells : List (Str × Addr)) (feet : List Addr), F (X.blk t G sc (compEnvC sc cells L X.env) feet)
/-- what a comprehension does with a new dict at D: O what stands there, Put the storing of a pair -/
def tDcG (O : Addr → HO) (Put : Addr → (Hp → Prop) → V → V → Hp → Prop) (walk : TI) (g : TG) (tt : TT) (tk tv : TE) (own : List Nat) : TE := fun σ H Q => walk σ H fun J H1 => ∀ D, H1 D = none → ∃ W : Nat → Nat → Hp → Prop, (∃ m, W 0 m (upd H1 D (O D))) ∧ ∀ i m G, W i m G →
  (J.stop i G ∧ Q (.ref D) G) ∨ (J.go i G ∧ ∃ N : Hp → Prop, (∀ G', N G' → ∃ m', m' < m ∧ W (i + 1) m' G') ∧
    ∀ x G', J.yld i G x G' → g x (wipe σ own) G' fun σ2 G2 => wipe σ2 own = wipe σ own ∧ tt σ2 G2 fun b G3 => if b = true then tk σ2 G3 fun y G4 => tv σ2 G4 fun z G5 => Put D N y z G5 else N G3)
/-- the pair is put into the dict at D -/
def PutT (D : Addr) (N : Hp → Prop) (y z : V) (G : Hp) : Prop := ∃ kvs k b, y = .ref b ∧ G b = some (.tup (k.map kV)) ∧ G D = some (.dT kvs) ∧ kvs.length < sizeLine ∧ N (upd G D (.dT (putK kvs k z)))
/-- what a storing must be -/
def Stores (X : Cx) (Put : Addr → (Hp → Prop) → V → V → Hp → Prop) : Prop := ∀ (B : Cx) (pins : List (Addr × Obj)) (σ : L2.St) (G : Hp) (t : Shared) (D : Addr) (N : Hp → Prop) (y z : V) (u r : Value) (Q : Unit → Shared → Prop) (E : Value → Shared → Prop),
  B.prog = X.prog → B.w = X.w → B.A = X.A → B.K = X.K → Inv B pins σ G t → Put D N y z G → RelV y u → RelV z r → (∀ t' G', Inv B pins σ G' t' → N G' → Q () t') → wpAny (model B.prog B.w) B.A (dictSet D u r) Q E t
theorem pe_dcG {O : Addr → HO} {Put : Addr → (Hp → Prop) → V → V → Hp → Prop} {kx vx tgt it : Expr} {ifs : List Expr} {sc : Scope} {own : List (Str × Nat)} {pos : Pos} {walk : TI} {g : TG} {tt : TT} {tk tv : TE} (mk0 : ∀ (H : Hp) (h : Heap), sysModules < h.objs.size → ObjOk X.prog X.w H (h.push { cls := .type "dict", data := .dict #[] }) h.objs.size (O h.objs.size)) (store : Stores X Put) (calm : X.calm = true) (nod : X.N.Nodup)
    (pi : PI X tgt it walk) (bo : BlkOk X.N X.env.scope sc own) (pg : InBlk X sc fun B => PG B tgt g) (pt : InBlk X sc fun B => PTs B ifs tt) (pk : InBlk X sc fun B => PE B kx tk) (pv : InBlk X sc fun B => PE B vx tv)
    (plain : ∀ x, foldedSetIterable it X.env x = pure x := by intro _; rfl) : PE X (.DictComp kx vx [⟨tgt, it, ifs, 0⟩] sc pos) (tDcG O Put walk g tt tk tv (own.map (·.2))) := ⟨fun pins s σ H Q I h => by
  rw [arm_eval_DictComp]
  have free : ∀ y ∈ sc.names, y.2 = .free → ∃ c, X.env.cells.lookup y.1 = some c := fun y hy e => (bo.free y hy e).elim (fun k => I.ok.has _ (.inl k)) fun k => I.ok.has _ (.inr k)
  refine wpAny_comprehension_free (use := none) rfl plain (closure_ok free) bo.kind (fun y hy e => by rw [bo.uniq y hy, e]) ?_
  -- what is walked, then the empty dict
  refine thn (pi.run pins s σ H _ I h) fun xv s1 hx => thn hx ?_
  rintro itv s2 ⟨ad, feet, tn, J, H2, rfl, I2, T, at2, ft2, q⟩
  refine wpAny_newObj_type (newEnv_comp ?_)
  have fresh : H2 s2.heap.objs.size = none := I2.hok.fresh (Nat.le_refl _)
  obtain ⟨W, ⟨m0, w0⟩, turn⟩ := q _ fresh
  let s3 : Shared := { s2 with heap := s2.heap.push { cls := .type "dict", data := .dict #[] } }
  let D : Addr := s2.heap.objs.size
  let H3 : Hp := upd H2 D (O D)
  let L : Addr := s3.heap.objs.size
  let e3 : Env := compEnvC sc (cellsFrom (L + 1) sc.names (cloFrom X.env.cells sc.names [])) L X.env
  let s4 : Shared := { s3 with heap := pushCells (s3.heap.push { cls := .type "dict", data := .dict #[] }) sc.names }
  have I3 : Inv X pins σ H3 s3 := I2.laid (t' := s2.toks) (fun _ _ e => Heap.get?_push_of_some _ e) (Nat.le_refl _) (mk0 _ s2.heap I2.big)
  have grown : ∀ b o, s2.heap.get? b = some o → s3.heap.get? b = some o := fun _ _ e => Heap.get?_push_of_some _ e
  have low : ∀ b ∈ feet, b < s2.heap.objs.size := fun b hb => Heap.lt_size (T.obj _ _ at2 b hb).choose_spec.1
  have ft3 : ∀ b ∈ feet, FpOk X pins H3 b ∧ b < s3.heap.objs.size := fun b hb => ⟨⟨(upd_ne (Nat.ne_of_lt (low b hb))).trans (ft2 b hb).1, (ft2 b hb).2⟩, by show b < (s2.heap.push _).objs.size; rw [Heap.size_push]; exact Nat.lt_succ_of_lt (low b hb)⟩
  have at3 : tn 0 s3.heap := T.keep _ _ _ at2 fun b _ o e => grown b o e
  have I4 : Inv (X.blk s3 H3 sc e3 feet) [] (wipe σ (own.map (·.2))) H3 s4 := block_start I3 bo nod ft3
  have at4 : tn 0 s4.heap := T.keep _ _ _ at3 fun b _ o e => pushCells_keeps _ _ _ _ (Heap.get?_push_of_some _ e)
  -- the walker's own objects in the block's context
  have foot : ∀ {σ' : L2.St} {G : Hp} {t : Shared}, Inv (X.blk s3 H3 sc e3 feet) [] σ' G t → (∀ b ∈ feet, G b = none) → ∀ b ∈ feet, FpOk (X.blk s3 H3 sc e3 feet) [] G b := by
    intro σ' G t J' none b hb
    refine ⟨none b hb, (J'.ok.exf b hb).1, J'.ok.exfs b hb, .inl hb, fun x c e => (J'.ok.exf b hb).2 x c e, ?_⟩
    intro p hp
    exact nomatch (show p ∈ ([] : List (Addr × Obj)) from by simpa using hp)
  have loop : codeAny (model X.prog X.w) X.A (.compLoop (.DictComp kx vx [⟨tgt, it, ifs, 0⟩] sc pos) 0 (.ref ad) (.ref D) e3) (compPost (model X.prog X.w) X.A X.xe none (fun v t => ∃ x G, Inv X pins σ G t ∧ RelV x v ∧ Q x G) (.ref D) L) s4 := by
    refine compLoop_anyD (fun n t => ∃ i G, Inv (X.blk s3 H3 sc e3 feet) [] (wipe σ (own.map (·.2))) G t ∧ tn i t.heap ∧ (∀ b ∈ feet, G b = none) ∧ W i n G) ?_ m0 ⟨0, H3, I4, at4, fun b hb => (ft3 b hb).1.1, w0⟩
    rintro n t ⟨i, G, IG, atG, nG, wG⟩
    obtain ⟨stop, fin⟩ | ⟨go, N, less, step⟩ := turn i n G wG
    · refine thnF (T.done (X.blk s3 H3 sc e3 feet) rfl rfl rfl calm i [] t _ G (fun _ _ => False) IG (foot IG nG) atG stop) ?_
      rintro r t6 ⟨rfl, I6⟩
      have I7 : Inv X pins σ G t6 := I3.call' (ch := feet) I6.os I6.base I6.hok I6.bare fun b hb => let z := (ft3 b hb).1.2; ⟨z.2.2.1, z.1, z.2.2.2.1, z.2.2.2.2⟩
      obtain ⟨m, names, _⟩ := I6.loc
      obtain ⟨a0, a1, a2, a3, a4, a5⟩ := I3.fpOk (Nat.le_refl _) (show G L = none from I6.free)
      exact ⟨m, names, fun h'' kept => ⟨.ref D, G, I7.turned (t' := t6.toks) (fun b o hb e => (kept.2 b hb).trans e) a0 a1 a3 a4 a5, rfl, fin⟩⟩
    · refine thnF (T.item (X.blk s3 H3 sc e3 feet) rfl rfl rfl calm i [] t _ G (fun _ _ => False) IG (foot IG nG) atG go) ?_
      rintro r t6 ⟨u, rfl, h6⟩
      refine thnF h6 ?_
      rintro _ t7 ⟨x, G7, I7, r7, y7, at7, n7⟩
      refine thnF ((pg _ _ _ _ _).run _ t7 _ G7 x u _ (I7.pinned (foot I7 n7) (T.obj _ _ at7)) r7 (step x G7 y7)) ?_
      rintro _ t8 ⟨σ8, G8, I8, wp8, q8⟩
      refine thnF ((pt _ _ _ _ _).run _ t8 σ8 G8 _ I8 q8) ?_
      rintro b t9 ⟨G9, I9, q9⟩
      have back : ∀ {t' : Shared} {G' : Hp}, Inv (X.blk s3 H3 sc e3 feet) ([] ++ pinsAt feet t7.heap) σ8 G' t' → N G' → ∃ m, m < n ∧ ∃ i G, Inv (X.blk s3 H3 sc e3 feet) [] (wipe σ (own.map (·.2))) G t' ∧ tn i t'.heap ∧ (∀ b ∈ feet, G b = none) ∧ W i m G := by
        intro t' G' I' nx
        obtain ⟨m', lt, w'⟩ := less G' nx
        have held : ∀ b ∈ feet, ∀ o, t7.heap.get? b = some o → t'.heap.get? b = some o ∧ G' b = none := fun b hb o e => let z := I'.pin (b, o) (List.mem_append_right _ (List.mem_append_right _ (mem_pinsAt hb e))); ⟨z.1, z.2.1⟩
        refine ⟨m', lt, i + 1, G', I'.unpinned.weak (by rw [← wp8, wipe_length]) fun j v e => ?_, T.keep _ _ _ at7 fun b hb o e => (held b hb o e).1, fun b hb => ?_, w'⟩
        · exact (wipe_some (wp8 ▸ e)).1
        · obtain ⟨o, e, _⟩ := T.obj _ _ at7 b hb
          exact (held b hb o e).2
      by_cases yes : b = true
      · subst yes
        refine thnF ((pk _ _ _ _ _).run _ t9 σ8 G9 _ I9 q9) ?_
        rintro ku t10 ⟨ky, G10, I10, r10, q10⟩
        refine thnF ((pv _ _ _ _ _).run _ t10 σ8 G10 _ I10 q10) ?_
        rintro vu t11 ⟨vy, G11, I11, r11, putting⟩
        exact store (X.blk s3 H3 sc e3 feet) _ _ _ _ _ _ _ _ _ _ _ _ rfl rfl rfl rfl I11 putting r10 r11 fun t12 G12 I12 nx => back I12 nx
      · have no : b = false := by cases b with | true => exact absurd rfl yes | false => rfl
        subst no
        exact back I9 q9
  exact codeAny_compStart_dict loop (T.self X.A 0 _ _ _ at4 loop)⟩
/-- keys that are tuples of ints and texts -/
abbrev tDcT (walk : TI) (g : TG) (tt : TT) (tk tv : TE) (own : List Nat) : TE := tDcG (fun _ => .dT []) PutT walk g tt tk tv own
theorem stores_T (hu : X.A.units + 1 < cLine) : Stores X PutT := by
  rintro B pins σ G t D N y z u r Q E e1 e2 e3 e4 I ⟨kvs, k, kb, rfl, tup, dict, room, nx⟩ ry rz h
  exact d_dictSetT (by rw [e3]; exact hu) I dict room tup ry rz fun t' I' => h t' _ I' nx
theorem pe_dcT {kx vx tgt it : Expr} {ifs : List Expr} {sc : Scope} {own : List (Str × Nat)} {pos : Pos} {walk : TI} {g : TG} {tt : TT} {tk tv : TE} (hu : X.A.units + 1 < cLine) (calm : X.calm = true) (nod : X.N.Nodup)
    (pi : PI X tgt it walk) (bo : BlkOk X.N X.env.scope sc own) (pg : InBlk X sc fun B => PG B tgt g) (pt : InBlk X sc fun B => PTs B ifs tt) (pk : InBlk X sc fun B => PE B kx tk) (pv : InBlk X sc fun B => PE B vx tv)
    (plain : ∀ x, foldedSetIterable it X.env x = pure x := by intro _; rfl) : PE X (.DictComp kx vx [⟨tgt, it, ifs, 0⟩] sc pos) (tDcT walk g tt tk tv (own.map (·.2))) :=
  pe_dcG (fun _ h b => dt_empty h b) (stores_T hu) calm nod pi bo pg pt pk pv plain
/-! ### dicts whose keys are tuples that may be known to their objects -/
/-- the dict at a: kvs its pairs, ks its keys with the tuples that stand for them -/
def KX (kvs : List (List Key × V)) (ks : List (List Key × Addr)) (xs : List (List Key × Addr × Value)) : Prop := Paired (fun (p : List Key × V) (q : List Key × Addr × Value) => p.1 = q.1 ∧ RelV p.2 q.2.2) kvs xs ∧ xs.map (fun q => (q.1, q.2.1)) = ks
def dXo (P : Program) (w : World) (a : Addr) (kvs : List (List Key × V)) (ks : List (List Key × Addr)) : HO := .ext fun h => kvs.length ≤ sizeLine ∧ (a == sysModules) = false ∧ ∃ xs, KX kvs ks xs ∧ (∃ o es ep, h.get? a = some o ∧ o.ExactDict ∧ o.data = .dict es ep ∧ es.toList = xs.map (entryOfKey (tupleKind (mixKind P w)))) ∧ (xs.map (·.1)).Nodup
theorem dXo_ok {P : Program} {w : World} {H : Hp} {h : Heap} {a : Addr} {kvs : List (List Key × V)} {ks : List (List Key × Addr)} {xs : List (List Key × Addr × Value)} {o : Obj} {es : Array DictEntry} {ep : Nat} (l : kvs.length ≤ sizeLine) (n : (a == sysModules) = false) (r : KX kvs ks xs) (g : h.get? a = some o) (x : o.ExactDict) (d : o.data = .dict es ep)
    (e : es.toList = xs.map (entryOfKey (tupleKind (mixKind P w)))) (nd : (xs.map (·.1)).Nodup) : ObjOk P w H h a (dXo P w a kvs ks) := by
  refine ⟨⟨l, n, xs, r, ⟨o, es, ep, g, x, d, e⟩, nd⟩, ⟨o, g⟩, ?_⟩
  rintro h1 h2 ⟨l1, n1, xs1, r1, ⟨o1, es1, ep1, g1, x1, d1, e1⟩, nd1⟩ same
  exact ⟨l1, n1, xs1, r1, ⟨o1, es1, ep1, same o1 g1, x1, d1, e1⟩, nd1⟩
/-- the tuples stand -/
def KsAt (H : Hp) (ks : List (List Key × Addr)) : Prop := ∀ p ∈ ks, Rd H p.2 (.tup (p.1.map kV))
theorem dXo_at {P : Program} {w : World} {H : Hp} {h : Heap} {a : Addr} {kvs : List (List Key × V)} {ks : List (List Key × Addr)} (ok : HOk P w H h) (e : H a = some (dXo P w a kvs ks)) (t : KsAt H ks) :
    kvs.length ≤ sizeLine ∧ (a == sysModules) = false ∧ ∃ xs, KX kvs ks xs ∧ h.DictOfH (tupleKind (mixKind P w)) a xs := by
  obtain ⟨⟨l, n, xs, r, ⟨o, es, ep, g, x, d, e1⟩, nd⟩, _⟩ := ok a _ e
  refine ⟨l, n, xs, r, o, es, ep, g, x, d, e1, fun q hq => ?_, nd⟩
  have hk : (q.1, q.2.1) ∈ ks := by rw [← r.2]; exact List.mem_map.mpr ⟨q, hq, rfl⟩
  exact key_rd ok (t _ hk)
theorem paired_keys {F : (List Key × V) → (List Key × Addr × Value) → Prop} (hF : ∀ p q, F p q → p.1 = q.1) : ∀ {kvs : List (List Key × V)} {xs : List (List Key × Addr × Value)}, Paired F kvs xs → kvs.map (·.1) = xs.map (·.1) := by
  intro kvs xs r
  induction r with
  | nil => rfl
  | cons h t ih => rw [List.map_cons, List.map_cons, ih, hF _ _ h]
theorem kx_val {kvs : List (List Key × V)} {ks : List (List Key × Addr)} {xs : List (List Key × Addr × Value)} (r : KX kvs ks xs) (k : List Key) : RelO (valV kvs k) ((atKey xs k).map (·.2)) := by
  replace r := r.1
  induction r with
  | nil => exact True.intro
  | @cons p q ps qs h t ih =>
    by_cases c : p.1 = k
    · have c' : q.1 = k := h.1.symm.trans c
      rw [valV_pos c, show atKey (q :: qs) k = some q.2 by simp [atKey, List.find?_cons, c']]
      exact h.2
    · have c' : ¬ q.1 = k := fun z => c (h.1.trans z)
      rw [valV_neg c, show atKey (q :: qs) k = atKey qs k by simp [atKey, List.find?_cons, c']]
      exact ih
/-- the keys behind a storing -/
def ksPut (kvs : List (List Key × V)) (ks : List (List Key × Addr)) (k : List Key) (b : Addr) : List (List Key × Addr) := if (valV kvs k).isSome = true then ks else ks ++ [(k, b)]
theorem kx_put {kvs : List (List Key × V)} {ks : List (List Key × Addr)} {xs : List (List Key × Addr × Value)} (r : KX kvs ks xs) (k : List Key) (b : Addr) {y : V} {u : Value} (ry : RelV y u) : KX (putK kvs k y) (ksPut kvs ks k b) (storedH xs k b u) := by
  have e : (valV kvs k).isSome = (atKey xs k).isSome := by rw [(kx_val r k).isSome_eq, Option.isSome_map]
  obtain ⟨r, rk⟩ := r
  unfold putK storedH ksPut
  rw [valV_any, e]
  by_cases c : (atKey xs k).isSome = true
  · rw [if_pos c, if_pos c, if_pos c]
    refine ⟨?_, ?_⟩
    · clear rk e c
      induction r with
      | nil => exact .nil
      | @cons p q ps qs h t ih =>
        refine .cons ?_ ih
        show (if p.1 = k then (p.1, y) else p).1 = (putAt k u q).1 ∧ RelV (if p.1 = k then (p.1, y) else p).2 (putAt k u q).2.2
        unfold putAt
        by_cases d : p.1 = k
        · rw [if_pos d, if_pos (h.1.symm.trans d)]
          exact ⟨h.1, ry⟩
        · rw [if_neg d, if_neg (fun z => d (h.1.trans z))]
          exact h
    · rw [← rk, List.map_map]
      refine List.map_congr_left fun q _ => ?_
      show ((putAt k u q).1, (putAt k u q).2.1) = _
      unfold putAt
      split <;> rfl
  · rw [if_neg c, if_neg c, if_neg c]
    exact ⟨Paired.snoc r ⟨rfl, ry⟩, by rw [List.map_append, rk]; rfl⟩
def PutX (P : Program) (w : World) (D : Addr) (N : Hp → Prop) (y z : V) (G : Hp) : Prop := ∃ kvs ks k b, y = .ref b ∧ Rd G b (.tup (k.map kV)) ∧ G D = some (dXo P w D kvs ks) ∧ KsAt G ks ∧ kvs.length < sizeLine ∧ N (upd G D (dXo P w D (putK kvs k z) (ksPut kvs ks k b)))
theorem stores_X (hu : X.A.units + 1 < cLine) : Stores X (PutX X.prog X.w) := by
  rintro B pins σ G t D N y z u r Q E e1 e2 e3 e4 I ⟨kvs, ks, k, kb, rfl, tup, dict, kat, room, nx⟩ ry rz h
  cases (show u = Value.ref kb from ry)
  rw [← e1, ← e2] at dict nx
  obtain ⟨l, n, xs, rel, dd⟩ := dXo_at I.hok dict kat
  have lx : xs.length = kvs.length := (Paired.length rel.1).symm
  refine wpAny_dictSet_heap (hsz := by omega) (show (tupleKind (mixKind B.prog B.w)).room B.A from by rw [e3]; exact Nat.lt_of_succ_lt hu) (key_rd I.hok tup) dd fun h' dd' same => h _ _ ?_ nx
  obtain ⟨o, es, ep, g, x, d, e5, _, nd⟩ := dd'
  exact d_write I (by rw [dict]; exact True.intro) same ⟨o, g⟩ (dXo_ok (Nat.le_trans (length_putK kvs k z) room) n (kx_put rel k kb rz) g x d e5 nd)
theorem dXo_empty {P : Program} {w : World} (H : Hp) (h : Heap) (b : sysModules < h.objs.size) : ObjOk P w H (h.push { cls := .type "dict", data := .dict #[] }) h.objs.size (dXo P w h.objs.size [] []) :=
  dXo_ok (xs := []) (Nat.zero_le _) (beq_eq_false_iff_ne.mpr (Ne.symm (Nat.ne_of_lt b))) ⟨.nil, rfl⟩ (Heap.get?_push_size _ rfl) ⟨rfl, rfl, rfl⟩ rfl rfl List.nodup_nil
abbrev tDcX (P : Program) (w : World) (walk : TI) (g : TG) (tt : TT) (tk tv : TE) (own : List Nat) : TE := tDcG (fun D => dXo P w D [] []) (PutX P w) walk g tt tk tv own
theorem pe_dcX {P : Program} {w : World} (hP : X.prog = P) (hw : X.w = w) {kx vx tgt it : Expr} {ifs : List Expr} {sc : Scope} {own : List (Str × Nat)} {pos : Pos} {walk : TI} {g : TG} {tt : TT} {tk tv : TE} (hu : X.A.units + 1 < cLine) (calm : X.calm = true) (nod : X.N.Nodup)
    (pi : PI X tgt it walk) (bo : BlkOk X.N X.env.scope sc own) (pg : InBlk X sc fun B => PG B tgt g) (pt : InBlk X sc fun B => PTs B ifs tt) (pk : InBlk X sc fun B => PE B kx tk) (pv : InBlk X sc fun B => PE B vx tv)
    (plain : ∀ x, foldedSetIterable it X.env x = pure x := by intro _; rfl) : PE X (.DictComp kx vx [⟨tgt, it, ifs, 0⟩] sc pos) (tDcX P w walk g tt tk tv (own.map (·.2))) := by
  subst hP hw
  exact pe_dcG (fun H h b => dXo_empty H h b) (stores_X hu) calm nod pi bo pg pt pk pv plain
/-- d[k] of such a dict -/
def tXGet (P : Program) (w : World) (td ty : TE) : TE := fun σ H Q => td σ H fun x H1 => ty σ H1 fun y H2 => ∃ a kvs ks k b v, x = .ref a ∧ y = .ref b ∧ H2 a = some (dXo P w a kvs ks) ∧ KsAt H2 ks ∧ Rd H2 b (.tup (k.map kV)) ∧ valV kvs k = some v ∧ Q v H2
theorem pe_xget {P : Program} {w : World} (hP : X.prog = P) (hw : X.w = w) (hu : X.A.units + 1 < cLine) {o i : Expr} {td ty : TE} {pos : Pos} (ho : PE X o td) (hi : PE X i ty) (hs : NoSl i) : PE X (.Subscript o i pos) (tXGet P w td ty) := by
  subst hP hw
  refine ⟨fun pins s σ H Q I h => ?_⟩
  refine subD_of PySem.F.slot_dict_getitem.lookup hs (thn (ho.run pins s σ H _ I h) fun ov s1 ⟨x, H1, I1, rx, q1⟩ => thn (hi.run pins s1 σ H1 _ I1 q1) ?_)
  rintro iv s2 ⟨y, H2, I2, ry, a, kvs, ks, k, b, v, rfl, rfl, dict, kat, tup, has, q2⟩
  obtain rfl : ov = Value.ref a := rx
  cases (show iv = Value.ref b from ry)
  obtain ⟨l, n, xs, rel, dd⟩ := dXo_at I2.hok dict kat
  have rv := kx_val rel k
  rw [has] at rv
  obtain ⟨u, hp, ru⟩ := RelO.some_of rv
  obtain ⟨p, hp', rfl⟩ := Option.map_eq_some_iff.mp hp
  refine ⟨?_, wpAny_getItem_heap (tupleKind_room_in1 hu) (key_rd I2.hok tup) dd hp' ?_⟩
  · obtain ⟨o', es, ep, g, x, _⟩ := dd
    exact ⟨o', g, x.1⟩
  · exact ⟨v, H2, I2.tok _, ru, q2⟩
/-- deep membership, in lists and in tuples -/
def rInDT (K : PySem.W.Frag) : R2 := fun x y H Q => ∃ d ds, Dp K H x d ∧ Dp K H y (.tuple ds) ∧ SeqAt.shaped d = true ∧ SeqAt.shaped (.tuple ds) = true ∧ Q (.bl (ds.any fun z => PyData.eqv z d)) H
def rNotInDT (K : PySem.W.Frag) : R2 := fun x y H Q => ∃ d ds, Dp K H x d ∧ Dp K H y (.tuple ds) ∧ SeqAt.shaped d = true ∧ SeqAt.shaped (.tuple ds) = true ∧ Q (.bl (!ds.any fun z => PyData.eqv z d)) H
theorem op_inDT {K : PySem.W.Frag} (hK : X.K = K) (hu : X.A.units + 65 < cLine) : OpR X (compareOp .In) (rInDT K) := by
  subst hK
  intro pins s σ H x y v u Q I rx ry h
  obtain ⟨d, ds, hd, he, sd, se, q⟩ := h
  obtain ⟨as, r1⟩ := Dp.reads I d x v hd rx
  obtain ⟨bs, r2⟩ := Dp.reads I (.tuple ds) y u he ry
  exact SeqAt.in_tuple_reads r2 r1 (SeqAt.canLay_of_shaped se) (SeqAt.canLay_of_shaped sd) (room_in_shaped sd hu) ⟨.bl _, H, I, rfl, q⟩
theorem op_notInDT {K : PySem.W.Frag} (hK : X.K = K) (hu : X.A.units + 65 < cLine) : OpR X (compareOp .NotIn) (rNotInDT K) := by
  subst hK
  intro pins s σ H x y v u Q I rx ry h
  obtain ⟨d, ds, hd, he, sd, se, q⟩ := h
  obtain ⟨as, r1⟩ := Dp.reads I d x v hd rx
  obtain ⟨bs, r2⟩ := Dp.reads I (.tuple ds) y u he ry
  exact SeqAt.notIn_tuple_reads r2 r1 (SeqAt.canLay_of_shaped se) (SeqAt.canLay_of_shaped sd) (room_in_shaped sd hu) ⟨.bl _, H, I, rfl, q⟩
theorem op_inDK {K : PySem.W.Frag} (hK : X.K = K) (hu : X.A.units + 65 < cLine) : OpR X (compareOp .In) (rInD K) := by subst hK; exact op_inD hu
theorem op_notInDK {K : PySem.W.Frag} (hK : X.K = K) (hu : X.A.units + 65 < cLine) : OpR X (compareOp .NotIn) (rNotInD K) := by subst hK; exact op_notInD hu
/-- t.index(n), the first place, of a tuple of ints -/
def rTIdx (K : PySem.W.Frag) : V → List V → Hp → VK → Prop := fun x xs H Q => ∃ p, ∃ ys : List Int, ∃ z j, x = .ref p ∧ xs = [.int z] ∧ SqT K H p (ys.map V.int) ∧ ys[j]? = some z ∧ (∀ m, m < j → ys[m]? ≠ some z) ∧ Q (.int (j : Nat)) H
theorem flat_ints (ys : List Int) : (ys.map V.int).all flatV = true := by induction ys <;> simp_all [flatV]
theorem mt_tup_indexI {K : PySem.W.Frag} (hK : X.K = K) : MtR X "tuple.index" (rTIdx K) := by
  subst hK
  rintro pins s σ H _ _ v us Q I rx rs ⟨p, ys, z, j, rfl, rfl, reads, found, first, q⟩
  cases rx
  obtain ⟨_, rfl, tk, rfl⟩ := vals1 rs
  obtain ⟨its, vals, ⟨⟨_, dd, _, sl⟩, stands, rfl, n, rfl⟩, _⟩ := I.tuple reads
  have size : its.length = ys.length := by simpa using vals.length.symm
  have item : ∀ m : Nat, m < ys.length → ∃ t', its[m]? = some (Value.int (ys.getD m 0) t') := by
    intro m hm
    obtain ⟨w, hw, t', rfl⟩ := vals.get (i := m) (x := V.int (ys.getD m 0)) (by simp [hm])
    exact ⟨t', hw⟩
  have eqs : ∀ (m : Nat) (hm : m < its.toArray.size), eqU (V.int z) its.toArray[m] = decide (ys.getD m 0 = z) := by
    intro m hm
    obtain ⟨t', e⟩ := item m (by simpa [size] using hm)
    have e' : its.toArray[m] = Value.int (ys.getD m 0) t' := by
      have := (List.getElem?_eq_some_iff.mp e).2
      simpa using this
    rw [e']
    rfl
  have inside := (List.getElem?_eq_some_iff.mp found).1
  have jz : ys.getD j 0 = z := by rw [List.getD_eq_getElem?_getD, found]; rfl
  have answer := TI.tuple_indexAt p its.toArray n dd sl (.int z tk) (eqU (.int z)) j (by simpa [size] using inside) (by rw [eqs, jz]; exact decide_eq_true rfl) (fun m hm lt => by
    rw [eqs]
    refine decide_eq_false fun e => first m lt ?_
    have inm : m < ys.length := by simpa [size] using hm
    rw [List.getElem?_eq_getElem inm, ← e, List.getD_eq_getElem?_getD, List.getElem?_eq_getElem inm]
    rfl)
  exact call_meets PySem.F.slot_tuple_index ⟨_, stands, rfl⟩ PySem.F.entry_tuple_index (PySem.F.args_tuple_index_2 _ _) answer
    ⟨stands, fun w hw => mem_eqAt (x := .int z) ⟨tk, rfl⟩ rfl vals (flat_ints ys) w (by simpa using hw), ⟨.int (j : Nat), H, I.tok _, ⟨_, rfl⟩, q⟩⟩
end
/-! ### loops over enumerate and zip, whatever their bodies -/
theorem enumL_loop {K : PySem.W.Frag} {a : Addr} {xs : List V} {Qd : Hp → Prop} {H0 : Hp} {B : V → Hp → (Hp → Prop) → Prop} (Pv : Nat → Hp → Prop) (h0 : Pv 0 H0) (hl : ∀ i H, i ≤ xs.length → Pv i H → SqL K H a xs) (hs : ∀ i x T H, xs[i]? = some x → H T = none → Pv i H → B (.ref T) (upd H T (.tup [.int (i : Nat), x])) (Pv (i + 1))) (hd : ∀ H, Pv xs.length H → Qd H) :
    ∃ W : Nat → Nat → Hp → Prop, (∃ m, W 0 m H0) ∧ ∀ i m H, W i m H → ((Ite K a).stop i H ∧ Qd H) ∨ ((Ite K a).go i H ∧ ∃ Nx : Hp → Prop, (∀ H', Nx H' → ∃ m', m' < m ∧ W (i + 1) m' H') ∧ ∀ x H', (Ite K a).yld i H x H' → B x H' Nx) := by
  refine ⟨fun i m H => m = xs.length - i ∧ i ≤ xs.length ∧ Pv i H, ⟨_, rfl, Nat.zero_le _, h0⟩, ?_⟩
  rintro i m H ⟨rfl, hi, p⟩
  have q := hl i H hi p
  by_cases hlt : i < xs.length
  · refine .inr ⟨⟨xs, xs[i], q, by simp [hlt]⟩, Pv (i + 1), fun H' p' => ⟨xs.length - (i + 1), by omega, rfl, hlt, p'⟩, fun x H' y => ?_⟩
    obtain ⟨T, z, rfl, hT, rfl, hz⟩ := y
    exact hs i z T _ (hz xs q) hT p
  · have e : i = xs.length := by omega
    subst e
    exact .inl ⟨⟨xs, q, Nat.le_refl _⟩, hd H p⟩
theorem enumT_loop {K : PySem.W.Frag} {a : Addr} {xs : List V} {Qd : Hp → Prop} {H0 : Hp} {B : V → Hp → (Hp → Prop) → Prop} (Pv : Nat → Hp → Prop) (h0 : Pv 0 H0) (hl : ∀ i H, i ≤ xs.length → Pv i H → SqT K H a xs) (hs : ∀ i x T H, xs[i]? = some x → H T = none → Pv i H → B (.ref T) (upd H T (.tup [.int (i : Nat), x])) (Pv (i + 1))) (hd : ∀ H, Pv xs.length H → Qd H) :
    ∃ W : Nat → Nat → Hp → Prop, (∃ m, W 0 m H0) ∧ ∀ i m H, W i m H → ((Itet K a).stop i H ∧ Qd H) ∨ ((Itet K a).go i H ∧ ∃ Nx : Hp → Prop, (∀ H', Nx H' → ∃ m', m' < m ∧ W (i + 1) m' H') ∧ ∀ x H', (Itet K a).yld i H x H' → B x H' Nx) := by
  refine ⟨fun i m H => m = xs.length - i ∧ i ≤ xs.length ∧ Pv i H, ⟨_, rfl, Nat.zero_le _, h0⟩, ?_⟩
  rintro i m H ⟨rfl, hi, p⟩
  have q := hl i H hi p
  by_cases hlt : i < xs.length
  · refine .inr ⟨⟨xs, xs[i], q, by simp [hlt]⟩, Pv (i + 1), fun H' p' => ⟨xs.length - (i + 1), by omega, rfl, hlt, p'⟩, fun x H' y => ?_⟩
    obtain ⟨T, z, rfl, hT, rfl, hz⟩ := y
    exact hs i z T _ (hz xs q) hT p
  · have e : i = xs.length := by omega
    subst e
    exact .inl ⟨⟨xs, q, rfl⟩, hd H p⟩
end D
namespace D
open PySem PySem.Spec PyProof.Rows L2
section
variable {X : Cx}
/-- tuple(list): the new object is known to have no dict -/
def rTupF (K : PySem.W.Frag) : List V → Hp → VK → Prop := fun xs H Q => ∃ p ys, xs = [.ref p] ∧ SqL K H p ys ∧ ∀ l o, H l = none → o.cls = .type "tuple" → o.dict = none → Q (.ref l) (upd H l (.frz o (.tup ys)))
theorem call_tupleF {K : PySem.W.Frag} (hK : X.K = K) : CallR X (.type "tuple") (rTupF K) := by
  subst hK
  intro pins s σ H xs us Q I r h
  obtain ⟨p, ys, rfl, hq, q⟩ := h
  obtain ⟨u, rfl, rx⟩ := vals1 r
  cases rx
  obtain ⟨its, r', pl, hz⟩ := I.list hq
  have hlen := r'.length
  refine call_tuple_list pl.isList (fun h' kp => ?_) (by simp only [List.size_toArray] <;> omega)
  have I1 : Inv X pins σ H { s with heap := h' } := I.kept (t' := s.toks) kp
  have I2 : Inv X pins σ (upd H h'.objs.size (.frz { cls := .type "tuple", data := .seq its.toArray } (.tup ys))) { s with heap := h'.push { cls := .type "tuple", data := .seq its.toArray } } :=
    I1.laid (t' := s.toks) (fun b o e => Heap.get?_push_of_some _ e) (Nat.le_refl _) (show ObjOk X.prog X.w _ _ _ (.frz _ (.tup ys)) from ⟨Heap.get?_push_size _ rfl, hz, its, r', IsTup.new _ _⟩)
  exact ⟨.ref h'.objs.size, _, I2, rfl, q _ _ (I1.hok.fresh (Nat.le_refl _)) rfl rfl⟩
/-- t[lo:hi], the cut known to its object -/
def rSlF (K : PySem.W.Frag) : V → Option Int → Option Int → Hp → VK → Prop := fun x lo hi H Q => ∃ a xs, x = .ref a ∧ SqT K H a xs ∧
  (HT.sIx xs.length 0 lo = 0 ∧ HT.sIx xs.length xs.length hi = xs.length → Q (.ref a) H) ∧ (¬ (HT.sIx xs.length 0 lo = 0 ∧ HT.sIx xs.length xs.length hi = xs.length) → ∀ p o, H p = none → o.cls = .type "tuple" → o.dict = none → Q (.ref p) (upd H p (.frz o (.tup (cutV xs lo hi)))))
theorem sl_tupF {K : PySem.W.Frag} (hK : X.K = K) : SlR X (rSlF K) := by
  subst hK
  rintro pins s σ H _ v vl vu lo hi sl Q I rx hs pl pu ⟨a, xs, rfl, reads, all, part⟩
  by_cases whole : HT.sIx xs.length 0 lo = 0 ∧ HT.sIx xs.length xs.length hi = xs.length
  · exact sl_tupA pins s σ H _ v vl vu lo hi sl Q I rx hs pl pu ⟨a, xs, rfl, reads, all, fun z => absurd whole z⟩
  · cases rx
    obtain ⟨its, vals, stands, small⟩ := I.tuple reads
    have size : its.toArray.size = xs.length := by rw [List.size_toArray]; exact vals.length.symm
    refine ⟨"tuple", _, PyProof.Rows.slot_tuple_getitem.lookup, stands.typeIs, HT.getItem_tuple_cut stands hs pl pu (by rw [size]; exact whole) ?_ (by rw [size]; exact small)⟩
    rw [size]
    have cut := (vals.drop (HT.sIx xs.length 0 lo)).take (HT.sIx xs.length xs.length hi - HT.sIx xs.length 0 lo)
    let ob : Obj := { cls := .type "tuple", data := .seq ((its.drop (HT.sIx xs.length 0 lo)).take (HT.sIx xs.length xs.length hi - HT.sIx xs.length 0 lo)).toArray }
    have good : ObjOk X.prog X.w (upd H s.heap.objs.size (.frz ob (.tup (cutV xs lo hi)))) (s.heap.push ob) s.heap.objs.size (.frz ob (.tup (cutV xs lo hi))) := ⟨Heap.get?_push_size _ rfl, Nat.le_trans (cutV_length xs lo hi) small, _, cut, IsTup.new _ _⟩
    exact ⟨.ref s.heap.objs.size, _, I.laid (t' := s.toks) (fun b ob e => Heap.get?_push_of_some _ e) (Nat.le_refl _) good, rfl, part whole _ ob (I.hok.fresh (Nat.le_refl _)) rfl rfl⟩
def tyTup (x : V) (H : Hp) : Prop := ∃ a o u, x = .ref a ∧ H a = some (.frz o u) ∧ o.cls = .type "tuple" ∧ o.dict = none
theorem ty_tup : TyOk X "tuple" tyTup := by
  intro pins σ H s x v I r h
  obtain ⟨a, o, u, rfl, e, hc, hd⟩ := h
  cases r
  obtain ⟨e2, _⟩ := I.hok a _ e
  refine ⟨⟨o, e2, hc⟩, fun b eb => ?_⟩
  cases eb
  exact ⟨o, e2, hd⟩
end
/-- rows -/
def RowAt (M : Ms) (H : Hp) (v : V) (ns : List Int) : Prop := ∃ a, v = .ref a ∧ ¬ M a ∧ Rd H a (.tup (ns.map V.int))
def RowF (M : Ms) (H : Hp) (v : V) (ns : List Int) : Prop := ∃ a o, v = .ref a ∧ ¬ M a ∧ H a = some (.frz o (.tup (ns.map V.int))) ∧ o.cls = .type "tuple" ∧ o.dict = none
theorem RowF.row {M : Ms} {H : Hp} {v : V} {ns : List Int} (h : RowF M H v ns) : RowAt M H v ns := by
  obtain ⟨a, o, e, n, ha, _⟩ := h
  exact ⟨a, e, n, .inr ⟨o, ha⟩⟩
theorem RowAt.sx {M : Ms} {H H' : Hp} {v : V} {ns : List Int} (h : RowAt M H v ns) (s : Sx M H H') : RowAt M H' v ns := by
  obtain ⟨a, e, n, ha⟩ := h
  exact ⟨a, e, n, sx_rd s n ha⟩
theorem RowF.sx {M : Ms} {H H' : Hp} {v : V} {ns : List Int} (h : RowF M H v ns) (s : Sx M H H') : RowF M H' v ns := by
  obtain ⟨a, o, e, n, ha, r⟩ := h
  exact ⟨a, o, e, n, s _ _ n ha, r⟩
theorem RowAt.less {M N : Ms} {H : Hp} {v : V} {ns : List Int} (h : RowAt M H v ns) (f : ∀ a, N a → M a) : RowAt N H v ns := by
  obtain ⟨a, e, n, ha⟩ := h
  exact ⟨a, e, fun z => n (f a z), ha⟩
theorem RowF.less {M N : Ms} {H : Hp} {v : V} {ns : List Int} (h : RowF M H v ns) (f : ∀ a, N a → M a) : RowF N H v ns := by
  obtain ⟨a, o, e, n, ha⟩ := h
  exact ⟨a, o, e, fun z => n (f a z), ha⟩
theorem RowF.fresh {M : Ms} {H : Hp} {v : V} {ns : List Int} {p : Addr} (hp : H p = none) (h : RowF M H v ns) : RowF (also M p) H v ns := by
  obtain ⟨a, o, e, n, ha, r⟩ := h
  refine ⟨a, o, e, fun z => ?_, ha, r⟩
  rcases z with z | z
  · exact n z
  · rw [show a = p from z, hp] at ha
    cases ha
end D

namespace D
open PySem PySem.Spec PyProof.Rows L2
theorem hu65 {A : Around} {k : Nat} (hr : Room k A) : A.units + 65 < cLine := by have := hr.un; omega
/-! ### idents and matches -/
abbrev IP := Int × Int
def idp (ws : List Int) : List IP := ws.mapIdx fun i w => (w, (((ws.take i).count w : Nat) : Int))
theorem idp_len (ws : List Int) : (idp ws).length = ws.length := List.length_mapIdx
theorem idp_at {ws : List Int} {i : Nat} {w : Int} (h : ws[i]? = some w) : (idp ws)[i]? = some (w, (((ws.take i).count w : Nat) : Int)) := by
  unfold idp
  rw [List.getElem?_mapIdx, h]
  rfl
theorem nodup_get {α : Type} {l : List α} : l.Nodup ↔ ∀ i j : Nat, i < j → j < l.length → l[i]? ≠ l[j]? := by
  unfold List.Nodup
  rw [List.pairwise_iff_getElem]
  constructor
  · intro h i j hij hj e
    rw [List.getElem?_eq_getElem (Nat.lt_trans hij hj), List.getElem?_eq_getElem hj] at e
    exact h i j (Nat.lt_trans hij hj) hj hij (Option.some.inj e)
  · intro h i j hi hj hij e
    exact h i j hij hj (by rw [List.getElem?_eq_getElem hi, List.getElem?_eq_getElem hj, e])
theorem idp_nodup (ws : List Int) : (idp ws).Nodup := by
  rw [nodup_get]
  intro i j hij hj
  have hj' : j < ws.length := by rw [idp_len] at hj; exact hj
  have hi' : i < ws.length := Nat.lt_trans hij hj'
  have ei : ws[i]? = some ws[i] := List.getElem?_eq_getElem hi'
  have ej : ws[j]? = some ws[j] := List.getElem?_eq_getElem hj'
  rw [idp_at ei, idp_at ej]
  intro e
  have e' := Option.some.inj e
  have e1 : ws[i] = ws[j] := congrArg Prod.fst e'
  have e2 : (((ws.take i).count ws[i] : Nat) : Int) = ((ws.take j).count ws[j] : Nat) := congrArg Prod.snd e'
  have e3 : (ws.take i).count ws[i] = (ws.take j).count ws[j] := Int.ofNat.inj e2
  rw [← e1] at e3
  have s1 : List.Sublist ((ws.take (i + 1))) (ws.take j) := by
    have : ws.take (i + 1) = (ws.take j).take (i + 1) := by rw [List.take_take]; congr 1; omega
    rw [this]
    exact List.take_sublist _ _
  have c1 := s1.count_le ws[i]
  rw [List.take_add_one, ei, List.count_append] at c1
  have : List.count ws[i] (some ws[i]).toList = 1 := by simp
  omega
def pos (B : List IP) (x : IP) : Option Nat := if x ∈ B then some (B.idxOf x) else none
theorem pos_snoc {B : List IP} {b : IP} (hb : b ∉ B) (x : IP) : pos (B ++ [b]) x = if x = b then some B.length else pos B x := by
  unfold pos
  by_cases e : x = b
  · subst e
    rw [if_pos rfl, if_pos (by simp), List.idxOf_append, if_neg hb]
    simp
  · rw [if_neg e]
    by_cases m : x ∈ B
    · rw [if_pos m, if_pos (by simp [m]), List.idxOf_append, if_pos m]
    · rw [if_neg m, if_neg (by simp [m, e])]
theorem pos_take {B : List IP} (hB : B.Nodup) {i : Nat} {b : IP} (h : B[i]? = some b) (x : IP) : pos (B.take (i + 1)) x = if x = b then some i else pos (B.take i) x := by
  have hi : i < B.length := (List.getElem?_eq_some_iff.mp h).1
  have hb : b ∉ B.take i := by
    intro hm
    obtain ⟨j, hj⟩ := List.mem_iff_getElem?.mp hm
    have hji : j < i := by
      have := (List.getElem?_eq_some_iff.mp hj).1
      rw [List.length_take] at this
      omega
    rw [List.getElem?_take_of_lt hji] at hj
    exact (nodup_get.mp hB) j i hji hi (hj.trans h.symm)
  have e : B.take (i + 1) = B.take i ++ [b] := by rw [List.take_add_one, h]; rfl
  have := pos_snoc hb x
  rw [← e, List.length_take, Nat.min_eq_left (Nat.le_of_lt hi)] at this
  exact this
theorem pos_lt {B : List IP} {x : IP} {i : Nat} (h : pos B x = some i) : i < B.length ∧ B[i]? = some x := by
  unfold pos at h
  split at h
  · rename_i m
    cases h
    have hl := List.idxOf_lt_length_of_mem m
    exact ⟨hl, by rw [List.getElem?_eq_getElem hl, List.getElem_idxOf hl]⟩
  · cases h
/-- the key of an ident in a dict -/
def kk (x : IP) : List Key := [.inl x.1, .inl x.2]
theorem kk_inj {x y : IP} (h : kk x = kk y) : x = y := by
  have h' : [(Sum.inl x.1 : Key), .inl x.2] = [.inl y.1, .inl y.2] := h
  injection h' with h1 h2
  injection h2 with h2 _
  exact Prod.ext (Sum.inl.inj h1) (Sum.inl.inj h2)
/-- what a dict tells of idents -/
def Tells (kvs : List (List Key × V)) (B : List IP) : Prop := ∀ x, valV kvs (kk x) = (pos B x).map fun (i : Nat) => V.int (i : Int)
theorem tells_nil : Tells [] [] := fun x => by
  unfold pos
  rw [if_neg (by simp)]
  rfl
theorem tells_put {kvs : List (List Key × V)} {B : List IP} (hB : B.Nodup) {i : Nat} {b : IP} (h : B[i]? = some b) (t : Tells kvs (B.take i)) : Tells (putK kvs (kk b) (.int (i : Nat))) (B.take (i + 1)) := fun x => by
  rw [valV_put, pos_take hB h]
  by_cases e : x = b
  · subst e
    rw [if_pos rfl, if_pos rfl]
    rfl
  · rw [if_neg (fun z => e (kk_inj z)), if_neg e]
    exact t x
def mst (B : List IP) (x : IP) (j : Nat) : List IP := match pos B x with
  | some i => [((i : Int), (j : Int))]
  | none => []
def mt (B N : List IP) : List IP := (N.mapIdx fun j x => mst B x j).flatten
theorem mt_step (B : List IP) {N : List IP} {j : Nat} {x : IP} (h : N[j]? = some x) : mt B (N.take (j + 1)) = mt B (N.take j) ++ mst B x j := by
  have hj : j < N.length := (List.getElem?_eq_some_iff.mp h).1
  unfold mt
  rw [List.take_add_one, h]
  show (List.mapIdx _ (List.take j N ++ [x])).flatten = _
  rw [List.mapIdx_append, List.flatten_append]
  congr 1
  rw [List.length_take, Nat.min_eq_left (Nat.le_of_lt hj)]
  show [mst B x (0 + j)].flatten = _
  rw [Nat.zero_add]
  simp
theorem mst_take {B : List IP} (hB : B.Nodup) {i : Nat} {b : IP} (h : B[i]? = some b) (x : IP) (j : Nat) : mst (B.take (i + 1)) x j = mst (B.take i) x j ++ if b = x then [((i : Int), (j : Int))] else [] := by
  have hn : b = x → pos (B.take i) x = none := fun e => by
    subst e
    unfold pos
    rw [if_neg]
    intro hm
    obtain ⟨k, hk⟩ := List.mem_iff_getElem?.mp hm
    have hji : k < i := by
      have := (List.getElem?_eq_some_iff.mp hk).1
      rw [List.length_take] at this
      omega
    rw [List.getElem?_take_of_lt hji] at hk
    exact (nodup_get.mp hB) k i hji (List.getElem?_eq_some_iff.mp h).1 (hk.trans h.symm)
  unfold mst
  rw [pos_take hB h]
  by_cases e : x = b
  · rw [if_pos e, hn e.symm, if_pos e.symm]
    rfl
  · rw [if_neg e, if_neg (fun z => e z.symm), List.append_nil]
theorem mst_nil (x : IP) (j : Nat) : mst [] x j = [] := by
  unfold mst pos
  rw [if_neg (by simp)]
theorem mst_mem {B : List IP} {x : IP} {j : Nat} {p : IP} (h : p ∈ mst B x j) : ∃ i, i < B.length ∧ p = ((i : Int), (j : Int)) := by
  unfold mst at h
  split at h
  · rename_i i e
    exact ⟨i, (pos_lt e).1, List.mem_singleton.mp h⟩
  · exact nomatch h
theorem mt_mem {B N : List IP} {p : IP} (h : p ∈ mt B N) : ∃ i j : Nat, i < B.length ∧ j < N.length ∧ p = ((i : Int), (j : Int)) := by
  unfold mt at h
  obtain ⟨l, hl, hp⟩ := List.mem_flatten.mp h
  obtain ⟨j, hj, rfl⟩ := List.mem_mapIdx.mp hl
  obtain ⟨i, hi, e⟩ := mst_mem hp
  exact ⟨i, j, hi, hj, e⟩
theorem mst_len (B : List IP) (x : IP) (j : Nat) : (mst B x j).length ≤ 1 := by
  unfold mst
  split <;> simp
theorem mt_len (B N : List IP) : (mt B N).length ≤ N.length := by
  suffices h : ∀ n, n ≤ N.length → (mt B (N.take n)).length ≤ n by
    have := h N.length (Nat.le_refl _)
    rw [List.take_length] at this
    exact this
  intro n
  induction n with
  | zero => intro _; simp [mt]
  | succ n ih =>
    intro h
    rw [mt_step B (List.getElem?_eq_getElem (by omega : n < N.length)), List.length_append]
    have := ih (by omega)
    have := mst_len B N[n] n
    omega
/-- slips -/
def atI0 (l : List Int) (i : Int) : Int := l.getD i.toNat 0
theorem atI0_nat {l : List Int} {i : Nat} {x : Int} (h : l[i]? = some x) : atI0 l (i : Int) = x := by
  unfold atI0
  rw [Int.toNat_natCast, List.getD_eq_getElem?_getD, h]
  rfl
def sst (o n : List Int) (p : IP) : List IP := if atI0 o p.1 = atI0 n p.2 then [] else [(atI0 o p.1, atI0 n p.2)]
def slp (o n : List Int) (ms : List IP) : List IP := (ms.map (sst o n)).flatten
theorem slp_step (o n : List Int) {ms : List IP} {j : Nat} {p : IP} (h : ms[j]? = some p) : slp o n (ms.take (j + 1)) = slp o n (ms.take j) ++ sst o n p := by
  unfold slp
  rw [List.take_add_one, h, List.map_append, List.flatten_append]
  simp
theorem slp_len (o n : List Int) : ∀ ms : List IP, (slp o n ms).length ≤ ms.length
  | [] => Nat.le_refl _
  | p :: r => by
    have h1 := slp_len o n r
    have h2 : (sst o n p).length ≤ 1 := by unfold sst; split <;> simp
    show ((sst o n p) ++ slp o n r).length ≤ r.length + 1
    rw [List.length_append]
    omega
/-- lost items -/
def lst1 (o : List Int) (ms : List IP) (x : Int) (j : Nat) : List Int := if x ∈ o ∧ (((o.idxOf x : Nat) : Int), (j : Int)) ∉ ms then [x] else []
def lsts (o n : List Int) (ms : List IP) : List Int := (n.mapIdx fun j x => lst1 o ms x j).flatten
theorem lsts_step (o : List Int) (ms : List IP) {n : List Int} {j : Nat} {x : Int} (h : n[j]? = some x) : lsts o (n.take (j + 1)) ms = lsts o (n.take j) ms ++ lst1 o ms x j := by
  have hj : j < n.length := (List.getElem?_eq_some_iff.mp h).1
  unfold lsts
  rw [List.take_add_one, h]
  show (List.mapIdx _ (List.take j n ++ [x])).flatten = _
  rw [List.mapIdx_append, List.flatten_append]
  congr 1
  rw [List.length_take, Nat.min_eq_left (Nat.le_of_lt hj)]
  show [lst1 o ms x (0 + j)].flatten = _
  rw [Nat.zero_add]
  simp
theorem lsts_len (o n : List Int) (ms : List IP) : (lsts o n ms).length ≤ n.length := by
  suffices h : ∀ k, k ≤ n.length → (lsts o (n.take k) ms).length ≤ k by
    have := h n.length (Nat.le_refl _)
    rw [List.take_length] at this
    exact this
  intro k
  induction k with
  | zero => intro _; simp [lsts]
  | succ k ih =>
    intro h
    rw [lsts_step o ms (List.getElem?_eq_getElem (by omega : k < n.length)), List.length_append]
    have := ih (by omega)
    have : (lst1 o ms n[k] k).length ≤ 1 := by unfold lst1; split <;> simp
    omega
/-- deep facts of pairs -/
theorem pD_lay (p : IP) : (pD p).canLay0 = true := by simp [pD, PyData.canLay0, PyData.canLayAll0]
theorem pD_depth (p : IP) : (pD p).depth = 1 := by simp [pD, PyData.depth, PyData.depthAll]
theorem pDs_lay : ∀ ps : List IP, PyData.canLayAll0 (ps.map pD) = true
  | [] => rfl
  | p :: r => by simp [PyData.canLayAll0, pD_lay p, pDs_lay r]
theorem pDs_depth : ∀ ps : List IP, PyData.depthAll (ps.map pD) ≤ 1
  | [] => Nat.zero_le _
  | p :: r => by
    have := pDs_depth r
    simp only [List.map_cons, PyData.depthAll, pD_depth p]
    omega
theorem pD_shaped (p : IP) : SeqAt.shaped (pD p) = true := by
  refine Bool.and_eq_true_iff.mpr ⟨pD_lay p, decide_eq_true ?_⟩
  rw [pD_depth]
  decide
theorem pDs_shapedL (ps : List IP) : SeqAt.shaped (.list (ps.map pD)) = true := by
  refine Bool.and_eq_true_iff.mpr ⟨by simp [PyData.canLay0, pDs_lay ps], decide_eq_true ?_⟩
  have := pDs_depth ps
  simp only [PyData.depth]
  omega
theorem pDs_shapedT (ps : List IP) : SeqAt.shaped (.tuple (ps.map pD)) = true := by
  refine Bool.and_eq_true_iff.mpr ⟨by simp [PyData.canLay0, pDs_lay ps], decide_eq_true ?_⟩
  have := pDs_depth ps
  simp only [PyData.depth]
  omega
theorem pD_eqv (p q : IP) : PyData.eqv (pD p) (pD q) = decide (p = q) := by
  simp only [pD, PyData.eqv, PyData.eqvAll, Bool.and_true]
  rw [Bool.eq_iff_iff]
  simp only [Bool.and_eq_true, decide_eq_true_iff, beq_iff_eq, Prod.ext_iff]
theorem pD_any (ps : List IP) (p : IP) : ((ps.map pD).any fun z => PyData.eqv z (pD p)) = decide (p ∈ ps) := by
  rw [List.any_map, Bool.eq_iff_iff, List.any_eq_true, decide_eq_true_iff]
  constructor
  · rintro ⟨x, hx, e⟩
    have e' : PyData.eqv (pD x) (pD p) = true := e
    rw [pD_eqv, decide_eq_true_iff] at e'
    rw [← e']
    exact hx
  · intro h
    exact ⟨p, h, by show PyData.eqv (pD p) (pD p) = true; rw [pD_eqv]; exact decide_eq_true rfl⟩
end D
namespace D
open PySem PySem.Spec PyProof.Rows L2
/-! ### a list of data that grows beside -/
def Acc (M : Ms) (H : Hp) (D : Addr) (H' : Hp) (ys : List PyData) : Prop := H D = none ∧ Same H H' ∧ ∃ acc, H' D = some (.lst acc) ∧ RpAll (also M D) H' acc ys
theorem Acc.new {M : Ms} {H : Hp} {D : Addr} (hD : H D = none) : Acc M H D (upd H D (.lst [])) [] := ⟨hD, same_new hD, [], upd_same, .nil⟩
theorem Acc.keep {M : Ms} {H H1 H2 : Hp} {D : Addr} {ys : List PyData} (h : Acc M H D H1 ys) (s : Same H1 H2) : Acc M H D H2 ys := by
  obtain ⟨hD, s0, acc, e, r⟩ := h
  exact ⟨hD, s0.trans s, acc, s _ _ e, r.sx (Sx.same s)⟩
theorem Acc.same {M : Ms} {H H1 : Hp} {D : Addr} {ys : List PyData} (h : Acc M H D H1 ys) : Same H H1 := h.2.1
theorem Acc.at {M : Ms} {H H1 : Hp} {D : Addr} {ys : List PyData} (h : Acc M H D H1 ys) : ∃ acc, H1 D = some (.lst acc) ∧ acc.length = ys.length := by
  obtain ⟨hD, s0, acc, e, r⟩ := h
  exact ⟨acc, e, r.length⟩
theorem Acc.put {M : Ms} {H H1 : Hp} {D : Addr} {ys : List PyData} {v : V} {y : PyData} (h : Acc M H D H1 ys) (r : Rp (also M D) H1 v y) (hl : ys.length ≤ 1000000) : ∃ acc, H1 D = some (.lst acc) ∧ acc.length < sizeLine ∧ Acc M H D (upd H1 D (.lst (acc ++ [v]))) (ys ++ [y]) := by
  obtain ⟨hD, s0, acc, e, ra⟩ := h
  refine ⟨acc, e, small1000000 (by rw [ra.length]; exact hl), hD, same_put s0 hD, acc ++ [v], upd_same, ?_⟩
  exact (ra.append (.one r)).sx (Sx.put (.inr rfl))
theorem Acc.mk {M : Ms} {H H1 : Hp} {D : Addr} {ys : List PyData} (h : Acc M H D H1 ys) (hM : Mk M H) : Mk (also M D) H1 := by
  obtain ⟨hD, s0, acc, e, r⟩ := h
  exact (hM.gr (Gr.same s0)).also (ne_none e)
theorem Acc.fin {M : Ms} {H H1 : Hp} {D : Addr} {ys : List PyData} (h : Acc M H D H1 ys) (hM : Mk M H) : Ld M H1 D ys := by
  obtain ⟨hD, s0, acc, e, r⟩ := h
  exact ⟨hM.out hD, acc, e, r.less also_le⟩
theorem Acc.rp {M : Ms} {H H1 : Hp} {D : Addr} {ys : List PyData} (h : Acc M H D H1 ys) (hM : Mk M H) : Rp M H1 (.ref D) (.list ys) := (h.fin hM).rp
/-- what stood ahead is read in the same way beside the list -/
theorem Acc.old {M : Ms} {H H1 : Hp} {D : Addr} {ys : List PyData} {v : V} {d : PyData} (h : Acc M H D H1 ys) (r : Rp M H v d) : Rp (also M D) H1 v d := (r.fresh h.1).sx (Sx.same h.2.1)
theorem Acc.oldM {M : Ms} {H H1 : Hp} {D : Addr} {ys : List PyData} {v : V} {d : PyData} (h : Acc M H D H1 ys) (r : Rp M H v d) : Rp M H1 v d := r.sx (Sx.same h.2.1)
end D
namespace D
open PySem PySem.Spec PyProof.Rows L2
theorem Rp.newT {M : Ms} {H : Hp} {p : Addr} {us : List V} {ds : List PyData} (hM : Mk M H) (hp : H p = none) (r : RpAll M H us ds) : Rp M (upd H p (.tup us)) (.ref p) (.tuple ds) := .tup (hM.out hp) (.inl upd_same) (r.sx (Sx.new hp))
theorem Rp.newL {M : Ms} {H : Hp} {p : Addr} {us : List V} {ds : List PyData} (hM : Mk M H) (hp : H p = none) (r : RpAll M H us ds) : Rp M (upd H p (.lst us)) (.ref p) (.list ds) := .lst (hM.out hp) (.inl upd_same) (r.sx (Sx.new hp))
theorem Mk.new {M : Ms} {H : Hp} {p : Addr} {o : HO} (hM : Mk M H) : Mk M (upd H p o) := hM.gr Gr.upd
def unI : PyData → Int
  | .int i => i
  | _ => 0
theorem perm_ints {es : List PyData} {l : List Int} (h : es.Perm (l.map PyData.int)) : ∃ ns : List Int, ns.Perm l ∧ es = ns.map PyData.int := by
  refine ⟨es.map unI, ?_, ?_⟩
  · have h1 := h.map unI
    rw [List.map_map] at h1
    have e : l.map (unI ∘ PyData.int) = l := by
      have : (unI ∘ PyData.int) = id := rfl
      rw [this, List.map_id]
    rw [e] at h1
    exact h1
  · rw [List.map_map]
    have e : ∀ x ∈ es, (PyData.int ∘ unI) x = x := fun x hx => by
      obtain ⟨i, _, rfl⟩ := List.mem_map.mp (h.mem_iff.mp hx)
      rfl
    exact (List.map_id es).symm.trans (List.map_congr_left fun x hx => (e x hx).symm)
def ten : List Int := [0, 1, 2, 3, 4, 5, 6, 7, 8, 9]
theorem ten_take (n : Nat) : (ten.take n).Nodup ∧ ∀ x ∈ ten.take n, 0 ≤ x ∧ x ≤ 9 :=
  ⟨(show ten.Nodup by decide).sublist (List.take_sublist n ten), fun x hx => (show ∀ x ∈ ten, 0 ≤ x ∧ x ≤ 9 by decide) x (List.mem_of_mem_take hx)⟩
def mxd (m : Nat) (s : Fm) : Nat := max m s.dep
theorem FmAt.two {M : Ms} {H : Hp} {f : Fm} {xs : List V} (h : FmAt M H f xs) : (∃ y z, xs = [.str y, z] ∧ (y = sIs ∨ y = sGet) ∧ f.dep = 1) ∨ ∃ y r, xs = .str y :: r ∧ r ≠ [] ∧ y ≠ sIs ∧ y ≠ sGet ∧ RpAll M H r (f.subs.map Fm.enc) ∧ f.dep = f.subs.foldl mxd 0 + 1 := by
  cases h with
  | is n => exact .inl ⟨_, _, rfl, .inl rfl, rfl⟩
  | get x => exact .inl ⟨_, _, rfl, .inr rfl, rfl⟩
  | @sum f g u w a b =>
    refine .inr ⟨_, _, rfl, by simp, by decide +kernel, by decide +kernel, .cons a (.one b), ?_⟩
    show max f.dep g.dep + 1 = max (max 0 f.dep) g.dep + 1
    omega
  | @same f g u w a b =>
    refine .inr ⟨_, _, rfl, by simp, by decide +kernel, by decide +kernel, .cons a (.one b), ?_⟩
    show max f.dep g.dep + 1 = max (max 0 f.dep) g.dep + 1
    omega
  | @pick f g k u w z a b c =>
    refine .inr ⟨_, _, rfl, by simp, by decide +kernel, by decide +kernel, .cons a (.cons b (.one c)), ?_⟩
    show max f.dep (max g.dep k.dep) + 1 = max (max (max 0 f.dep) g.dep) k.dep + 1
    omega
theorem ints_mem {l : List Int} (h : ∀ n ∈ l, 0 ≤ n ∧ n ≤ 9) {v : V} (hv : v ∈ l.map V.int) : ∃ n, v = .int n ∧ 0 ≤ n ∧ n ≤ 9 := by
  obtain ⟨n, hn, rfl⟩ := List.mem_map.mp hv
  exact ⟨n, rfl, h n hn⟩
/-- a draw of a row -/
def DrR (K : PySem.W.Frag) (M : Ms) (b : Addr) (H : Hp) (R : List Int → Prop) (Q : VK) : Prop := ∀ v H' ns, Sx (one b) H H' → Gr H H' → Bag K M H' b → RowF M H' v ns → R ns → Q v H'
end D

namespace D
open PySem PySem.Spec PyProof.Rows L2
/-! ### rows that a key mixes up -/
theorem flat_ne {α β : Type} (f : α → List β) (l : List α) : (l.map f).flatten ≠ [] ↔ ∃ x ∈ l, f x ≠ [] := by
  induction l with
  | nil => simp
  | cons a r ih =>
    rw [List.map_cons, List.flatten_cons]
    constructor
    · intro h
      by_cases c : f a = []
      · rw [c, List.nil_append] at h
        obtain ⟨x, hx, e⟩ := ih.mp h
        exact ⟨x, List.mem_cons_of_mem _ hx, e⟩
      · exact ⟨a, List.mem_cons_self, c⟩
    · rintro ⟨x, hx, e⟩ z
      obtain ⟨z1, z2⟩ := List.append_eq_nil_iff.mp z
      rcases List.mem_cons.mp hx with rfl | hx
      · exact e z1
      · exact ih.mpr ⟨x, hx, e⟩ z2
theorem flat_ne_idx {α β : Type} (f : Nat → α → List β) (l : List α) : (l.mapIdx f).flatten ≠ [] ↔ ∃ (j : Nat) (x : α), l[j]? = some x ∧ f j x ≠ [] := by
  have h := flat_ne (fun y => y) (l.mapIdx f)
  rw [List.map_id'] at h
  rw [h]
  constructor
  · rintro ⟨y, hy, e⟩
    obtain ⟨j, hj⟩ := List.mem_iff_getElem?.mp hy
    rw [List.getElem?_mapIdx] at hj
    obtain ⟨x, hx, rfl⟩ := Option.map_eq_some_iff.mp hj
    exact ⟨j, x, hx, e⟩
  · rintro ⟨j, x, hx, e⟩
    exact ⟨f j x, List.mem_iff_getElem?.mpr ⟨j, by rw [List.getElem?_mapIdx, hx]; rfl⟩, e⟩
theorem pos_of {B : List IP} (hB : B.Nodup) {i : Nat} {x : IP} (h : B[i]? = some x) : pos B x = some i := by
  have hm : x ∈ B := List.mem_of_getElem? h
  have hi := (List.getElem?_eq_some_iff.mp h).1
  have h2 := List.idxOf_lt_length_of_mem hm
  have e2 : B[B.idxOf x]? = some x := by rw [List.getElem?_eq_getElem h2, List.getElem_idxOf h2]
  unfold pos
  rw [if_pos hm]
  rcases Nat.lt_trichotomy (B.idxOf x) i with c | c | c
  · exact absurd (e2.trans h.symm) (nodup_get.mp hB _ _ c hi)
  · rw [c]
  · exact absurd (h.trans e2.symm) (nodup_get.mp hB _ _ c h2)
theorem mem_mt {B N : List IP} (hB : B.Nodup) (i j : Nat) : ((i : Int), (j : Int)) ∈ mt B N ↔ ∃ x, B[i]? = some x ∧ N[j]? = some x := by
  constructor
  · intro h
    unfold mt at h
    obtain ⟨l, hl, hp⟩ := List.mem_flatten.mp h
    obtain ⟨k, hk, rfl⟩ := List.mem_mapIdx.mp hl
    unfold mst at hp
    cases e : pos B N[k] with
    | none => rw [e] at hp; exact nomatch hp
    | some m =>
      rw [e] at hp
      have hp' := List.mem_singleton.mp hp
      injection hp' with h1 h2
      have h1' : i = m := Int.ofNat.inj h1
      have h2' : j = k := Int.ofNat.inj h2
      subst h1' h2'
      exact ⟨_, (pos_lt e).2, List.getElem?_eq_getElem hk⟩
  · rintro ⟨x, h1, h2⟩
    unfold mt
    refine List.mem_flatten.mpr ⟨mst B x j, List.mem_iff_getElem?.mpr ⟨j, by rw [List.getElem?_mapIdx, h2]; rfl⟩, ?_⟩
    unfold mst
    rw [pos_of hB h1]
    exact List.mem_singleton.mpr rfl
def badB (o n : List Int) (B N : List IP) : Bool := !(slp o n (mt B N)).isEmpty || !(lsts o n (mt B N)).isEmpty
theorem idx_of {n : List Int} (h : n.Nodup) {i : Nat} {x : Int} (e : n[i]? = some x) : n.idxOf x = i := by
  have hi := (List.getElem?_eq_some_iff.mp e).1
  have hx : x ∈ n := List.mem_of_getElem? e
  have h2 := List.idxOf_lt_length_of_mem hx
  have e2 : n[n.idxOf x]? = some x := by rw [List.getElem?_eq_getElem h2, List.getElem_idxOf h2]
  rcases Nat.lt_trichotomy (n.idxOf x) i with c | c | c
  · exact absurd (e2.trans e.symm) (nodup_get.mp h _ _ c hi)
  · exact c
  · exact absurd (e.trans e2.symm) (nodup_get.mp h _ _ c h2)
theorem bad_iff {o n : List Int} {B N : List IP} (ho : o.Nodup) (hB : B.Nodup) (lB : B.length = o.length) (lN : N.length = n.length) :
    badB o n B N = true ↔ ∃ (i j : Nat) (x y : Int) (u v : IP), o[i]? = some x ∧ n[j]? = some y ∧ B[i]? = some u ∧ N[j]? = some v ∧ decide (u = v) ≠ decide (x = y) := by
  have e1 : badB o n B N = true ↔ (slp o n (mt B N) ≠ [] ∨ lsts o n (mt B N) ≠ []) := by
    unfold badB
    rw [Bool.or_eq_true]
    constructor
    · rintro (h | h)
      · left; intro z; rw [z] at h; exact nomatch h
      · right; intro z; rw [z] at h; exact nomatch h
    · rintro (h | h)
      · left; cases e : slp o n (mt B N) with
        | nil => exact absurd e h
        | cons a r => rfl
      · right; cases e : lsts o n (mt B N) with
        | nil => exact absurd e h
        | cons a r => rfl
  rw [e1]
  have at_ : ∀ {i : Nat}, i < o.length → ∃ u, B[i]? = some u := fun {i} h => ⟨B[i]'(by omega), List.getElem?_eq_getElem _⟩
  constructor
  · rintro (h | h)
    · obtain ⟨p, hp, e⟩ := (flat_ne (sst o n) (mt B N)).mp h
      obtain ⟨i, j, hi, hj, rfl⟩ := mt_mem hp
      obtain ⟨w, h1, h2⟩ := (mem_mt hB i j).mp hp
      have x1 : o[i]? = some (o[i]'(by omega)) := List.getElem?_eq_getElem _
      have x2 : n[j]? = some (n[j]'(by omega)) := List.getElem?_eq_getElem _
      refine ⟨i, j, _, _, w, w, x1, x2, h1, h2, ?_⟩
      rw [decide_eq_true rfl]
      intro z
      have z' := of_decide_eq_true z.symm
      apply e
      unfold sst
      rw [atI0_nat x1, atI0_nat x2, if_pos z']
    · obtain ⟨j, x, hx, e⟩ := (flat_ne_idx (fun j x => lst1 o (mt B N) x j) n).mp h
      have hc : x ∈ o ∧ (((o.idxOf x : Nat) : Int), (j : Int)) ∉ mt B N := by
        by_cases c : x ∈ o ∧ (((o.idxOf x : Nat) : Int), (j : Int)) ∉ mt B N
        · exact c
        · exact absurd (if_neg c) e
      have hix := List.idxOf_lt_length_of_mem hc.1
      have hj := (List.getElem?_eq_some_iff.mp hx).1
      obtain ⟨u, hu⟩ := at_ hix
      have hv : N[j]? = some (N[j]'(by omega)) := List.getElem?_eq_getElem _
      refine ⟨o.idxOf x, j, x, x, u, _, by rw [List.getElem?_eq_getElem hix, List.getElem_idxOf hix], hx, hu, hv, ?_⟩
      rw [decide_eq_true (show x = x from rfl)]
      intro z
      have z' := of_decide_eq_true z
      exact hc.2 ((mem_mt hB _ j).mpr ⟨u, hu, by rw [hv, z']⟩)
  · rintro ⟨i, j, x, y, u, v, hx, hy, hu, hv, hne⟩
    by_cases c : u = v
    · left
      subst c
      have hp : ((i : Int), (j : Int)) ∈ mt B N := (mem_mt hB i j).mpr ⟨u, hu, hv⟩
      refine (flat_ne (sst o n) (mt B N)).mpr ⟨_, hp, ?_⟩
      unfold sst
      rw [atI0_nat hx, atI0_nat hy, if_neg]
      · simp
      · intro z
        apply hne
        rw [decide_eq_true rfl, decide_eq_true z]
    · have xy : x = y := by
        by_cases z : x = y
        · exact z
        · exact absurd (by rw [decide_eq_false c, decide_eq_false z]) hne
      subst xy
      right
      refine (flat_ne_idx (fun j x => lst1 o (mt B N) x j) n).mpr ⟨j, x, hy, ?_⟩
      have hm : x ∈ o := List.mem_of_getElem? hx
      show lst1 o (mt B N) x j ≠ []
      unfold lst1
      rw [if_pos]
      · simp
      · refine ⟨hm, fun z => ?_⟩
        rw [idx_of ho hx] at z
        obtain ⟨w, h1, h2⟩ := (mem_mt hB i j).mp z
        exact c ((Option.some.inj (hu.symm.trans h1)).trans (Option.some.inj (h2.symm.trans hv)))
end D

namespace D
open PySem PySem.Spec PyProof.Rows L2
section
variable {X : Cx} {C g : Addr} {n : Nat} {CX : CXT} {sp : Sp} {E : XK} {fd : FuncData} {ps : List Str}
theorem room_in1 {A : Around} (r : Room (n + 1) A) : Room n A.in1 := ⟨r.hd, by have := r.dp; show A.depth + 3 * n + 5 < _; omega, by have := r.un; show A.units + 1 + 16 * n + 200 < _; omega⟩
/-- a def is run one step in -/
theorem run_in1 {pins : List (Addr × Obj)} {σ : L2.St} {H : Hp} {s : Shared} {Q : VK} {us : List Value} {vs : List V} (F : FnOk X.prog X.w X.K X.mg X.base CX n g fd ps sp) (hr : Room (n + 1) X.A) (hb : Binds X.K fd ps []) (hx : Passes CX X E)
    (I : Inv X pins σ H s) (r : Vals vs us) (h : sp vs H Q E) : wpAny (model X.prog X.w) X.A.in1 (call (.ref g) us) (EP X pins σ Q) X.xe s := by
  have hl : (us ++ []).length = ps.length := by rw [List.append_nil, ← r.length]; exact F.len _ _ _ _ h
  have bd := hb s us I.kIn hl
  rw [List.append_nil] at bd
  refine wpAny_call (codeAny_mono (F.run X.A.in1 X.stack s H ⟨us, []⟩ us vs Q E (room_in1 hr) I.env0.in1 bd r h) fun r s' hq => ?_)
  match r, hq with
  | .error e, hq => exact hx pins σ H s e s' I hq
  | .ok (.ret u), hq => exact I.after hq
  | .ok .next, hq => exact False.elim hq
  | .ok .brk, hq => exact False.elim hq
  | .ok .cont, hq => exact False.elim hq
/-- what an instance's own subscript reads: the def at g answers for the instance and the index -/
def tOwnIx (C : Addr) (sp : Sp) (E : XK) (to ti : TE) : TE := fun σ H Q => to σ H fun x H1 => ti σ H1 fun y H2 => ∃ a dx fs, x = .ref a ∧ H2 a = some (.ins C dx fs) ∧ sp [x, y] H2 Q E
theorem pe_ownIx {o i : Expr} {to ti : TE} {pos : Pos} (ho : PE X o to) (hi : PE X i ti) (hs : PySem.W.findIn X.K (.ref C) "__getitem__" = some (some (.ref g))) (hf : PySem.W.fnIn X.K g = true) (hg : PySem.W.isFn X.K (.ref g) = true)
    (F : FnOk X.prog X.w X.K X.mg X.base CX n g fd ps sp) (hb : Binds X.K fd ps []) (hr : Room (n + 1) X.A) (hx : Passes CX X E)
    (hsl : ∀ ov iv, subscripted i true ov iv = runValue (.builtin "lifetime.subscript" ⟨[ov, iv], []⟩)) : PE X (.Subscript o i pos) (tOwnIx C sp E to ti) := by
  refine ⟨fun pins s σ H Q I h => ?_⟩
  refine Subscript_ (thn (ho.run pins s σ H _ I h) fun ov s1 ⟨x, H1, I1, rx, q1⟩ => thn (hi.run pins s1 σ H1 _ I1 q1) fun iv s2 ⟨y, H2, I2, ry, a, dx, fs, ex, ha, q⟩ => ?_)
  subst ex
  obtain rfl : ov = Value.ref a := rx
  obtain ⟨mA, O, _⟩ := ins_get I2.hok ha
  obtain ⟨od, J, _⟩ := O.look
  obtain ⟨m, hF⟩ := I2.fr
  exact PySem.W.sub_K hF I2.ok.mod.kin J hs hf hg (run_in1 (us := [.ref a, iv]) (vs := [.ref a, y]) F hr hb hx I2 (.cons rfl (.cons ry .nil)) q) (hsl _ _)
/-- the store into an instance by its own def -/
theorem wp_ownPut {prog : Program} {w : World} {A : Around} {Ex : Value → Shared → Prop} {s : Shared} {K : PySem.W.Frag} {x C f : Addr} {ox : Obj} {od : Option Obj} {i v : Value} {Q : Unit → Shared → Prop} (hK : K.In s.heap) (J : PySem.W.InstAt s.heap x ox C od)
    (hq : PySem.W.noSeq K C = true) (hs : PySem.W.findIn K (.ref C) "__setitem__" = some (some (.ref f))) (hf : PySem.W.isFn K (.ref f) = true)
    (h : wpAny (model prog w) A (call (.ref f) [.ref x, i, v]) (fun _ => Q ()) Ex s) : wpAny (model prog w) A (setItem (.ref x) i v) Q Ex s := by
  unfold setItem sequenceKey
  have called : wpAny (model prog w) A (callSpecial? (.ref x) "__setitem__" [i, v]) (fun r => match r with | some _ => Q () | none => fun _ => False) Ex s :=
    PySem.W.special_fn hK J hs (beq_iff_eq.mp hf) h
  refine wpAny_holding (wpAny_bind (wpAny_bind (J.type.here (wpAny_bind ((PySem.W.anyM_none hK hq).here ?_)))))
  rw [if_pos (by rfl : (!false) = true)]
  refine wpAny_pure (wpAny_bind (wpAny_mono called (fun r s' z => ?_) fun _ _ z => z))
  match r, z with
  | some _, z => exact wpAny_pure z
/-- x[i] = v, an own def's store -/
def sOwnPut (C : Addr) (sp : Sp) (E : XK) (to ti tv : TE) : TS := fun D σ H => tv σ H fun v H1 => to σ H1 fun x H2 => ti σ H2 fun y H3 => ∃ a dx fs, x = .ref a ∧ H3 a = some (.ins C dx fs) ∧ sp [x, y, v] H3 (fun _ H4 => D.nx σ H4) E
theorem ps_ownPut {o i value : Expr} {pos pos' : Pos} {to ti tv : TE} (ho : PE X o to) (hi : PE X i ti) (hv : PE X value tv) (hq : PySem.W.noSeq X.K C = true) (hs : PySem.W.findIn X.K (.ref C) "__setitem__" = some (some (.ref g))) (hf : PySem.W.isFn X.K (.ref g) = true)
    (F : FnOk X.prog X.w X.K X.mg X.base CX n g fd ps sp) (hb : Binds X.K fd ps []) (hr : Room (n + 1) X.A) (hx : Passes CX X E) (sw : swapsWith value (some (.Subscript o i pos')) pos.line X.env = pure false) :
    PS X (.Assign [.Subscript o i pos'] value pos) (sOwnPut C sp E to ti tv) := by
  refine ⟨fun pins s σ H D I h => ?_⟩
  refine wpAny_Assign_Subscript (thn (hv.run pins s σ H _ I h) fun r s1 ⟨v, H1, I1, rv, q1⟩ => thn (ho.run pins s1 σ H1 _ I1 q1) fun u s2 ⟨x, H2, I2, rx, q2⟩ => thn (hi.run pins s2 σ H2 _ I2 q2) fun iv s3 ⟨y, H3, I3, ry, a, dx, fs, ex, ha, q⟩ => ?_) sw
  subst ex
  obtain rfl : u = Value.ref a := rx
  obtain ⟨mA, O, _⟩ := ins_get I3.hok ha
  obtain ⟨od, J, _⟩ := O.look
  refine wp_ownPut I3.kIn J hq hs hf (wpAny_mono (run_fn (us := [.ref a, iv, r]) (vs := [.ref a, y, v]) F (hr.mono (Nat.le_succ n)) hb .nil hx I3 (.cons rfl (.cons ry (.cons rv .nil))) q) (fun w s' z => ?_) fun _ _ z => z)
  obtain ⟨z', H', I', _, qz⟩ := z
  exact ⟨σ, H', I', qz⟩
theorem pi_zipAK {K : PySem.W.Frag} {e e2 : Expr} {ta : TA} {p pos tpos : Pos} {elts : List Expr} {kk : Nat} (hK : X.K = K) (hg : Gl X "zip") (hm : X.mg "zip" = none) (ha : PA X [e, e2] ta)
    (hs : starEach [e, e2] X.env = (false, eval e X.env) :: starEach [e2] X.env := by rfl) (hpl : (backTo pos (starEach [e2] X.env)).any (·.1) = false := by rfl) :
    PI X (.Tuple elts kk tpos) (.Call (.Name "zip" p) [e, e2] [] pos) (RZ.iZipA K ta) := by subst hK; exact RZ.pi_zipA hg hm ha hs hpl
end
/-- the loop over two tuples side by side, whatever its body -/
theorem zipT_loop {K : PySem.W.Frag} {a b : Addr} {xs ys : List V} {Qd : Hp → Prop} {H0 : Hp} {B : V → Hp → (Hp → Prop) → Prop} (he : xs.length = ys.length) (Pv : Nat → Hp → Prop) (h0 : Pv 0 H0) (hl : ∀ i H, i ≤ xs.length → Pv i H → SqT K H a xs ∧ SqT K H b ys)
    (hs : ∀ i x y T H, xs[i]? = some x → ys[i]? = some y → H T = none → Pv i H → B (.ref T) (upd H T (.tup [x, y])) (Pv (i + 1))) (hd : ∀ H, Pv xs.length H → Qd H) :
    ∃ W : Nat → Nat → Hp → Prop, (∃ m, W 0 m H0) ∧ ∀ i m H, W i m H → ((RZ.ItzT K a b).stop i H ∧ Qd H) ∨ ((RZ.ItzT K a b).go i H ∧ ∃ Nx : Hp → Prop, (∀ H', Nx H' → ∃ m', m' < m ∧ W (i + 1) m' H') ∧ ∀ x H', (RZ.ItzT K a b).yld i H x H' → B x H' Nx) := by
  refine ⟨fun i m H => m = xs.length - i ∧ i ≤ xs.length ∧ Pv i H, ⟨_, rfl, Nat.zero_le _, h0⟩, ?_⟩
  rintro i m H ⟨rfl, hi, p⟩
  obtain ⟨q1, q2⟩ := hl i H hi p
  by_cases hlt : i < xs.length
  · refine .inr ⟨⟨xs, ys, xs[i], ys[i]'(by omega), q1, q2, by simp [hlt], List.getElem?_eq_getElem _⟩, Pv (i + 1), fun H' p' => ⟨xs.length - (i + 1), by omega, rfl, hlt, p'⟩, fun x H' y => ?_⟩
    obtain ⟨T, u, v, rfl, hT, rfl, z1, z2⟩ := y
    exact hs i u v T _ (z1 xs q1) (z2 ys q2) hT p
  · have e : i = xs.length := by omega
    subst e
    exact .inl ⟨⟨xs, ys, q1, q2, .inl (Nat.le_refl _)⟩, hd H p⟩
/-- keys of pairs -/
def idk (p : IP) : List Key := [.inl p.1, .inl p.2]
theorem idk_inj {p q : IP} (h : idk p = idk q) : p = q := by
  unfold idk at h
  injection h with h1 h2
  injection h2 with h2 _
  exact Prod.ext (Sum.inl.inj h1) (Sum.inl.inj h2)
theorem idk_kV (p : IP) : (idk p).map kV = [.int p.1, .int p.2] := rfl
/-- a dict of whole numbers by pairs -/
def DN (kvs : List (List Key × V)) (N : IP → Option Int) : Prop := ∀ p : IP, valV kvs (idk p) = (N p).map V.int
def shownN (l : List IP) (N : IP → Option Int) : IP → Option Int := fun x => if x ∈ l then some ((N x).getD 0) else none
theorem DN.put {kvs : List (List Key × V)} {N : IP → Option Int} (h : DN kvs N) (p : IP) (w : Int) : DN (putK kvs (idk p) (.int w)) (fun x => if x = p then some w else N x) := fun x => by
  rw [valV_put]
  dsimp only
  by_cases c : x = p
  · rw [if_pos (by rw [c]), if_pos c]
    rfl
  · rw [if_neg (fun z => c (idk_inj z)), if_neg c]
    exact h x
theorem DN.show {kvs : List (List Key × V)} {N : IP → Option Int} {l : List IP} {n : IP} (h : DN kvs (shownN l N)) : DN (putK kvs (idk n) (.int ((N n).getD 0))) (shownN (l ++ [n]) N) := fun x => by
  rw [h.put n _ x]
  unfold shownN
  dsimp only
  by_cases c : x = n
  · subst c
    rw [if_pos rfl, if_pos (List.mem_append_right _ (List.mem_singleton.mpr rfl))]
  · rw [if_neg c]
    by_cases d : x ∈ l
    · rw [if_pos d, if_pos (List.mem_append_left _ d)]
    · rw [if_neg d, if_neg (fun z => (List.mem_append.mp z).elim d fun e => c (List.mem_singleton.mp e))]
theorem putK_len {κ : Type} [DecidableEq κ] {c : List (κ × V)} {k : κ} {x y : V} (h : valV c k = some y) : (putK c k x).length = c.length := by
  unfold putK
  rw [if_pos]
  · exact List.length_map _
  · unfold valV at h
    obtain ⟨q, hq, _⟩ := Option.map_eq_some_iff.mp h
    have hq2 := List.find?_some (p := fun kv : κ × V => decide (kv.1 = k)) hq
    exact List.any_eq_true.mpr ⟨q, List.mem_of_find?_eq_some hq, hq2⟩
theorem putK_more {κ : Type} [DecidableEq κ] (c : List (κ × V)) (k : κ) (x : V) : (putK c k x).length ≤ c.length + 1 := by
  unfold putK
  split
  · rw [List.length_map]; omega
  · rw [List.length_append]; exact Nat.le_refl _
end D

namespace D
open PySem PySem.Spec PyProof.Rows L2
section
variable {X : Cx} {es : List Expr} {t : TA} {pos : Pos}
theorem pe_notTK {K : PySem.W.Frag} {a : Expr} {ta : TE} (hK : X.K = K) (ha : PE X a ta) : PE X (.UnaryOp .Not a pos) (tNotT K ta) := by subst hK; exact pe_notT ha
/-- a written tuple, known to its object -/
def tTupF (t : TA) : TE := fun σ H Q => t σ H fun xs H1 => xs.length ≤ sizeLine ∧ ∀ p o, H1 p = none → o.cls = .type "tuple" → o.dict = none → Q (.ref p) (upd H1 p (.frz o (.tup xs)))
theorem pe_tupF {x1} (h : PA X es t) : PE X (.Tuple es x1 pos) (tTupF t) := by
  refine ⟨fun held st sl G C J want => ?_⟩
  refine wpAny_Tuple_spliced (thn (h.run pos held st sl G _ J want) fun vals st2 ⟨items, G2, J2, rel, fits, fin⟩ => ⟨by rw [← rel.length]; exact fits, ?_⟩)
  have unused : G2 st2.heap.objs.size = none := J2.hok.fresh (Nat.le_refl _)
  let made : Obj := { cls := .type "tuple", data := .seq vals.toArray }
  refine ⟨.ref st2.heap.objs.size, upd G2 st2.heap.objs.size (.frz made (.tup items)), J2.laid (t' := st2.toks) (fun _ _ old => Heap.get?_push_of_some _ old) (Nat.le_refl _) ?_, rfl, fin _ made unused rfl rfl⟩
  exact (show ObjOk X.prog X.w _ _ _ (.frz made (.tup items)) from ⟨Heap.get?_push_size _ rfl, fits, vals, rel, ⟨_, Heap.get?_push_size _ rfl, rfl, _, rfl⟩⟩)
/-- t + u, known to its object -/
def rCatF (K : PySem.W.Frag) : R2 := fun x y H Q => ∃ a b xs ys, x = .ref a ∧ y = .ref b ∧ SqT K H a xs ∧ SqT K H b ys ∧ xs.length + ys.length ≤ sizeLine ∧
  (xs = [] → Q (.ref b) H) ∧ (xs ≠ [] → ys = [] → Q (.ref a) H) ∧ (xs ≠ [] → ys ≠ [] → ∀ p o, H p = none → o.cls = .type "tuple" → o.dict = none → Q (.ref p) (upd H p (.frz o (.tup (xs ++ ys)))))
theorem op_catF {K : PySem.W.Frag} (hK : X.K = K) : OpR X (binaryOp .Add) (rCatF K) := by
  subst hK
  intro held st sl G x y v u C J relx rely want
  obtain ⟨one', two, left, right, rfl, rfl, readL, readR, fits, none1, none2, both⟩ := want
  by_cases emp : left = []
  · exact op_catA held st sl G _ _ v u C J relx rely ⟨one', two, left, right, rfl, rfl, readL, readR, fits, none1, fun no => absurd emp no, fun no => absurd emp no⟩
  cases relx
  cases rely
  obtain ⟨itemsL, relL, tupL, _⟩ := J.tuple readL
  obtain ⟨itemsR, relR, tupR, _⟩ := J.tuple readR
  refine HT.cat_tup tupL tupR (fun no => emp (relL.nil_iff.mp no)) (fun no => ⟨.ref one', G, J, rfl, none2 emp (relR.nil_iff.mp no)⟩) (fun full => ?_) (by rw [← relL.length, ← relR.length]; exact fits)
  let made : Obj := { cls := .type "tuple", data := .seq (itemsL ++ itemsR).toArray }
  refine ⟨.ref st.heap.objs.size, _, J.laid (t' := st.toks) (o := .frz made (.tup (left ++ right))) (fun _ _ old => Heap.get?_push_of_some _ old) (Nat.le_refl _) ?_, rfl, both emp (fun no => full (relR.nil_iff.mpr no)) _ made (J.hok.fresh (Nat.le_refl _)) rfl rfl⟩
  exact ⟨Heap.get?_push_size _ rfl, by rw [List.length_append]; exact fits, _, relL.append relR, IsTup.new _ _⟩
theorem dcG_core {pins : List (Addr × Obj)} {s : Shared} {σ : L2.St} {H : Hp} {Q : VK} {O : Addr → HO} {Put : Addr → (Hp → Prop) → V → V → Hp → Prop} {kx vx tgt it : Expr} {ifs : List Expr} {sc : Scope} {own : List (Str × Nat)} {pos pos' : Pos} {walk : TI} {g : TG} {tt : TT} {tk tv : TE} {use : Option (Value → Sem Unit)} {Qf : Value → Shared → Prop}
    (mk0 : ∀ (H : Hp) (h : Heap), sysModules < h.objs.size → ObjOk X.prog X.w H (h.push { cls := .type "dict", data := .dict #[] }) h.objs.size (O h.objs.size)) (store : Stores X Put) (calm : X.calm = true) (nod : X.N.Nodup) (I : Inv X pins σ H s)
    (pi : PI X tgt it walk) (bo : BlkOk X.N X.env.scope sc own) (pg : InBlk X sc fun B => PG B tgt g) (pt : InBlk X sc fun B => PTs B ifs tt) (pk : InBlk X sc fun B => PE B kx tk) (pv : InBlk X sc fun B => PE B vx tv)
    (plain : ∀ x, foldedSetIterable it X.env x = pure x) (h : tDcG O Put walk g tt tk tv (own.map (·.2)) σ H Q)
    (behind : ∀ made frame st names G, Inv X pins σ G st → Q (.ref made) G → st.heap.Ns frame names → FpOk X pins G frame → compPost (model X.prog X.w) X.A X.xe use Qf (.ref made) frame (.ok .next) st) :
    wpAny (model X.prog X.w) X.A (comprehension (.DictComp kx vx [⟨tgt, it, ifs, 0⟩] sc pos) sc X.env pos' newDict false (eval it X.env) use) Qf X.xe s := by
  have free : ∀ y ∈ sc.names, y.2 = .free → ∃ c, X.env.cells.lookup y.1 = some c := fun y hy e => (bo.free y hy e).elim (fun k => I.ok.has _ (.inl k)) fun k => I.ok.has _ (.inr k)
  refine wpAny_comprehension_free (use := use) rfl plain (closure_ok free) bo.kind (fun y hy e => by rw [bo.uniq y hy, e]) ?_
  -- what is walked, then the empty dict
  refine thn (pi.run pins s σ H _ I h) fun xv s1 hx => thn hx ?_
  rintro itv s2 ⟨ad, feet, tn, J, H2, rfl, I2, T, at2, ft2, q⟩
  refine wpAny_newObj_type (newEnv_comp ?_)
  have fresh : H2 s2.heap.objs.size = none := I2.hok.fresh (Nat.le_refl _)
  obtain ⟨W, ⟨m0, w0⟩, turn⟩ := q _ fresh
  let s3 : Shared := { s2 with heap := s2.heap.push { cls := .type "dict", data := .dict #[] } }
  let D : Addr := s2.heap.objs.size
  let H3 : Hp := upd H2 D (O D)
  let L : Addr := s3.heap.objs.size
  let e3 : Env := compEnvC sc (cellsFrom (L + 1) sc.names (cloFrom X.env.cells sc.names [])) L X.env
  let s4 : Shared := { s3 with heap := pushCells (s3.heap.push { cls := .type "dict", data := .dict #[] }) sc.names }
  have I3 : Inv X pins σ H3 s3 := I2.laid (t' := s2.toks) (fun _ _ e => Heap.get?_push_of_some _ e) (Nat.le_refl _) (mk0 _ s2.heap I2.big)
  have grown : ∀ b o, s2.heap.get? b = some o → s3.heap.get? b = some o := fun _ _ e => Heap.get?_push_of_some _ e
  have low : ∀ b ∈ feet, b < s2.heap.objs.size := fun b hb => Heap.lt_size (T.obj _ _ at2 b hb).choose_spec.1
  have ft3 : ∀ b ∈ feet, FpOk X pins H3 b ∧ b < s3.heap.objs.size := fun b hb => ⟨⟨(upd_ne (Nat.ne_of_lt (low b hb))).trans (ft2 b hb).1, (ft2 b hb).2⟩, by show b < (s2.heap.push _).objs.size; rw [Heap.size_push]; exact Nat.lt_succ_of_lt (low b hb)⟩
  have at3 : tn 0 s3.heap := T.keep _ _ _ at2 fun b _ o e => grown b o e
  have I4 : Inv (X.blk s3 H3 sc e3 feet) [] (wipe σ (own.map (·.2))) H3 s4 := block_start I3 bo nod ft3
  have at4 : tn 0 s4.heap := T.keep _ _ _ at3 fun b _ o e => pushCells_keeps _ _ _ _ (Heap.get?_push_of_some _ e)
  -- the walker's own objects in the block's context
  have foot : ∀ {σ' : L2.St} {G : Hp} {t : Shared}, Inv (X.blk s3 H3 sc e3 feet) [] σ' G t → (∀ b ∈ feet, G b = none) → ∀ b ∈ feet, FpOk (X.blk s3 H3 sc e3 feet) [] G b := by
    intro σ' G t J' none b hb
    refine ⟨none b hb, (J'.ok.exf b hb).1, J'.ok.exfs b hb, .inl hb, fun x c e => (J'.ok.exf b hb).2 x c e, ?_⟩
    intro p hp
    exact nomatch (show p ∈ ([] : List (Addr × Obj)) from by simpa using hp)
  have loop : codeAny (model X.prog X.w) X.A (.compLoop (.DictComp kx vx [⟨tgt, it, ifs, 0⟩] sc pos) 0 (.ref ad) (.ref D) e3) (compPost (model X.prog X.w) X.A X.xe use Qf (.ref D) L) s4 := by
    refine compLoop_anyD (fun n t => ∃ i G, Inv (X.blk s3 H3 sc e3 feet) [] (wipe σ (own.map (·.2))) G t ∧ tn i t.heap ∧ (∀ b ∈ feet, G b = none) ∧ W i n G) ?_ m0 ⟨0, H3, I4, at4, fun b hb => (ft3 b hb).1.1, w0⟩
    rintro n t ⟨i, G, IG, atG, nG, wG⟩
    obtain ⟨stop, fin⟩ | ⟨go, N, less, step⟩ := turn i n G wG
    · refine thnF (T.done (X.blk s3 H3 sc e3 feet) rfl rfl rfl calm i [] t _ G (fun _ _ => False) IG (foot IG nG) atG stop) ?_
      rintro r t6 ⟨rfl, I6⟩
      have I7 : Inv X pins σ G t6 := I3.call' (ch := feet) I6.os I6.base I6.hok I6.bare fun b hb => let z := (ft3 b hb).1.2; ⟨z.2.2.1, z.1, z.2.2.2.1, z.2.2.2.2⟩
      obtain ⟨m, names, _⟩ := I6.loc
      exact behind D L t6 m G I7 fin names (I3.fpOk (Nat.le_refl _) (show G L = none from I6.free))
    · refine thnF (T.item (X.blk s3 H3 sc e3 feet) rfl rfl rfl calm i [] t _ G (fun _ _ => False) IG (foot IG nG) atG go) ?_
      rintro r t6 ⟨u, rfl, h6⟩
      refine thnF h6 ?_
      rintro _ t7 ⟨x, G7, I7, r7, y7, at7, n7⟩
      refine thnF ((pg _ _ _ _ _).run _ t7 _ G7 x u _ (I7.pinned (foot I7 n7) (T.obj _ _ at7)) r7 (step x G7 y7)) ?_
      rintro _ t8 ⟨σ8, G8, I8, wp8, q8⟩
      refine thnF ((pt _ _ _ _ _).run _ t8 σ8 G8 _ I8 q8) ?_
      rintro b t9 ⟨G9, I9, q9⟩
      have back : ∀ {t' : Shared} {G' : Hp}, Inv (X.blk s3 H3 sc e3 feet) ([] ++ pinsAt feet t7.heap) σ8 G' t' → N G' → ∃ m, m < n ∧ ∃ i G, Inv (X.blk s3 H3 sc e3 feet) [] (wipe σ (own.map (·.2))) G t' ∧ tn i t'.heap ∧ (∀ b ∈ feet, G b = none) ∧ W i m G := by
        intro t' G' I' nx
        obtain ⟨m', lt, w'⟩ := less G' nx
        have held : ∀ b ∈ feet, ∀ o, t7.heap.get? b = some o → t'.heap.get? b = some o ∧ G' b = none := fun b hb o e => let z := I'.pin (b, o) (List.mem_append_right _ (List.mem_append_right _ (mem_pinsAt hb e))); ⟨z.1, z.2.1⟩
        refine ⟨m', lt, i + 1, G', I'.unpinned.weak (by rw [← wp8, wipe_length]) fun j v e => ?_, T.keep _ _ _ at7 fun b hb o e => (held b hb o e).1, fun b hb => ?_, w'⟩
        · exact (wipe_some (wp8 ▸ e)).1
        · obtain ⟨o, e, _⟩ := T.obj _ _ at7 b hb
          exact (held b hb o e).2
      by_cases yes : b = true
      · subst yes
        refine thnF ((pk _ _ _ _ _).run _ t9 σ8 G9 _ I9 q9) ?_
        rintro ku t10 ⟨ky, G10, I10, r10, q10⟩
        refine thnF ((pv _ _ _ _ _).run _ t10 σ8 G10 _ I10 q10) ?_
        rintro vu t11 ⟨vy, G11, I11, r11, putting⟩
        exact store (X.blk s3 H3 sc e3 feet) _ _ _ _ _ _ _ _ _ _ _ _ rfl rfl rfl rfl I11 putting r10 r11 fun t12 G12 I12 nx => back I12 nx
      · have no : b = false := by cases b with | true => exact absurd rfl yes | false => rfl
        subst no
        exact back I9 q9
  exact codeAny_compStart_dict loop (T.self X.A 0 _ _ _ at4 loop)
theorem ps_setDcG {i : Nat} {y : Str} {py : Pos} {O : Addr → HO} {Put : Addr → (Hp → Prop) → V → V → Hp → Prop} {kx vx tgt it : Expr} {ifs : List Expr} {sc : Scope} {own : List (Str × Nat)} {pos spos : Pos} {walk : TI} {g : TG} {tt : TT} {tk tv : TE}
    (mk0 : ∀ (H : Hp) (h : Heap), sysModules < h.objs.size → ObjOk X.prog X.w H (h.push { cls := .type "dict", data := .dict #[] }) h.objs.size (O h.objs.size)) (store : Stores X Put) (calm : X.calm = true) (nod : X.N.Nodup) (hy : X.N[i]? = some y) (hyl : X.env.scope.names.lookup y = some .local)
    (hsw : swapsWith (.DictComp kx vx [⟨tgt, it, ifs, 0⟩] sc pos) (some (.Name y py)) spos.line X.env = pure true)
    (pi : PI X tgt it walk) (bo : BlkOk X.N X.env.scope sc own) (pg : InBlk X sc fun B => PG B tgt g) (pt : InBlk X sc fun B => PTs B ifs tt) (pk : InBlk X sc fun B => PE B kx tk) (pv : InBlk X sc fun B => PE B vx tv)
    (plain : ∀ x, foldedSetIterable it X.env x = pure x := by intro _; rfl) :
    PS X (.Assign [.Name y py] (.DictComp kx vx [⟨tgt, it, ifs, 0⟩] sc pos) spos) (tAsg (tDcG O Put walk g tt tk tv (own.map (·.2))) (gName i)) := by
  refine ⟨fun held st sl G ends J want => ?_⟩
  rw [exec_Assign_Name_used _ _ _ _ hsw]
  refine wpAny_bind (wpAny_standAt ?_)
  refine wpAny_bind ?_
  show wpAny _ X.A (do let _ ← comprehension (.DictComp kx vx [⟨tgt, it, ifs, 0⟩] sc pos) sc X.env (firstIterPos [⟨tgt, it, ifs, 0⟩] pos) newDict false (eval it X.env) (some (assign (.Name y py) X.env))) _ _ st
  have want : tDcG O Put walk g tt tk tv (own.map (·.2)) sl G (fun x G1 => gName i x sl G1 ends.nx) := want
  refine wpAny_bind (thn (dcG_core (Qf := fun _ st' => SP X held ends .next st') mk0 store calm nod J pi bo pg pt pk pv plain want fun made frame st2 names G2 J2 fin ns foot => ?_) fun _ _ last => wpAny_pure (wpAny_pure last))
  show wpAny _ _ (assign (.Name y py) X.env (.ref made)) _ _ _
  refine wpAny_assign_Name (store_ok2 (v := V.ref made) J2 nod hy (.inl hyl) rfl (fun st3 J3 ⟨place, same, way⟩ => ?_) (.inr hyl))
  obtain ⟨c0, c1, c2, c3, c4, c5⟩ := foot
  have apart : frame ≠ place := by
    rcases way with way | way
    · rw [way]; exact c1
    · exact fun e => c4 y place way e.symm
  refine ⟨names, ns.sameBut same apart, fun st4 same4 => ?_⟩
  exact ⟨_, G2, J3.turned (t' := st3.toks) (fun b _ out e => (same4.2 b out).trans e) c0 c1 c3 c4 c5, fin⟩
theorem sw_trueD {kx vx : Expr} {gs : List Comprehension} {scope : Scope} {pos py : Pos} {y : Str} {l : Nat} {env : Env} (hk : env.scope.kind = .function) (hy : env.scope.names.lookup y = some .local) (hl : (py.line == pos.line) = true)
    (ha : (scope.names.any fun (n, k) => n == y && (k == .local || k == .cell)) = false) : swapsWith (.DictComp kx vx gs scope pos) (some (.Name y py)) l env = pure true := by
  have kind : env.kindOf y = some .local := hy
  have block : env.blockKind = .function := by
    unfold Env.blockKind
    rw [hk]
    rfl
  unfold swapsWith
  simp only [block, kind, ha, Expr.pos, hl]
  rfl
theorem ps_setDcX {P : Program} {w : World} (hP : X.prog = P) (hw : X.w = w) {i : Nat} {y : Str} {py : Pos} {kx vx tgt it : Expr} {ifs : List Expr} {sc : Scope} {own : List (Str × Nat)} {pos spos : Pos} {walk : TI} {g : TG} {tt : TT} {tk tv : TE} (hu : X.A.units + 1 < cLine) (calm : X.calm = true) (nod : X.N.Nodup) (hy : X.N[i]? = some y) (hyl : X.env.scope.names.lookup y = some .local)
    (hsw : swapsWith (.DictComp kx vx [⟨tgt, it, ifs, 0⟩] sc pos) (some (.Name y py)) spos.line X.env = pure true)
    (pi : PI X tgt it walk) (bo : BlkOk X.N X.env.scope sc own) (pg : InBlk X sc fun B => PG B tgt g) (pt : InBlk X sc fun B => PTs B ifs tt) (pk : InBlk X sc fun B => PE B kx tk) (pv : InBlk X sc fun B => PE B vx tv)
    (plain : ∀ x, foldedSetIterable it X.env x = pure x := by intro _; rfl) :
    PS X (.Assign [.Name y py] (.DictComp kx vx [⟨tgt, it, ifs, 0⟩] sc pos) spos) (tAsg (tDcX P w walk g tt tk tv (own.map (·.2))) (gName i)) := by
  subst hP hw
  exact ps_setDcG (fun H h b => dXo_empty H h b) (stores_X hu) calm nod hy hyl hsw pi bo pg pt pk pv plain
theorem ps_setDcT {i : Nat} {y : Str} {py : Pos} {kx vx tgt it : Expr} {ifs : List Expr} {sc : Scope} {own : List (Str × Nat)} {pos spos : Pos} {walk : TI} {g : TG} {tt : TT} {tk tv : TE} (hu : X.A.units + 1 < cLine) (calm : X.calm = true) (nod : X.N.Nodup) (hy : X.N[i]? = some y) (hyl : X.env.scope.names.lookup y = some .local)
    (hsw : swapsWith (.DictComp kx vx [⟨tgt, it, ifs, 0⟩] sc pos) (some (.Name y py)) spos.line X.env = pure true)
    (pi : PI X tgt it walk) (bo : BlkOk X.N X.env.scope sc own) (pg : InBlk X sc fun B => PG B tgt g) (pt : InBlk X sc fun B => PTs B ifs tt) (pk : InBlk X sc fun B => PE B kx tk) (pv : InBlk X sc fun B => PE B vx tv)
    (plain : ∀ x, foldedSetIterable it X.env x = pure x := by intro _; rfl) :
    PS X (.Assign [.Name y py] (.DictComp kx vx [⟨tgt, it, ifs, 0⟩] sc pos) spos) (tAsg (tDcT walk g tt tk tv (own.map (·.2))) (gName i)) :=
  ps_setDcG (fun _ h b => dt_empty h b) (stores_T hu) calm nod hy hyl hsw pi bo pg pt pk pv plain
end
/-- a row with one item more -/
theorem cat_row {K : PySem.W.Frag} {M : Ms} {H : Hp} {v u : V} {r : List Int} {x : Int} {Q : VK} (h : RowF M H v r) (hu : RowF M H u [x]) (lr : r.length ≤ 1000) (hM : Mk M H) (q : ∀ z H', Same H H' → RowF M H' z (r ++ [x]) → Q z H') : rCatF K v u H Q := by
  obtain ⟨a, o, rfl, na, ha, h1, h2⟩ := id h
  obtain ⟨b, o2, rfl, nb, hb, h3, h4⟩ := id hu
  refine ⟨a, b, _, _, rfl, rfl, .inl (.inr ⟨o, ha⟩), .inl (.inr ⟨o2, hb⟩), ?_, fun z => ?_, fun _ z => absurd z (by simp), fun z _ p o3 hp h5 h6 => ?_⟩
  · rw [List.length_map]
    exact Nat.le_of_lt (small1000000 (by show _ + 1 ≤ _; omega))
  · have e : r = [] := by simpa using z
    subst e
    exact q _ _ (Same.refl _) hu
  · refine q _ _ (same_new hp) ⟨p, o3, rfl, hM.out hp, ?_, h5, h6⟩
    rw [upd_same, List.map_append]
theorem row_new {M : Ms} {H : Hp} {p : Addr} {o : Obj} {ns : List Int} (hM : Mk M H) (hp : H p = none) (h1 : o.cls = .type "tuple") (h2 : o.dict = none) : RowF M (upd H p (.frz o (.tup (ns.map V.int)))) (.ref p) ns := ⟨p, o, rfl, hM.out hp, upd_same, h1, h2⟩
/-- rows in a list -/
def RowsAt (good : List Int → Prop) (M : Ms) (H : Hp) (xs : List V) (nss : List (List Int)) : Prop := xs.length = nss.length ∧ ∀ (i : Nat) (ns : List Int), nss[i]? = some ns → ∃ w, xs[i]? = some w ∧ RowF M H w ns ∧ good ns
section
variable {good : List Int → Prop} {M : Ms} {H H' : Hp} {xs : List V} {nss : List (List Int)}
theorem RowsAt.get (h : RowsAt good M H xs nss) {i : Nat} {x : V} (hx : xs[i]? = some x) : ∃ ns, nss[i]? = some ns ∧ RowF M H x ns ∧ good ns := by
  have hi : i < nss.length := by rw [← h.1]; exact (List.getElem?_eq_some_iff.mp hx).1
  obtain ⟨w, hw, q, g⟩ := h.2 i _ (List.getElem?_eq_getElem hi)
  rw [hx] at hw
  cases hw
  exact ⟨_, List.getElem?_eq_getElem hi, q, g⟩
theorem RowsAt.mem (h : RowsAt good M H xs nss) {x : V} (hx : x ∈ xs) : ∃ ns, ns ∈ nss ∧ RowF M H x ns ∧ good ns := by
  obtain ⟨i, hi⟩ := List.mem_iff_getElem?.mp hx
  obtain ⟨ns, h1, h2, h3⟩ := h.get hi
  exact ⟨ns, List.mem_of_getElem? h1, h2, h3⟩
theorem RowsAt.sx (h : RowsAt good M H xs nss) (s : Sx M H H') : RowsAt good M H' xs nss := ⟨h.1, fun i ns e => by
  obtain ⟨w, h1, h2, h3⟩ := h.2 i ns e
  exact ⟨w, h1, h2.sx s, h3⟩⟩
theorem RowsAt.nil : RowsAt good M H [] [] := ⟨rfl, fun i ns e => by simp at e⟩
theorem RowsAt.append {ys : List V} {mss : List (List Int)} (h : RowsAt good M H xs nss) (g : RowsAt good M H ys mss) : RowsAt good M H (xs ++ ys) (nss ++ mss) := by
  refine ⟨by rw [List.length_append, List.length_append, h.1, g.1], fun i ns e => ?_⟩
  by_cases c : i < nss.length
  · rw [List.getElem?_append_left c] at e
    rw [List.getElem?_append_left (by rw [h.1]; exact c)]
    exact h.2 i ns e
  · rw [List.getElem?_append_right (by omega)] at e
    rw [List.getElem?_append_right (by rw [h.1]; omega), h.1]
    exact g.2 _ ns e
theorem RowsAt.one {w : V} {ns : List Int} (q : RowF M H w ns) (g : good ns) : RowsAt good M H [w] [ns] := ⟨rfl, fun i ms e => by
  cases i with
  | zero => cases e; exact ⟨w, rfl, q, g⟩
  | succ i => simp at e⟩
theorem RowsAt.less {N : Ms} (h : RowsAt good M H xs nss) (f : ∀ a, N a → M a) : RowsAt good N H xs nss := ⟨h.1, fun i ns e => by
  obtain ⟨w, h1, h2, h3⟩ := h.2 i ns e
  exact ⟨w, h1, h2.less f, h3⟩⟩
theorem RowsAt.fresh {p : Addr} (h : RowsAt good M H xs nss) (hp : H p = none) : RowsAt good (also M p) H xs nss := ⟨h.1, fun i ns e => by
  obtain ⟨w, h1, h2, h3⟩ := h.2 i ns e
  exact ⟨w, h1, h2.fresh hp, h3⟩⟩
end
end D

namespace D
open PySem PySem.Spec PyProof.Rows L2
/-! ### own errors with one field or more -/
section
variable {K : PySem.W.Frag}
/-- __init__ of an error with one field -/
def sp_err1 (K : PySem.W.Frag) (C : Addr) (f : Str) : Sp := fun vs H Q _ => ∃ (a : Addr) (y : V), vs = [.ref a, y] ∧ OexC K C ∧ PySem.W.findIn K (.ref C) f = some none ∧ H a = some (exo a C none) ∧
  ∀ dx, H dx = none → dx ≠ a → Q .non (upd (upd H dx (exd dx [(f, y)])) a (exo a C (some dx)))
theorem made_heap {H : Hp} {a dx : Addr} {o1 o2 o3 o4 : HO} (ha : H a = none) (ne : dx ≠ a) : upd (del (upd (upd (upd H a o1) dx o2) a o3) a) dx o4 = upd H dx o4 := by
  funext b
  by_cases h1 : b = dx
  · rw [h1, upd_same, upd_same]
  · rw [upd_ne h1, upd_ne h1]
    by_cases h2 : b = a
    · rw [h2, del_same, ha]
    · rw [del_ne h2, upd_ne h2, upd_ne h1, upd_ne h2]
/-- the making of an error with one field: what is asked behind its argument -/
theorem mk_err1 {C : Addr} {f : Str} {H : Hp} {v : V} {E : XK} (ox : OexC K C) (no : PySem.W.findIn K (.ref C) f = some none) (h : ∀ d, H d = none → E (.ref C) (some d) (upd H d (.xd [(f, v)]))) :
    [v].length ≤ 1000 ∧ ∀ a, H a = none → sp_err1 K C f (.ref a :: ([v] ++ [])) (upd H a (exo a C none))
      (fun u H2 => u = .non ∧ ∃ (d : Addr) (fs : List (Str × V)), H2 a = some (exo a C (some d)) ∧ H2 d = some (exd d fs) ∧ H d = none ∧ E (.ref C) (some d) (upd (del H2 a) d (.xd fs))) (fun _ _ _ => False) := by
  refine ⟨by show 1 ≤ 1000; decide, fun a ha => ⟨a, v, rfl, ox, no, upd_same, fun dx hdx hne => ⟨rfl, dx, [(f, v)], upd_same, ?_, ?_, ?_⟩⟩⟩
  · rw [upd_ne hne, upd_same]
  · rw [upd_ne hne] at hdx
    exact hdx
  · rw [made_heap ha hne]
    rw [upd_ne hne] at hdx
    exact h dx hdx
/-- __init__ of an error with two fields -/
def sp_err2 (K : PySem.W.Frag) (C : Addr) (f g : Str) : Sp := fun vs H Q _ => ∃ (a : Addr) (y z : V), vs = [.ref a, y, z] ∧ OexC K C ∧ PySem.W.findIn K (.ref C) f = some none ∧ PySem.W.findIn K (.ref C) g = some none ∧ H a = some (exo a C none) ∧
  ∀ dx, H dx = none → dx ≠ a → Q .non (upd (upd (upd H dx (exd dx [(f, y)])) a (exo a C (some dx))) dx (exd dx [(g, z), (f, y)]))
/-- isinstance facts of an error class -/
theorem kit_err {D C : Addr} {b : Bool} (hd : PySem.W.hasDictIn K C = true) (ty : PySem.W.typeIn K (.ref C) = some (.type "type")) (ne : D ≠ C) (h : PySem.W.subIn K (.ref D) (.ref C) = some b) : PySem.W.kitOne K (.ref D) (.ref C) = some b := by
  obtain ⟨cd, hc, _⟩ := PySem.W.any_some hd
  unfold PySem.W.kitOne
  rw [if_neg (by simpa using ne)]
  show (if ((PySem.W.clsIn K C).isSome && PySem.W.typeIn K (.ref C) == some (.type "type")) = true then PySem.W.subIn K (.ref D) (.ref C) else none) = some b
  rw [if_pos (by rw [hc, ty]; rfl), h]
theorem kit_self {D : Addr} : PySem.W.kitOne K (.ref D) (.ref D) = some true := by
  unfold PySem.W.kitOne
  rw [if_pos (beq_self_eq_true _)]
theorem kit_ty2 {D : Addr} {t : String} {b : Bool} (m : PySem.W.kitMeta t = true) (h : PySem.W.subIn K (.ref D) (.type t) = some b) : PySem.W.kitOne K (.ref D) (.type t) = some b := by
  unfold PySem.W.kitOne
  rw [if_neg (fun z => nomatch (beq_iff_eq.mp z : Value.ref D = Value.type t))]
  show (if PySem.W.kitMeta t = true then PySem.W.subIn K (.ref D) (.type t) else none) = some b
  rw [if_pos m, h]
end
section
variable {X : Cx} {C g : Addr} {n : Nat} {CX : CXT} {sp : Sp} {E : L2.St → XK} {fd : FuncData} {ps : List Str}
/-- isinstance(e, c), e the error that the suite holds -/
def rIsX (K : PySem.W.Frag) (cls : Value) (d : Option Addr) (a : Addr) : List V → Hp → VK → Prop := fun xs H Q => ∃ (D dd : Addr) (fs : List (Str × V)) (c : V) (cv : Value) (b : Bool), cls = .ref D ∧ d = some dd ∧ ExcC K D ∧ H dd = some (.xd fs) ∧
  xs = [.ref a, c] ∧ (∀ u, RelV c u → u = cv) ∧ PySem.W.kitOne K (.ref D) cv = some b ∧ Q (.bl b) H
theorem inst_exc {X : Cx} {pins : List (Addr × Obj)} {σ : L2.St} {H : Hp} {s : Shared} {a D dd : Addr} {oe : Obj} {fs : List (Str × V)} (I : Inv X pins σ H s) (get : s.heap.get? a = some oe) (hz : Zc (.ref D) (some dd) oe) (hf : ∃ vs, oe.data = .fields vs) (ed : H dd = some (.xd fs)) :
    ∃ od, PySem.W.InstAt s.heap a oe D (some od) := by
  have there : ObjOk X.prog X.w H s.heap dd (.xd fs) := I.hok dd _ ed
  obtain ⟨mA, hns, _⟩ := there
  obtain ⟨od, ho, _⟩ := lookIn_ns hns
  obtain ⟨vs, hd⟩ := hf
  exact ⟨od, get, hz.1, by unfold PySem.W.notCls; rw [hd] <;> rfl, by rw [hz.2]; exact ho⟩
theorem call_isX {a : Addr} {oe : Obj} {cls : Value} {d : Option Addr} {pn : List (Addr × Obj)} (hz : Zc cls d oe) (hf : ∃ vs, oe.data = .fields vs) : CallR (X.suite a ((a, oe) :: pn)) (.builtin "isinstance") (rIsX X.K cls d a) := by
  intro held s sl G args vals want J rel h
  obtain ⟨D, dd, fs, c, cv, b, rfl, rfl, EC, ed, rfl, known, kit, q⟩ := h
  match vals, rel with
  | [_, _], .cons rx (.cons rt .nil) =>
    cases rx
    have ec := known _ rt
    subst ec
    obtain ⟨get, _⟩ := J.pin (a, oe) (List.mem_append.mpr (.inl List.mem_cons_self))
    obtain ⟨od, inst⟩ := inst_exc J get hz hf ed
    obtain ⟨cdD, hcD, _⟩ := PySem.W.any_some EC.hd
    exact PySem.W.kia_one (PySem.W.kitx_exc (by rw [hcD]; rfl) EC.hg EC.hk EC.hs EC.ha EC.hn EC.ht EC.hm) J.kIn inst kit (fun z => nomatch z) fun tk => ⟨.bl b, G, J.kept (t' := tk) fun _ _ z => z, rfl, q⟩
/-- isinstance(e, (c, ..)) -/
def rIsXT (K : PySem.W.Frag) (cls : Value) (d : Option Addr) (a : Addr) : List V → Hp → VK → Prop := fun xs H Q => ∃ (D dd p : Addr) (fs : List (Str × V)) (cs : List Addr) (b : Bool), cls = .ref D ∧ d = some dd ∧ ExcC K D ∧ H dd = some (.xd fs) ∧
  xs = [.ref a, .ref p] ∧ H p = some (.tup (cs.map V.ref)) ∧ PySem.W.kitAny K (.ref D) (cs.map Value.ref) = some b ∧ Q (.bl b) H
theorem vals_refs : ∀ {cs : List Addr} {vals : List Value}, Vals (cs.map V.ref) vals → vals = cs.map Value.ref
  | [], _, .nil => rfl
  | c :: r, _, .cons h t => by
    cases h
    rw [vals_refs t]
    rfl
theorem call_isXT {a : Addr} {oe : Obj} {cls : Value} {d : Option Addr} {pn : List (Addr × Obj)} (hz : Zc cls d oe) (hf : ∃ vs, oe.data = .fields vs) : CallR (X.suite a ((a, oe) :: pn)) (.builtin "isinstance") (rIsXT X.K cls d a) := by
  intro held s sl G args vals want J rel h
  obtain ⟨D, dd, p, fs, cs, b, rfl, rfl, EC, ed, rfl, tup, kit, q⟩ := h
  match vals, rel with
  | [_, _], .cons rx (.cons rt .nil) =>
    cases rx
    cases rt
    obtain ⟨get, _⟩ := J.pin (a, oe) (List.mem_append.mpr (.inl List.mem_cons_self))
    obtain ⟨od, inst⟩ := inst_exc J get hz hf ed
    obtain ⟨cdD, hcD, _⟩ := PySem.W.any_some EC.hd
    obtain ⟨_, its, rv, ⟨⟨tc, tdict, tdata, tslots⟩, ho, hc, m, hd⟩⟩ := (show ObjOk X.prog X.w G s.heap p (.tup (cs.map V.ref)) from J.hok p _ tup)
    dsimp only at hc hd
    subst hc hd
    have ei := vals_refs rv
    subst ei
    exact PySem.W.kia_tup (PySem.W.kitx_exc (by rw [hcD]; rfl) EC.hg EC.hk EC.hs EC.ha EC.hn EC.ht EC.hm) J.kIn inst ho kit (fun z => nomatch z) fun tk => ⟨.bl b, G, J.kept (t' := tk) fun _ _ z => z, rfl, q⟩
/-! ### what may raise within a try -/
/-- a def is run one step in, what it raises goes on -/
theorem run_in1S {pins : List (Addr × Obj)} {σ : L2.St} {H : Hp} {s : Shared} {Q : VK} {us : List Value} {vs : List V} (F : FnOk X.prog X.w X.K X.mg X.base CX n g fd ps sp) (hr : Room (n + 1) X.A) (hb : Binds X.K fd ps []) (hx : PassesAt CX X σ (E σ))
    (I : Inv X pins σ H s) (r : Vals vs us) (h : sp vs H Q (E σ)) : wpAny (model X.prog X.w) X.A.in1 (call (.ref g) us) (EP X pins σ Q) X.xe s := by
  have size : (us ++ []).length = ps.length := by rw [List.append_nil, ← r.length]; exact F.len _ _ _ _ h
  have bd := hb s us I.kIn size
  rw [List.append_nil] at bd
  refine wpAny_call (codeAny_mono (F.run X.A.in1 X.stack s H ⟨us, []⟩ us vs Q (E σ) (room_in1 hr) I.env0.in1 bd r h) fun out s' told => ?_)
  match out, told with
  | .error e, told => exact hx pins H s e s' I told
  | .ok (.ret u), told => exact I.after told
  | .ok .next, told => exact False.elim told
  | .ok .brk, told => exact False.elim told
  | .ok .cont, told => exact False.elim told
def tOwnIxS (C : Addr) (sp : Sp) (E : L2.St → XK) (to ti : TE) : TE := fun σ H Q => to σ H fun x H1 => ti σ H1 fun y H2 => ∃ a dx fs, x = .ref a ∧ H2 a = some (.ins C dx fs) ∧ sp [x, y] H2 Q (E σ)
theorem pe_ownIxS {o i : Expr} {to ti : TE} {pos : Pos} (ho : PE X o to) (hi : PE X i ti) (hs : PySem.W.findIn X.K (.ref C) "__getitem__" = some (some (.ref g))) (hf : PySem.W.fnIn X.K g = true) (hg : PySem.W.isFn X.K (.ref g) = true)
    (F : FnOk X.prog X.w X.K X.mg X.base CX n g fd ps sp) (hb : Binds X.K fd ps []) (hr : Room (n + 1) X.A) (hx : ∀ σ, PassesAt CX X σ (E σ))
    (hsl : ∀ ov iv, subscripted i true ov iv = runValue (.builtin "lifetime.subscript" ⟨[ov, iv], []⟩)) : PE X (.Subscript o i pos) (tOwnIxS C sp E to ti) := by
  refine ⟨fun pins s σ H Q I h => ?_⟩
  refine Subscript_ (thn (ho.run pins s σ H _ I h) fun ov s1 ⟨x, H1, I1, rx, q1⟩ => thn (hi.run pins s1 σ H1 _ I1 q1) fun iv s2 ⟨y, H2, I2, ry, a, dx, fs, ex, ha, q⟩ => ?_)
  subst ex
  obtain rfl : ov = Value.ref a := rx
  obtain ⟨mA, O, _⟩ := ins_get I2.hok ha
  obtain ⟨od, J, _⟩ := O.look
  obtain ⟨m, hF⟩ := I2.fr
  exact PySem.W.sub_K hF I2.ok.mod.kin J hs hf hg (run_in1S (us := [.ref a, iv]) (vs := [.ref a, y]) F hr hb (hx σ) I2 (.cons rfl (.cons ry .nil)) q) (hsl _ _)
/-- a method that may raise -/
def tMethS (C : Addr) (m : Str) (sp : Sp) (E : L2.St → XK) (ta : TE) (t : TA) : TE := fun σ H Q => ta σ H fun x H1 => ∃ a dx fs, x = .ref a ∧ H1 a = some (.ins C dx fs) ∧ fs.lookup m = none ∧ t σ H1 fun vs H2 => sp (x :: vs) H2 Q (E σ)
theorem pe_methS {o e : Expr} {es : List Expr} {m : Str} {f : Addr} {pos apos : Pos} {ta : TE} {t : TA} {pl : Sem Bool} (he : PE X o ta) (c : Cls X.K C) (hm : Meth X.K C m f) (F : FnOk X.prog X.w X.K X.mg X.base CX n f fd ps sp) (hr : Room n X.A) (hb : Binds X.K fd ps []) (hx : ∀ σ, PassesAt CX X σ (E σ)) (ha : PA X (e :: es) t)
    (hst : starEach (e :: es) X.env = (false, eval e X.env) :: starEach es X.env := by rfl) (hpl : (backTo pos (starEach es X.env)).any (·.1) = false := by rfl)
    (ht : eval (.Call (.Attribute o m apos) (e :: es) [] pos) X.env = (do
      let ov ← eval o X.env
      standAt apos.atName
      let (f, first) ← holding [ov] (getMethod ov m pl)
      callWith pos f first (backTo pos (starEach (e :: es) X.env)) (backToKw pos (keywordEach [] X.env))) := by rfl) :
    PE X (.Call (.Attribute o m apos) (e :: es) [] pos) (tMethS C m sp E ta t) := by
  refine ⟨fun held st sl G want J told => ?_⟩
  refine PySem.W.methodCall_KW (pl := pl) (thn (he.run held st sl G _ J told) fun u st1 ⟨x, G1, J1, rx, a, dx, fs, ex, ea, l, q⟩ => ?_) ht
  subst ex
  obtain rfl : u = Value.ref a := rx
  refine getmeth_ok J1 ea c hm l (PySem.W.callWith_K (first := [.ref a]) (h₀ := X.base) J1.ok.mod.kin hm.kp (thn (ha.run pos held st1 sl G1 _ J1 q) fun vals st2 ⟨vs, G2, J2, rel, q2⟩ => ⟨J2.kIn, ?_⟩) hst hpl)
  exact run_fnS (us := .ref a :: vals) (vs := .ref a :: vs) F hr hb (hx sl) J2 (.cons rfl rel) q2
/-- x[i] = v, an own def's store that may raise -/
def sOwnPutS (C : Addr) (sp : Sp) (E : L2.St → XK) (to ti tv : TE) : TS := fun D σ H => tv σ H fun v H1 => to σ H1 fun x H2 => ti σ H2 fun y H3 => ∃ a dx fs, x = .ref a ∧ H3 a = some (.ins C dx fs) ∧ sp [x, y, v] H3 (fun _ H4 => D.nx σ H4) (E σ)
theorem ps_ownPutS {o i value : Expr} {pos pos' : Pos} {to ti tv : TE} (ho : PE X o to) (hi : PE X i ti) (hv : PE X value tv) (hq : PySem.W.noSeq X.K C = true) (hs : PySem.W.findIn X.K (.ref C) "__setitem__" = some (some (.ref g))) (hf : PySem.W.isFn X.K (.ref g) = true)
    (F : FnOk X.prog X.w X.K X.mg X.base CX n g fd ps sp) (hb : Binds X.K fd ps []) (hr : Room (n + 1) X.A) (hx : ∀ σ, PassesAt CX X σ (E σ)) (sw : swapsWith value (some (.Subscript o i pos')) pos.line X.env = pure false) :
    PS X (.Assign [.Subscript o i pos'] value pos) (sOwnPutS C sp E to ti tv) := by
  refine ⟨fun pins s σ H D I h => ?_⟩
  refine wpAny_Assign_Subscript (thn (hv.run pins s σ H _ I h) fun r s1 ⟨v, H1, I1, rv, q1⟩ => thn (ho.run pins s1 σ H1 _ I1 q1) fun u s2 ⟨x, H2, I2, rx, q2⟩ => thn (hi.run pins s2 σ H2 _ I2 q2) fun iv s3 ⟨y, H3, I3, ry, a, dx, fs, ex, ha, q⟩ => ?_) sw
  subst ex
  obtain rfl : u = Value.ref a := rx
  obtain ⟨mA, O, _⟩ := ins_get I3.hok ha
  obtain ⟨od, J, _⟩ := O.look
  refine wp_ownPut I3.kIn J hq hs hf (wpAny_mono (run_fnS (us := [.ref a, iv, r]) (vs := [.ref a, y, v]) F (hr.mono (Nat.le_succ n)) hb (hx σ) I3 (.cons rfl (.cons ry (.cons rv .nil))) q) (fun w s' z => ?_) fun _ _ z => z)
  obtain ⟨z', H', I', _, qz⟩ := z
  exact ⟨σ, H', I', qz⟩
end
end D

namespace D
open PySem PySem.Spec PyProof.Rows L2
/-! ### list(o), o of an own class whose __iter__ hands an iterator over a tuple out -/
/-- at it an iterator over the tuple at t, the next place is i -/
def ItT (t it : Addr) (i : Nat) : HO := .ext fun h => h.IsTupleIter it t i
/-- something stands at it -/
def AnyO (it : Addr) : HO := .ext fun h => ∃ o, h.get? it = some o
section
variable {P : Program} {w : World} {H : Hp} {h : Heap} {t it : Addr} {i : Nat}
theorem itT_ok (e : h.IsTupleIter it t i) : ObjOk P w H h it (ItT t it i) := ⟨e, ⟨_, e.choose_spec.1⟩, fun h1 h2 q k => by
  obtain ⟨o, ho, r⟩ := q
  exact ⟨o, k _ ho, r⟩⟩
theorem any_ok {o : Obj} (e : h.get? it = some o) : ObjOk P w H h it (AnyO it) := ⟨⟨_, e⟩, ⟨_, e⟩, fun h1 h2 q k => by
  obtain ⟨o, ho⟩ := q
  exact ⟨o, k _ ho⟩⟩
end
section
variable {X : Cx} {pins : List (Addr × Obj)} {σ : L2.St} {H : Hp} {s : Shared} {t it : Addr} {i : Nat}
theorem itT_get (I : Inv X pins σ H s) (e : H it = some (ItT t it i)) : s.heap.IsTupleIter it t i := (I.hok it _ e).1
/-- iter(t), t a tuple -/
def rIterT (K : PySem.W.Frag) : List V → Hp → VK → Prop := fun xs H Q => ∃ (t : Addr) (zs : List V), xs = [.ref t] ∧ SqT K H t zs ∧ ∀ it, H it = none → Q (.ref it) (upd H it (ItT t it 0))
theorem call_iterT : CallR X (.builtin "iter") (rIterT X.K) := by
  intro pins s σ H xs us Q I r h
  obtain ⟨t, zs, rfl, hq, q⟩ := h
  obtain rfl := Vals.ref1 r
  obtain ⟨its, rv, ⟨o, ho, hc, n, hd⟩, hz⟩ := I.tuple hq
  refine Calls.call_function_entry (by decide +kernel) (by decide +kernel) PySem.W.kdk_entry_iter (PySem.W.kdk_args_iter _) ?_
  unfold Builtin.«iter»
  refine wpAny_bind (m := someArgs "iter" 1 2 _) (wpAny_of_eq (a := [Value.ref t]) (by first | rfl | kernel_rfl!) ?_)
  show wpAny _ _ (pyIter (.ref t) >>= _) _ _ _
  refine wpAny_bind (wpAny_pyIter_tuple (items := its.toArray) ⟨o, ho, hc, n, hd⟩ ?_)
  refine wpAny_pure ⟨_, rfl, ?_⟩
  exact ⟨.ref s.heap.objs.size, _, I.laid (t' := s.toks) (fun b u e => Heap.get?_push_of_some _ e) (Nat.le_refl _) (itT_ok ⟨_, Heap.get?_push_size _ rfl, rfl, rfl⟩), rfl, q _ (I.hok.fresh (Nat.le_refl _))⟩
end
section
variable {prog : Program} {w : World} {A : Around} {E : Value → Shared → Prop} {s : Shared}
theorem tuple_end2 {it t : Addr} {i : Nat} {items : Array Value} {Q : Option Value → Shared → Prop} (hh : A.handled = none)
    (hit : s.heap.IsTupleIter it t i) (ht : s.heap.IsTuple t items) (hx : items[i]? = none)
    (hQ : ∀ h', (∃ o, h'.get? it = some o) → Heap.ExtBut it s.heap h' → Q none { s with heap := h' }) : wpAny (model prog w) A (pyNext (.ref it)) Q E s := by
  obtain ⟨o, ho, hc, hd⟩ := id hit
  obtain ⟨ol, hol, _, nl, hdl⟩ := ht
  unfold pyNext
  refine wpAny_bind (wpAny_attempt (wpAny_callSpecial?_slot (name := Str.ofString "__next__") hit.typeIs F.slot_tuple_iterator_next
    (wpAny_call_entry F.slot_tuple_iterator_next hit.typeIs F.entry_tuple_iterator_next ?_ (F.args_tuple_iterator_next_1 _))))
  show wpAny _ _ (field (.ref it) 0 >>= _) _ _ s
  refine wpAny_bind (wpAny_field ho hd (x := .ref t) rfl ?_)
  show wpAny _ _ (if (Value.ref t == Value.none) = true then _ else _) _ _ s
  rw [if_neg (show ¬ ((Value.ref t == Value.none) = true) from Bool.false_ne_true)]
  show wpAny _ _ (field (.ref it) 1 >>= _) _ _ s
  refine wpAny_bind (wpAny_field ho hd (x := .int i 0) rfl ?_)
  show wpAny _ _ (seqItems? (.ref t) >>= _) _ _ s
  refine wpAny_bind (wpAny_seqItems hol hdl ?_)
  simp only [Int.toNat_natCast, hx]
  refine wpAny_bind (wpAny_rule (wpAny_bind (wpAny_setField ho hd (by simp) ?_)))
  show wpAny _ _ (newExc (.type "StopIteration") [] >>= _) _ _ _
  refine wpAny_bind ?_
  simp only [newExc, newTuple]
  refine wpAny_bind (wpAny_newObj_type ?_ (by size_fits))
  refine wpAny_bind (m := firstArgMember _ _) (wpAny_of_eq (a := Value.none) (by first | rfl | (simp only [firstArgMember]; rfl)) ?_)
  refine wpAny_newObj_type ?_ (by size_fits)
  simp only [raiseNew]
  refine wpAny_bind (wpAny_handled ?_)
  first | rw [show A.in1.handled = none from hh] | rw [hh]
  refine wpAny_bind (wpAny_pure (wpAny_throw ?_))
  refine wpAny_bind (wpAny_isInstance (T := "StopIteration") (b := true) ⟨_, Heap.get?_push_size _ rfl, rfl⟩ PySem.isSubtype_stop ?_)
  refine wpAny_pure (hQ _ ⟨_, Heap.get?_push_of_some _ (Heap.get?_push_of_some _ (Heap.get?_update_self _ ho (Obj.isFreed_of_fields (Obj.data_mapFields hd _))))⟩ (((Heap.SameBut.update ..).extBut.push _).push _))
end
/-- a class whose instances have an own __iter__, without __len__ and __length_hint__ -/
structure ItK (K : PySem.W.Frag) (C fi : Addr) : Prop where
  it : PySem.W.findIn K (.ref C) "__iter__" = some (some (.ref fi))
  itF : PySem.W.isFn K (.ref fi) = true
  nolen : PySem.W.findIn K (.ref C) "__len__" = some none
  nohint : PySem.W.findIn K (.ref C) "__length_hint__" = some none
section
variable {X : Cx} {pins : List (Addr × Obj)} {σ : L2.St} {H : Hp} {s : Shared}
theorem hintK {M : Model} {A : Around} {E : Value → Shared → Prop} {Q : Bool → Shared → Prop} {K : PySem.W.Frag} {a C fi : Addr} {ox : Obj} {od : Option Obj} (hc : ItK K C fi) (hK : K.In s.heap) (J : PySem.W.InstAt s.heap a ox C od) (h : Q true s) :
    wpAny M A (Builtin.List.listLengthHint (.ref a)) Q E s := by
  unfold Builtin.List.listLengthHint
  refine wpAny_bind (wpAny_bind (J.type.here ((PySem.W.looks_findIn hK hc.nolen).here ?_)))
  refine PySem.W.KFB.if_not rfl ?_
  refine PySem.W.KFB.if_not rfl ?_
  refine wpAny_bind (wpAny_bind (J.type.here ((PySem.W.looks_findIn hK hc.nohint).here ?_)))
  exact wpAny_pure h
theorem it_loop {A1 : Around} {it t q : Addr} {xs : List V} {H0 : Hp} {Rs : Result → Shared → Prop} (hh : A1.handled = none) (nqi : q ≠ it) (nti : t ≠ it) (hT : SqT X.K H0 t xs) (htq : t ≠ q) (hl : xs.length ≤ 1000)
    (hdone : ∀ H s, Inv X pins σ H s → (∀ b, b ≠ it → b ≠ q → H b = H0 b) → H q = some (.lst xs) → H it ≠ none → Rs (.ok (.ret .none)) s) :
    ∀ (k i : Nat) (H : Hp) (s : Shared), xs.length - i = k → i ≤ xs.length → Inv X pins σ H s → (∀ b, b ≠ it → b ≠ q → H b = H0 b) → H q = some (.lst (xs.take i)) → H it = some (ItT t it i) →
      codeAny (model X.prog X.w) A1 (.builtin "list.extend.loop" ⟨[.ref q, .ref it, .none], []⟩) Rs s := by
  intro k
  induction k with
  | zero =>
    intro i H s hk hi I hH hq hit
    have ei : i = xs.length := by omega
    subst ei
    have hT' : SqT X.K H t xs := by
      unfold SqT Rd at hT ⊢
      rw [hH t nti htq]
      exact hT
    obtain ⟨its, rv, pl, hz⟩ := I.tuple hT'
    refine codeAny_builtin PySem.F.entry_extend_loop ?_
    rw [Around.under_plainId PySem.F.plain_extend_loop _]
    show wpAny _ A1.in1 (pyNext (.ref it) >>= _) _ _ s
    refine wpAny_bind (tuple_end2 (items := its.toArray) hh (itT_get I hit) (by obtain ⟨o, ho, hc, n, hd⟩ := pl; exact ⟨o, ho, hc, n, hd⟩) (by have := rv.length; simp [← this]) fun h' he hb => ?_)
    have mu : Mut (H it) := by rw [hit]; exact True.intro
    obtain ⟨o', ho'⟩ := he
    have I' := I.write (x := it) (e := it) (t' := s.toks) (o := AnyO it) (h' := h') mu (.inl rfl) (fun b o nb z => hb b o nb z) ⟨_, ho'⟩ (any_ok ho')
    refine wpAny_pure (hdone _ _ I' (fun b h1 h2 => by rw [upd_ne h1]; exact hH b h1 h2) ?_ ?_)
    · rw [upd_ne nqi, hq, List.take_length]
    · rw [upd_same]
      exact fun z => nomatch z
  | succ k ih =>
    intro i H s hk hi I hH hq hit
    have hlt : i < xs.length := by omega
    have hT' : SqT X.K H t xs := by
      unfold SqT Rd at hT ⊢
      rw [hH t nti htq]
      exact hT
    obtain ⟨its, rv, pl, hz⟩ := I.tuple hT'
    obtain ⟨u, hu, ru⟩ := rv.get (i := i) (List.getElem?_eq_getElem hlt)
    refine codeAny_builtin PySem.F.entry_extend_loop ?_
    rw [Around.under_plainId PySem.F.plain_extend_loop _]
    show wpAny _ A1.in1 (pyNext (.ref it) >>= _) _ _ s
    refine wpAny_bind (wpAny_pyNext_tuple_item (items := its.toArray) (x := u) (itT_get I hit) (by obtain ⟨o, ho, hc, n, hd⟩ := pl; exact ⟨o, ho, hc, n, hd⟩) (by rw [List.getElem?_toArray]; exact hu) fun h' e' sb => ?_)
    have mu : Mut (H it) := by rw [hit]; exact True.intro
    have I' := I.write (x := it) (e := it) (t' := s.toks) (o := ItT t it (i + 1)) (h' := h') mu (.inl rfl) (fun b o nb z => (sb.2 b nb).trans z) ⟨_, e'.choose_spec.1⟩ (itT_ok e')
    have hq' : upd H it (ItT t it (i + 1)) q = some (.lst (xs.take i)) := by rw [upd_ne nqi]; exact hq
    show wpAny _ A1.in1 (updateSeq q (·.push u) >>= _) _ _ _
    obtain ⟨z, its2, c, r2, e⟩ := I'.lstM hq'
    have hlen : (xs.take i).length = i := by rw [List.length_take]; omega
    obtain ⟨r2, hl2, e⟩ := (⟨r2, e⟩ : _ ∧ _ ∧ _)
    have l2 : its2.length = i := by rw [← r2.length, hlen]
    refine wpAny_bind (wpAny_updateSeq e rfl (wpAny_pure ⟨plainId_quiet PySem.F.plain_extend_loop _, ?_⟩) (by rw [List.size_toArray, l2, sizeLine_eq]; omega) (by show (its2.toArray.push u).size ≤ sizeLine + 1; rw [Array.size_push, List.size_toArray, l2, sizeLine_eq]; omega))
    refine ih (i + 1) _ _ (by omega) hlt (I'.lset (its' := its2 ++ [u]) (ys := xs.take (i + 1)) (t' := s.toks) hq' e (by simp) ?_ (by rw [List.length_take, sizeLine_eq]; omega)) (fun b h1 h2 => ?_) upd_same ?_
    · rw [List.take_add_one, List.getElem?_eq_getElem hlt]
      exact r2.append (.cons ru .nil)
    · rw [upd_ne h2, upd_ne h1]
      exact hH b h1 h2
    · rw [upd_ne (Ne.symm nqi), upd_same]

/-- list(o): __iter__ hands an iterator over a tuple out -/
def rListIt (K : PySem.W.Frag) (C : Addr) (sp : Sp) (E : XK) : List V → Hp → VK → Prop := fun xs H Q => ∃ a dx fs, xs = [.ref a] ∧ H a = some (.ins C dx fs) ∧
  ∀ q, H q = none → sp [.ref a] (upd H q (.lst [])) (fun v H' => ∃ it t zs, v = .ref it ∧ H' it = some (ItT t it 0) ∧ SqT K H' t zs ∧ t ≠ it ∧ t ≠ q ∧ q ≠ it ∧ H' q = some (.lst []) ∧ H' a = some (.ins C dx fs) ∧ zs.length ≤ 1000 ∧
    ∀ H'', (∀ b, b ≠ it → b ≠ q → H'' b = H' b) → H'' q = some (.lst zs) → H'' it ≠ none → Q (.ref q) H'') E
variable {CI : CXT} {C fi : Addr} {fdI : FuncData} {psI : List Str} {spI : Sp} {EI : XK} {n : Nat}
theorem extend_it {a dx q : Addr} {fs : List (Str × V)} {Hq : Hp} {Q : VK} (sb : Sub X n X.A.in1.in1) (hA : X.A.in1.handled = none) (hc : ItK X.K C fi) (FI : FnOk X.prog X.w X.K X.mg X.base CI n fi fdI psI spI) (bI : Binds X.K fdI psI []) (xI : Passes CI X EI) (I2 : Inv X pins σ Hq s) (hqq : Hq q = some (.lst [])) (ha2 : Hq a = some (.ins C dx fs))
    (hsp : spI [.ref a] Hq (fun v H' => ∃ it t zs, v = .ref it ∧ H' it = some (ItT t it 0) ∧ SqT X.K H' t zs ∧ t ≠ it ∧ t ≠ q ∧ q ≠ it ∧ H' q = some (.lst []) ∧ H' a = some (.ins C dx fs) ∧ zs.length ≤ 1000 ∧
      ∀ H'', (∀ b, b ≠ it → b ≠ q → H'' b = H' b) → H'' q = some (.lst zs) → H'' it ≠ none → Q (.ref q) H'') EI) :
    wpAny (model X.prog X.w) X.A.in1.in1 (Builtin.List.listExtendWith (.ref q) (.ref a) .none)
      (fun fin s' => match fin with | .done f => wants (fun r s₂ => r = .none ∧ EP X pins σ Q (.ref q) s₂) X.xe (.ok f) s' | .again c' => c'.quiet = true ∧ codeAny (model X.prog X.w) X.A.in1 c' (wants (fun r s₂ => r = .none ∧ EP X pins σ Q (.ref q) s₂) X.xe) s') (fun e s' => wants (fun r s₂ => r = .none ∧ EP X pins σ Q (.ref q) s₂) X.xe (.error e) s') s := by
  have hne : q ≠ a := ne_of hqq ha2 (fun z => nomatch z)
  obtain ⟨mA, J, _⟩ := ins_get I2.hok ha2
  obtain ⟨od, J, _⟩ := J.look
  obtain ⟨m0, hF⟩ := I2.fr
  unfold Builtin.List.listExtendWith
  refine wpAny_bind (J.type.here ?_)
  have h1 : Builtin.List.listSameRef (.ref q) (.ref a) = false := by simp [Builtin.List.listSameRef, hne]
  have h2 : (Value.ref C == Value.type "list") = false := rfl
  have h3 : (Value.ref C == Value.type "tuple") = false := rfl
  simp only [h1, h2, h3, Bool.or_false, Bool.false_eq_true, if_false]
  refine wpAny_bind (PySem.W.owit_iter hF I2.ok.mod.kin J hc.it hc.itF ?_)
  have e0 : Env0 X.prog X.w X.K X.mg X.base X.A.in1.in1 X.stack s Hq := by
    have e := I2.env0
    exact ⟨by rw [sb.fr]; exact e.frames, e.mod, e.bs, e.bsz, e.funs, e.frf, e.hok, e.bare⟩
  have hl := FI.len _ _ _ _ hsp
  have r2 : Vals [V.ref a] [Value.ref a] := .cons rfl .nil
  refine wpAny_call (codeAny_mono (FI.run X.A.in1.in1 X.stack s Hq ⟨[.ref a], []⟩ [.ref a] [.ref a] _ EI sb.room e0 (by
    have := bI s [.ref a] I2.kIn (by simpa using hl)
    simpa using this) r2 hsp) fun r s' hq' => ?_)
  cases r with
  | error e => exact xI pins σ Hq s e s' I2 hq'
  | ok fl =>
    cases fl with
    | next => exact False.elim hq'
    | brk => exact False.elim hq'
    | cont => exact False.elim hq'
    | ret u =>
      obtain ⟨v, H', I', rv, it, t, zs, ev, hit, hT, nti, ntq, nqi, hq2, ha', hz, q2⟩ := I2.after hq'
      subst ev
      cases rv
      unfold PySem.W.OwitIt
      have hty := (itT_get I' hit).typeIs (s := s')
      refine wpAny_specialOf hty F.slot_tuple_iterator_next.lookup ?_
      obtain ⟨mA', J', _⟩ := ins_get I'.hok ha'
      obtain ⟨od', J', _⟩ := J'.look
      refine wpAny_bind (wpAny_holding (hintK hc I'.kIn J' ?_))
      obtain ⟨z, its, k, r3, hl3, e3⟩ := I'.lstM hq2
      cases r3
      have hloop : ∀ s2, Inv X pins σ H' s2 → codeAny (model X.prog X.w) X.A.in1 (.builtin "list.extend.loop" ⟨[.ref q, .ref it, .none], []⟩) (wants (fun r s₂ => r = .none ∧ EP X pins σ Q (.ref q) s₂) X.xe) s2 := fun s2 I4 =>
        it_loop (A1 := X.A.in1) hA nqi nti hT ntq hz (fun H5 s5 I5 a1 a2 a3 => ⟨rfl, .ref q, H5, I5, rfl, q2 H5 a1 a2 a3⟩) _ 0 H' s2 rfl (Nat.zero_le _) I4 (fun _ _ _ => rfl) hq2 hit
      refine wpAny_ite_split (fun _ => ?_) (fun _ => wpAny_pure ⟨plainId_quiet PySem.F.plain_extend_loop _, hloop s' I'⟩)
      refine wpAny_bind (wpAny_rule ?_)
      refine wpAny_bind ?_
      show wpAny _ _ (updateSeq q (·.push .none) >>= fun _ => updateSeq q (·.pop)) _ _ _
      refine wpAny_bind (wpAny_updateSeq e3 rfl ?_)
      have I3 := I'.lset (f := (·.push Value.none)) (its' := [Value.none]) (ys := [.non]) (t' := s'.toks) hq2 e3 (by simp) (.cons rfl .nil) (by rw [List.length_singleton, sizeLine_eq]; decide)
      obtain ⟨z4, its4, k4, r4, hl4, e4⟩ := I3.lstM upd_same
      obtain ⟨u4, rfl, ru4⟩ := r4.one
      refine wpAny_updateSeq e4 rfl ?_ (by show 1 ≤ sizeLine; rw [sizeLine_eq]; decide) (by show 0 ≤ sizeLine + 1; exact Nat.zero_le _)
      refine wpAny_pure ⟨plainId_quiet PySem.F.plain_extend_loop _, hloop _ ?_⟩
      have I5 := I3.lset (f := (·.pop)) (its := [u4]) (its' := []) (ys := []) (t' := s'.toks) upd_same e4 (by rfl) .nil (Nat.zero_le _)
      rw [upd_upd] at I5
      have hH : upd H' q (.lst []) = H' := by
        funext b
        by_cases hb : b = q
        · rw [hb, upd_same, hq2]
        · rw [upd_ne hb]
      rw [hH] at I5
      exact I5
theorem call_listIt (hc : ItK X.K C fi) (FI : FnOk X.prog X.w X.K X.mg X.base CI n fi fdI psI spI) (bI : Binds X.K fdI psI []) (xI : Passes CI X EI) (hr : Room (n + 2) X.A) : CallR X (.type "list") (rListIt X.K C spI EI) := by
  intro pins s σ H xs us Q I rv h
  obtain ⟨a, dx, fs, rfl, ha, hq⟩ := h
  obtain ⟨u, rfl, ru⟩ := rv.one
  cases ru
  have sb : Sub X n X.A.in1.in1 := (Sub.in1 (Sub.in1 (⟨hr, rfl⟩ : Sub X (n + 2) X.A)))
  refine callType_codes (Q₁ := fun obj s₁ => obj = .ref s.heap.objs.size ∧ s₁ = { s with heap := s.heap.push { cls := .type "list", data := .seq #[] } }) PySem.F.called_list (PySem.F.typeCall_list_1 _) PySem.F.entry_list_init
    (code_list_new _ ⟨rfl, rfl⟩) fun obj s₁ h₁ => ?_
  obtain ⟨rfl, rfl⟩ := h₁
  have hS : (s.heap.push { cls := .type "list", data := .seq #[] }).get? s.heap.objs.size = some { cls := .type "list", data := .seq #[] } := Heap.get?_push_size _ rfl
  refine ⟨⟨_, hS, rfl⟩, PySem.F.args_list_init_2 _ _, ?_⟩
  have fr : H s.heap.objs.size = none := I.hok.fresh (Nat.le_refl _)
  have hsp := hq _ fr
  have I1 : Inv X pins σ (upd H s.heap.objs.size (.lst [])) { s with heap := s.heap.push { cls := .type "list", data := .seq #[] } } := I.lnew (its := []) (t' := s.toks) .nil (Nat.zero_le _)
  show wpAny _ _ (do let old ← Builtin.List.listItems (.ref s.heap.objs.size); Builtin.List.listUpdate (.ref s.heap.objs.size) (fun _ => #[]); letGo old.toList.reverse; Builtin.List.listExtendWith (.ref s.heap.objs.size) (.ref a) .none) _ _ _
  refine wpAny_bind ?_
  unfold Builtin.List.listItems
  refine wpAny_bind (wpAny_seqItems hS rfl (wpAny_pure ?_))
  show wpAny _ _ (updateSeq s.heap.objs.size (fun _ => #[]) >>= fun _ => letGo (#[] : Array Value).toList.reverse >>= fun _ => Builtin.List.listExtendWith (.ref s.heap.objs.size) (.ref a) .none) _ _ _
  refine wpAny_bind (wpAny_updateSeq hS rfl ?_)
  have I2 := I1.lset (f := fun _ => #[]) (its := []) (its' := []) (ys := []) (t' := s.toks) upd_same hS rfl .nil (Nat.zero_le _)
  rw [upd_upd] at I2
  refine wpAny_bind (wpAny_letGo ?_)
  have ha2 : upd H s.heap.objs.size (.lst []) a = some (.ins C dx fs) := by rw [upd_ne (ne_of_none ha fr)]; exact ha
  exact extend_it sb hr.hd hc FI bI xI I2 upd_same ha2 hsp
end
end D

namespace D
open PySem PySem.Spec PyProof.Rows L2
/-! ### texts as rows of signs -/
abbrev sg (z : Str) : List Nat := z.cps.toList
theorem sg_len (z : Str) : (sg z).length = z.length := Array.length_toList
theorem sg_ext {a b : Str} (h : sg a = sg b) : a = b := by
  cases a
  cases b
  congr 1
  exact Array.toList_inj.mp h
theorem sg_app (a b : Str) : sg (a ++ b) = sg a ++ sg b := Array.toList_append
theorem sg_one (c : Nat) : sg ⟨#[c]⟩ = [c] := rfl
theorem sg_cut (z : Str) (k : Nat) : sg (cutS z none (some (k : Int))) = (sg z).take k := by
  unfold cutS
  show ((z.cps.toList.drop 0).take (HT.sIx z.length z.length (some (k : Int)) - 0)) = _
  rw [HT.sIx_nat, List.drop_zero, Nat.sub_zero, ← sg_len]
  by_cases c : k ≤ (sg z).length
  · rw [Nat.min_eq_left c]
  · rw [Nat.min_eq_right (by omega), List.take_of_length_le (Nat.le_refl _), List.take_of_length_le (by omega)]
theorem sg_from (z : Str) (k : Nat) : sg (cutS z (some (k : Int)) none) = (sg z).drop k := by
  unfold cutS
  show ((z.cps.toList.drop (HT.sIx z.length 0 (some (k : Int)))).take (HT.sIx z.length z.length none - HT.sIx z.length 0 (some (k : Int)))) = _
  rw [HT.sIx_nat, HT.sIx_none, ← sg_len]
  by_cases c : k ≤ (sg z).length
  · rw [Nat.min_eq_left c, List.take_of_length_le (by rw [List.length_drop]; exact Nat.le_refl _)]
  · rw [Nat.min_eq_right (by omega), List.drop_of_length_le (Nat.le_refl _), List.drop_of_length_le (by omega)]
    simp
theorem sg_join0 : ∀ ys : List Str, sg (Str.join (Str.ofString "") ys) = (ys.map sg).flatten
  | [] => rfl
  | [y] => by
    show sg y = _
    simp
  | x :: y :: r => by
    show sg (x ++ (Str.ofString "") ++ Str.join (Str.ofString "") (y :: r)) = _
    rw [sg_app, sg_app, sg_join0 (y :: r), show sg (Str.ofString "") = [] from by decide +kernel]
    simp
end D

namespace D
open PySem PySem.Spec PyProof.Rows L2
/-! ### errors whose suites call defs -/
section
variable {X : Cx} {e : Expr} {es : List Expr} {ta : TA} {p pos : Pos}
/-- the making of an own error, outside of a suite, for the ways out that tell its context -/
theorem pmk_oexN {CX : CXT} {x : Str} {C fI : Addr} {k : Nat} {fd : FuncData} {ps : List Str} {sp : Sp} {ds : List Value} {dvs : List V} (T : OexC X.K C) (iC : PySem.W.findIn X.K (.ref C) "__init__" = some (some (.ref fI))) (tI : PySem.W.typeIn X.K (.ref fI) = some (.type "function"))
    (F1 : FnOk X.prog X.w X.K X.mg X.base CX k fI fd ps sp) (hr : Room (k + 1) X.A) (hb : Binds X.K fd ps ds) (hd : Vals dvs ds) (hx : Passes CX X (fun _ _ _ => False)) (hg : Gl X x) (hm : X.mg x = some (.ref C)) (ha : PA X (e :: es) ta)
    (hdb : (x == ("__debug__" : Str)) = false := by decide) (he : starEach (e :: es) X.env = (false, eval e X.env) :: starEach es X.env := by rfl) (hpl : (backTo pos (starEach es X.env)).any (·.1) = false := by rfl) :
    L2N.PMk X (.Call (.Name x p) (e :: es) [] pos) (tMkO C sp dvs ta) := by
  intro pins s σ H Q I h
  obtain ⟨nm, q, N, bs, bm, sn, sub, ab, col, dd, k0, k1, k2, k3, k5, hC, hbm⟩ := T.cls
  refine wpAny_Call_Name_kw (ld_glob I hg hm ?_ hdb)
  refine PySem.W.callWith_K (h₀ := X.base) I.ok.mod.kin T.kC (thn (ha.run pos pins s σ H _ I h) fun us s1 ⟨vs, H1, I1, r1, hz, q1⟩ => ⟨I1.kIn, ?_⟩) he hpl
  show wpAny _ _ (call (.ref C) us) _ _ _
  obtain ⟨hp, g, dr, tk, os⟩ := s1
  have hsz : hp.objs.size ≤ hp.objs.size + 1 := Nat.le_succ _
  have hn : H1 (hp.objs.size + 1) = none := I1.hok.fresh hsz
  have hq := q1 (hp.objs.size + 1) hn
  have kk : ∀ b o, hp.get? b = some o → ((hp.push (PySem.W.kdv_tup us)).push (PySem.HandSPX.excO C hp.objs.size)).get? b = some o := fun b o e => Heap.get?_push_of_some _ (Heap.get?_push_of_some _ e)
  have hget : ((hp.push (PySem.W.kdv_tup us)).push (PySem.HandSPX.excO C hp.objs.size)).get? (hp.objs.size + 1) = some (PySem.HandSPX.excO C hp.objs.size) := by heap_get
  have I2 : Inv X pins σ (upd H1 (hp.objs.size + 1) (exo (hp.objs.size + 1) C none)) ⟨(hp.push (PySem.W.kdv_tup us)).push (PySem.HandSPX.excO C hp.objs.size), g, dr, tk, os⟩ :=
    I1.laid (t' := tk) (a := hp.objs.size + 1) (o := exo (hp.objs.size + 1) C none) (h' := (hp.push (PySem.W.kdv_tup us)).push (PySem.HandSPX.excO C hp.objs.size)) kk hsz (exo_ok hget)
  have r2 : Vals (V.ref (hp.objs.size + 1) :: (vs ++ dvs)) (Value.ref (hp.objs.size + 1) :: (us ++ ds)) := .cons rfl (r1.append hd)
  have hl : (Value.ref (hp.objs.size + 1) :: us ++ ds).length = ps.length := by
    have e := r2.length
    rw [F1.len _ _ _ _ hq] at e
    exact e.symm
  have hus : us.length ≤ sizeLine := by
    rw [← Paired.length r1, sizeLine_eq]
    omega
  refine wpAny_call (PySem.HandSPX.call_own F.excBase_ValueError (fun Y => PySem.HandSPX.refsVE_contains Y bm hbm) (I1.kIn _ _ hC) (PySem.W.looks_findIn I1.kIn iC) (fun self => PySem.W.bind_fn I1.kIn self tI) hus
    (codeAny_mono (F1.run _ X.stack _ _ ⟨Value.ref (hp.objs.size + 1) :: us, []⟩ (Value.ref (hp.objs.size + 1) :: (us ++ ds)) _ _ (fun _ _ _ => False) (hr.make C us []) (I2.env0.make C us []) (hb _ (Value.ref (hp.objs.size + 1) :: us) I2.kIn hl) r2 hq) fun r s' hq' => ?_))
  cases r with
  | error er => exact hx pins σ _ _ er s' I2 hq'
  | ok fl =>
    cases fl with
    | ret u =>
      obtain ⟨v, H2, os2, bare2, un2, hok2, rv, ev, d, fs, ea, ed, hd1, q2⟩ := hq'
      subst ev
      obtain ⟨h2, g2, d2, t2, os'⟩ := s'
      obtain ⟨t0, G, J, kG, ge, hoe, na⟩ := mk_end0 (d2 := d2) (t2 := t2) I1 hsz kk un2 hok2 os2 bare2 ea ed hd1
      refine ⟨rv, ⟨hp.objs.size + 1, _, _, ⟨G, g2, d2, t2, os'⟩, _, .ref C, some d, rfl, J, kG, ge, hoe, ⟨rfl, rfl, fun vs hv => ?_⟩, rfl, rfl, na, rfl, bare2, raises_own T.exC T.tyC, q2⟩⟩
      cases hv
      rfl
    | next => exact False.elim hq'
    | brk => exact False.elim hq'
    | cont => exact False.elim hq'
end
section
variable {P : Program} {w : World} {K : PySem.W.Frag} {mg : Str → Option Value} {base : Heap}
/-- as Fun.okX, for the ways out that tell the error's context -/
theorem Fun.okXN {x qual : Str} {st : Stmt} {f : Addr} {fd : FuncData} {N ps : List Str} {k : Nat} {sp : Sp} (F : Fun K x qual st f fd) (S : FnScope N ps (defScope st)) (len : ∀ vs H Q E, sp vs H Q E → vs.length = ps.length)
    (hbody : ∀ (cdv : Value) (A : Around) (outer : List Env) (s : Shared) (H : Hp) (vs : List V) (Q : VK) (E : XK), Room k (A.deeper (envOfC qual (defScope st) s.heap.objs.size f cdv)) → sp vs H Q E →
      ∃ t, PSs (cxOf (L2N.CX P w) P w K mg base N qual (defScope st) f cdv A outer s H E) (defBody st) t ∧ t { nx := fun _ H' => Q .non H', rt := Q } (start N vs) H) : FnOk P w K mg base (L2N.CX P w) (k + 1) f fd ps sp := by
  obtain ⟨oc, od, kV, doc, pm, an, cdv, ct, osl, rfl, lk, hcd⟩ := F.ex
  exact fn_of lk hcd S len fun A outer s H vs Q E hr hsp => hbody cdv A outer s H vs Q E hr hsp
theorem takes0N {X : Cx} : L2N.Takes X (fun _ _ _ _ => False) := fun _ _ x => by
  obtain ⟨_, _, _, _, _, _, _, _, _, _, _, _, _, _, _, _, z⟩ := x
  exact z.elim
/-- as Fun.ok, for a def that is called in an except suite -/
theorem Fun.okH {x qual : Str} {st : Stmt} {f : Addr} {fd : FuncData} {N ps : List Str} {k : Nat} {sp : Sp} (F : Fun K x qual st f fd) (S : FnScope N ps (defScope st)) (len : ∀ vs H Q E, sp vs H Q E → vs.length = ps.length)
    (hbody : ∀ (cdv : Value) (A : Around) (outer : List Env) (s : Shared) (H : Hp) (vs : List V) (Q : VK) (E : XK) (p : Addr × Obj), L2H.RoomH k (A.deeper (envOfC qual (defScope st) s.heap.objs.size f cdv)) → sp vs H Q E →
      ∃ t, PSs (L2H.cxH CX0 P w K mg base N qual (defScope st) f cdv A outer s H E p) (defBody st) t ∧ t { nx := fun _ H' => Q .non H', rt := Q } (start N vs) H) : L2H.FnH P w K mg base CX0 (k + 1) f fd ps sp := by
  obtain ⟨oc, od, kV, doc, pm, an, cdv, ct, osl, rfl, lk, hcd⟩ := F.ex
  exact L2H.fn_ofH lk hcd S len fun A outer s H vs Q E p hot hr hsp => hbody cdv A outer s H vs Q E p hr hsp
theorem hot_suite {X : Cx} {a : Addr} {oe : Obj} {cls : Value} {d : Option Addr} {pn : List (Addr × Obj)} (hz : L2N.Zn cls d oe) (hf : ∃ vs, oe.data = .fields vs) : L2H.HotC (X.suite a ((a, oe) :: pn)) := by
  obtain ⟨vs, hv⟩ := hf
  exact ⟨(a, oe), ⟨rfl, vs, hv, hz.2.2 vs hv⟩, List.mem_cons_self⟩
theorem room_suite {k j : Nat} {A : Around} (r : Room k A) (h : j ≤ k) (v : Option Value) : L2H.RoomH j (A.mark v) := L2H.RoomH.mono ⟨r.dp, r.un⟩ h
theorem passH {X : Cx} {E : L2.St → XK} : ∀ σ, PassesAt CX0 X σ (E σ) := fun _ _ _ _ _ _ _ h => h.elim
end
end D

namespace D
open PySem PySem.Spec PyProof.Rows L2
local macro_rules | `(tactic| walk_at "st") => `(tactic| first | exact SqT.of (by assumption) | exact Or.inl (by assumption) | exact SqT.of upd_same | fail "st")
local macro_rules | `(tactic| walk_at "ixt") => `(tactic| refine ⟨_, _, _, _, rfl, rfl, (by walk_at "st" : SqT _ _ _ _), by rfl, ?_⟩)
local macro_rules | `(tactic| walk_at "sq") => `(tactic| first | exact SqL.of (by assumption) | assumption | exact Or.inl (by assumption) | exact SqL.of upd_same | fail "sq")
local macro_rules | `(tactic| walk_at "ix") => `(tactic| refine ⟨_, _, _, _, rfl, rfl, (by walk_at "sq" : SqL _ _ _ _), by rfl, ?_⟩)
local macro_rules | `(tactic| walk_at "set") => `(tactic| refine ⟨_, _, _, _, rfl, rfl, by first | assumption | exact upd_same, by rfl, ?_⟩)
local macro_rules | `(tactic| walk_at "len") => `(tactic| refine ⟨_, _, rfl, Or.inl (by walk_at "sq" : SqL _ _ _ _), ?_⟩)
local macro_rules | `(tactic| walk_at "g") => `(tactic| repeat (first | refine ⟨_, rfl, ?_⟩ | refine ⟨_, _, rfl, rfl, ?_⟩ | refine ⟨Or.inr (by decide), ?_⟩ | refine ⟨Or.inl (by decide), ?_⟩ | refine ⟨(by decide : (0 : Int) < _), ?_⟩ | refine ⟨(⟨by decide, by decide⟩ : CDiv _ _), ?_⟩ | refine ⟨(⟨by decide, by decide, by decide⟩ : CPow _ _), ?_⟩ | refine Or.inl ⟨_, rfl, ?_⟩ | refine ⟨rfl, ?_⟩ | walk_at "ix" | walk_at "ixt" | walk_at "len" | fail "g"))
local macro_rules | `(tactic| walk_at "if") => `(tactic| refine ite2 (fun e => ?_) (fun e => ?_))
def topS (i : Nat) : Stmt := PySem.Challenge.pw_drawnanew_k44_line_entries.main.body.getD i (.Pass ⟨0, 0, 0, 0⟩)
abbrev s_BadFence___init__ : Stmt := inClass (topS 2) 0
theorem sc_BadFence___init__ : FnScope ["self", "fence"] ["self", "fence"] (defScope s_BadFence___init__) := ⟨rfl, rfl, rfl, by decide +kernel, rfl, by decide +kernel, by decide +kernel⟩
abbrev s_NoAnswer___init__ : Stmt := inClass (topS 3) 0
theorem sc_NoAnswer___init__ : FnScope ["self", "number"] ["self", "number"] (defScope s_NoAnswer___init__) := ⟨rfl, rfl, rfl, by decide +kernel, rfl, by decide +kernel, by decide +kernel⟩
abbrev s_is_whole : Stmt := topS 5
theorem sc_is_whole : FnScope ["thing"] ["thing"] (defScope s_is_whole) := ⟨rfl, rfl, rfl, by decide +kernel, rfl, by decide +kernel, by decide +kernel⟩
abbrev s_Entry___init__ : Stmt := inClass (topS 7) 0
theorem sc_Entry___init__ : FnScope ["self", "owner", "word", "who", "ticket", "question", "answer"] ["self", "owner", "word", "who", "ticket", "question", "answer"] (defScope s_Entry___init__) := ⟨rfl, rfl, rfl, by decide +kernel, rfl, by decide +kernel, by decide +kernel⟩
abbrev s_Line___init__ : Stmt := inClass (topS 8) 0
theorem sc_Line___init__ : FnScope ["self", "far", "room"] ["self", "far", "room"] (defScope s_Line___init__) := ⟨rfl, rfl, rfl, by decide +kernel, rfl, by decide +kernel, by decide +kernel⟩
abbrev s_Line_edition : Stmt := inClass (topS 8) 1
theorem sc_Line_edition : FnScope ["self"] ["self"] (defScope s_Line_edition) := ⟨rfl, rfl, rfl, by decide +kernel, rfl, by decide +kernel, by decide +kernel⟩
abbrev s_Line_send : Stmt := inClass (topS 8) 2
theorem sc_Line_send : FnScope ["self", "owner", "word", "who", "question", "entry"] ["self", "owner", "word", "who", "question"] (defScope s_Line_send) := ⟨rfl, rfl, rfl, by decide +kernel, rfl, by decide +kernel, by decide +kernel⟩
abbrev s_Line_take : Stmt := inClass (topS 8) 3
theorem sc_Line_take : FnScope ["self", "number"] ["self", "number"] (defScope s_Line_take) := ⟨rfl, rfl, rfl, by decide +kernel, rfl, by decide +kernel, by decide +kernel⟩
abbrev s_Line_entries : Stmt := inClass (topS 8) 4
theorem sc_Line_entries : FnScope ["self"] ["self"] (defScope s_Line_entries) := ⟨rfl, rfl, rfl, by decide +kernel, rfl, by decide +kernel, by decide +kernel⟩
abbrev s_Line_turn : Stmt := inClass (topS 8) 5
theorem sc_Line_turn : FnScope ["self"] ["self"] (defScope s_Line_turn) := ⟨rfl, rfl, rfl, by decide +kernel, rfl, by decide +kernel, by decide +kernel⟩
abbrev s_Line_has_next : Stmt := inClass (topS 8) 6
theorem sc_Line_has_next : FnScope ["self"] ["self"] (defScope s_Line_has_next) := ⟨rfl, rfl, rfl, by decide +kernel, rfl, by decide +kernel, by decide +kernel⟩
abbrev s_Line_copy : Stmt := inClass (topS 8) 7
theorem sc_Line_copy : FnScope ["self", "twin"] ["self"] (defScope s_Line_copy) := ⟨rfl, rfl, rfl, by decide +kernel, rfl, by decide +kernel, by decide +kernel⟩
abbrev s__law_mixed : Stmt := topS 10
theorem sc__law_mixed : FnScope ["_law_number_here", "_law_turn", "_law_first", "_law_second"] ["_law_number_here", "_law_turn"] (defScope s__law_mixed) := ⟨rfl, rfl, rfl, by decide +kernel, rfl, by decide +kernel, by decide +kernel⟩
abbrev s__law_bag : Stmt := topS 11
theorem sc__law_bag : FnScope ["_law_script", "_law_cell", "_law_numbers", "_law_seed", "_law_at"] ["_law_script"] (defScope s__law_bag) := ⟨rfl, rfl, rfl, by decide +kernel, rfl, by decide +kernel, by decide +kernel⟩
abbrev s__law_pick : Stmt := topS 12
theorem sc__law_pick : FnScope ["_law_bag_here", "_law_many", "_law_turn", "_law_cell", "_law_worth"] ["_law_bag_here", "_law_many"] (defScope s__law_pick) := ⟨rfl, rfl, rfl, by decide +kernel, rfl, by decide +kernel, by decide +kernel⟩
abbrev s__law_number : Stmt := topS 13
theorem sc__law_number : FnScope ["_law_thing"] ["_law_thing"] (defScope s__law_number) := ⟨rfl, rfl, rfl, by decide +kernel, rfl, by decide +kernel, by decide +kernel⟩
abbrev s__law_new_name : Stmt := topS 14
theorem sc__law_new_name : FnScope ["_law_bag_here", "_law_used", "_law_letters", "_law_told", "_law_near", "_law_at", "_law_tails", "_law_step_here", "_law_k", "_law_tail"] ["_law_bag_here", "_law_used"] (defScope s__law_new_name) := ⟨rfl, rfl, rfl, by decide +kernel, rfl, by decide +kernel, by decide +kernel⟩
abbrev s__law_step : Stmt := topS 15
theorem sc__law_step : FnScope ["_law_bag_here", "_law_number_here"] ["_law_bag_here"] (defScope s__law_step) := ⟨rfl, rfl, rfl, by decide +kernel, rfl, by decide +kernel, by decide +kernel⟩
abbrev s__law_owner : Stmt := topS 16
theorem sc__law_owner : FnScope ["_law_bag_here", "_law_owners", "_law_steps", "_law_step_here"] ["_law_bag_here", "_law_owners"] (defScope s__law_owner) := ⟨rfl, rfl, rfl, by decide +kernel, rfl, by decide +kernel, by decide +kernel⟩
abbrev s__law_store : Stmt := topS 17
theorem sc__law_store : FnScope ["_law_bag_here", "_law_out", "_law_edition", "_law_question"] ["_law_bag_here"] (defScope s__law_store) := ⟨rfl, rfl, rfl, by decide +kernel, rfl, by decide +kernel, by decide +kernel⟩
abbrev s__law_same_entry : Stmt := topS 18
theorem sc__law_same_entry : FnScope ["_law_entry", "_law_row"] ["_law_entry", "_law_row"] (defScope s__law_same_entry) := ⟨rfl, rfl, rfl, by decide +kernel, rfl, by decide +kernel, by decide +kernel⟩
abbrev s__law_same_line : Stmt := topS 19
theorem sc__law_same_line : FnScope ["_law_line", "_law_model", "_law_told", "_law_entry", "_law_row"] ["_law_line", "_law_model"] (defScope s__law_same_line) := ⟨rfl, rfl, rfl, by decide +kernel, rfl, by decide +kernel, by decide +kernel⟩
abbrev s__law_sent : Stmt := topS 20
theorem sc__law_sent : FnScope ["_law_bag_here", "_law_line", "_law_model", "_law_owners", "_law_words", "_law_owner_here", "_law_word", "_law_who", "_law_question", "_law_row"] ["_law_bag_here", "_law_line", "_law_model", "_law_owners", "_law_words"] (defScope s__law_sent) := ⟨rfl, rfl, rfl, by decide +kernel, rfl, by decide +kernel, by decide +kernel⟩
abbrev s__law_refused : Stmt := topS 21
theorem sc__law_refused : FnScope ["_law_line", "_law_number_here", "error"] ["_law_line", "_law_number_here"] (defScope s__law_refused) := ⟨rfl, rfl, rfl, by decide +kernel, rfl, by decide +kernel, by decide +kernel⟩
abbrev s__law_taken : Stmt := topS 22
theorem sc__law_taken : FnScope ["_law_bag_here", "_law_line", "_law_model", "_law_number_here", "_law_row"] ["_law_bag_here", "_law_line", "_law_model"] (defScope s__law_taken) := ⟨rfl, rfl, rfl, by decide +kernel, rfl, by decide +kernel, by decide +kernel⟩
abbrev s__law_turned : Stmt := topS 23
theorem sc__law_turned : FnScope ["_law_line", "_law_model", "_law_due", "_law_told"] ["_law_line", "_law_model"] (defScope s__law_turned) := ⟨rfl, rfl, rfl, by decide +kernel, rfl, by decide +kernel, by decide +kernel⟩
abbrev s__law_deed : Stmt := topS 24
theorem sc__law_deed : FnScope ["_law_bag_here", "_law_line", "_law_model", "_law_owners", "_law_words", "_law_way", "_law_told"] ["_law_bag_here", "_law_line", "_law_model", "_law_owners", "_law_words"] (defScope s__law_deed) := ⟨rfl, rfl, rfl, by decide +kernel, rfl, by decide +kernel, by decide +kernel⟩
abbrev s__law_new_model : Stmt := topS 25
theorem sc__law_new_model : FnScope ["_law_bag_here"] ["_law_bag_here"] (defScope s__law_new_model) := ⟨rfl, rfl, rfl, by decide +kernel, rfl, by decide +kernel, by decide +kernel⟩
abbrev s_law : Stmt := topS 26
theorem sc_law : FnScope ["_law_script", "_law_bag_here", "_law_words", "_law_owners", "_law_step_here", "_law_models", "_law_model", "_law_lines", "_law_turn", "_law_at", "_law_line", "_law_row"] ["_law_script"] (defScope s_law) := ⟨rfl, rfl, rfl, by decide +kernel, rfl, by decide +kernel, by decide +kernel⟩

structure Txt (K : PySem.W.Frag) (mg : Str → Option Value) where
  f_is_whole : Addr
  d_is_whole : FuncData
  F_is_whole : Fun K "is_whole" "is_whole" s_is_whole f_is_whole d_is_whole
  b_is_whole : Binds K d_is_whole ["thing"] []
  g_is_whole : mg "is_whole" = some (.ref f_is_whole)
  f__law_mixed : Addr
  d__law_mixed : FuncData
  F__law_mixed : Fun K "_law_mixed" "_law_mixed" s__law_mixed f__law_mixed d__law_mixed
  b__law_mixed : Binds K d__law_mixed ["_law_number_here", "_law_turn"] []
  g__law_mixed : mg "_law_mixed" = some (.ref f__law_mixed)
  f__law_bag : Addr
  d__law_bag : FuncData
  F__law_bag : Fun K "_law_bag" "_law_bag" s__law_bag f__law_bag d__law_bag
  b__law_bag : Binds K d__law_bag ["_law_script"] []
  g__law_bag : mg "_law_bag" = some (.ref f__law_bag)
  f__law_pick : Addr
  d__law_pick : FuncData
  F__law_pick : Fun K "_law_pick" "_law_pick" s__law_pick f__law_pick d__law_pick
  b__law_pick : Binds K d__law_pick ["_law_bag_here", "_law_many"] []
  g__law_pick : mg "_law_pick" = some (.ref f__law_pick)
  f__law_number : Addr
  d__law_number : FuncData
  F__law_number : Fun K "_law_number" "_law_number" s__law_number f__law_number d__law_number
  b__law_number : Binds K d__law_number ["_law_thing"] []
  g__law_number : mg "_law_number" = some (.ref f__law_number)
  f__law_new_name : Addr
  d__law_new_name : FuncData
  F__law_new_name : Fun K "_law_new_name" "_law_new_name" s__law_new_name f__law_new_name d__law_new_name
  b__law_new_name : Binds K d__law_new_name ["_law_bag_here", "_law_used"] []
  g__law_new_name : mg "_law_new_name" = some (.ref f__law_new_name)
  f__law_step : Addr
  d__law_step : FuncData
  F__law_step : Fun K "_law_step" "_law_step" s__law_step f__law_step d__law_step
  b__law_step : Binds K d__law_step ["_law_bag_here"] []
  g__law_step : mg "_law_step" = some (.ref f__law_step)
  f__law_owner : Addr
  d__law_owner : FuncData
  F__law_owner : Fun K "_law_owner" "_law_owner" s__law_owner f__law_owner d__law_owner
  b__law_owner : Binds K d__law_owner ["_law_bag_here", "_law_owners"] []
  g__law_owner : mg "_law_owner" = some (.ref f__law_owner)
  f__law_store : Addr
  d__law_store : FuncData
  F__law_store : Fun K "_law_store" "_law_store" s__law_store f__law_store d__law_store
  b__law_store : Binds K d__law_store ["_law_bag_here"] []
  g__law_store : mg "_law_store" = some (.ref f__law_store)
  f__law_same_entry : Addr
  d__law_same_entry : FuncData
  F__law_same_entry : Fun K "_law_same_entry" "_law_same_entry" s__law_same_entry f__law_same_entry d__law_same_entry
  b__law_same_entry : Binds K d__law_same_entry ["_law_entry", "_law_row"] []
  g__law_same_entry : mg "_law_same_entry" = some (.ref f__law_same_entry)
  f__law_same_line : Addr
  d__law_same_line : FuncData
  F__law_same_line : Fun K "_law_same_line" "_law_same_line" s__law_same_line f__law_same_line d__law_same_line
  b__law_same_line : Binds K d__law_same_line ["_law_line", "_law_model"] []
  g__law_same_line : mg "_law_same_line" = some (.ref f__law_same_line)
  f__law_sent : Addr
  d__law_sent : FuncData
  F__law_sent : Fun K "_law_sent" "_law_sent" s__law_sent f__law_sent d__law_sent
  b__law_sent : Binds K d__law_sent ["_law_bag_here", "_law_line", "_law_model", "_law_owners", "_law_words"] []
  g__law_sent : mg "_law_sent" = some (.ref f__law_sent)
  f__law_refused : Addr
  d__law_refused : FuncData
  F__law_refused : Fun K "_law_refused" "_law_refused" s__law_refused f__law_refused d__law_refused
  b__law_refused : Binds K d__law_refused ["_law_line", "_law_number_here"] []
  g__law_refused : mg "_law_refused" = some (.ref f__law_refused)
  f__law_taken : Addr
  d__law_taken : FuncData
  F__law_taken : Fun K "_law_taken" "_law_taken" s__law_taken f__law_taken d__law_taken
  b__law_taken : Binds K d__law_taken ["_law_bag_here", "_law_line", "_law_model"] []
  g__law_taken : mg "_law_taken" = some (.ref f__law_taken)
  f__law_turned : Addr
  d__law_turned : FuncData
  F__law_turned : Fun K "_law_turned" "_law_turned" s__law_turned f__law_turned d__law_turned
  b__law_turned : Binds K d__law_turned ["_law_line", "_law_model"] []
  g__law_turned : mg "_law_turned" = some (.ref f__law_turned)
  f__law_deed : Addr
  d__law_deed : FuncData
  F__law_deed : Fun K "_law_deed" "_law_deed" s__law_deed f__law_deed d__law_deed
  b__law_deed : Binds K d__law_deed ["_law_bag_here", "_law_line", "_law_model", "_law_owners", "_law_words"] []
  g__law_deed : mg "_law_deed" = some (.ref f__law_deed)
  f__law_new_model : Addr
  d__law_new_model : FuncData
  F__law_new_model : Fun K "_law_new_model" "_law_new_model" s__law_new_model f__law_new_model d__law_new_model
  b__law_new_model : Binds K d__law_new_model ["_law_bag_here"] []
  g__law_new_model : mg "_law_new_model" = some (.ref f__law_new_model)
  f_law : Addr
  d_law : FuncData
  F_law : Fun K "law" "law" s_law f_law d_law
  b_law : Binds K d_law ["_law_script"] []
  g_law : mg "law" = some (.ref f_law)
  C_Entry : Addr
  g_Entry : mg "Entry" = some (.ref C_Entry)
  cl_Entry : Cls K C_Entry
  mk_Entry : PySem.W.makesIn K C_Entry = true
  kc_Entry : PySem.W.keepIn K (.ref C_Entry) = true
  nf_Entry : PySem.W.notFirst K C_Entry (.ref C_Entry) = true
  in_Entry : C8.InsC K C_Entry
  nA_Entry_answer : NoAttr K C_Entry "answer"
  nA_Entry_owner : NoAttr K C_Entry "owner"
  nA_Entry_question : NoAttr K C_Entry "question"
  nA_Entry_ticket : NoAttr K C_Entry "ticket"
  nA_Entry_who : NoAttr K C_Entry "who"
  nA_Entry_word : NoAttr K C_Entry "word"
  f_Entry___init__ : Addr
  d_Entry___init__ : FuncData
  F_Entry___init__ : Fun K "__init__" "Entry.__init__" s_Entry___init__ f_Entry___init__ d_Entry___init__
  b_Entry___init__ : Binds K d_Entry___init__ ["self", "owner", "word", "who", "ticket", "question", "answer"] []
  a_Entry___init__ : PySem.W.findIn K (.ref C_Entry) "__init__" = some (some (.ref f_Entry___init__))
  i_Entry___init__ : PySem.W.isFn K (.ref f_Entry___init__) = true
  n_Entry___init__ : PySem.W.fnIn K f_Entry___init__ = true
  C_Line : Addr
  g_Line : mg "Line" = some (.ref C_Line)
  cl_Line : Cls K C_Line
  mk_Line : PySem.W.makesIn K C_Line = true
  kc_Line : PySem.W.keepIn K (.ref C_Line) = true
  nf_Line : PySem.W.notFirst K C_Line (.ref C_Line) = true
  in_Line : C8.InsC K C_Line
  nA_Line__edition : NoAttr K C_Line "_edition"
  nA_Line__entries : NoAttr K C_Line "_entries"
  nA_Line__far : NoAttr K C_Line "_far"
  nA_Line__room : NoAttr K C_Line "_room"
  nA_Line__tickets : NoAttr K C_Line "_tickets"
  f_Line___init__ : Addr
  d_Line___init__ : FuncData
  F_Line___init__ : Fun K "__init__" "Line.__init__" s_Line___init__ f_Line___init__ d_Line___init__
  b_Line___init__ : Binds K d_Line___init__ ["self", "far", "room"] []
  a_Line___init__ : PySem.W.findIn K (.ref C_Line) "__init__" = some (some (.ref f_Line___init__))
  i_Line___init__ : PySem.W.isFn K (.ref f_Line___init__) = true
  n_Line___init__ : PySem.W.fnIn K f_Line___init__ = true
  f_Line_edition : Addr
  d_Line_edition : FuncData
  F_Line_edition : Fun K "edition" "Line.edition" s_Line_edition f_Line_edition d_Line_edition
  b_Line_edition : Binds K d_Line_edition ["self"] []
  p_Line_edition : Addr
  P_Line_edition : PropOf K C_Line "edition" p_Line_edition f_Line_edition
  f_Line_send : Addr
  d_Line_send : FuncData
  F_Line_send : Fun K "send" "Line.send" s_Line_send f_Line_send d_Line_send
  b_Line_send : Binds K d_Line_send ["self", "owner", "word", "who", "question"] []
  a_Line_send : PySem.W.findIn K (.ref C_Line) "send" = some (some (.ref f_Line_send))
  i_Line_send : PySem.W.isFn K (.ref f_Line_send) = true
  n_Line_send : PySem.W.fnIn K f_Line_send = true
  f_Line_take : Addr
  d_Line_take : FuncData
  F_Line_take : Fun K "take" "Line.take" s_Line_take f_Line_take d_Line_take
  b_Line_take : Binds K d_Line_take ["self", "number"] []
  a_Line_take : PySem.W.findIn K (.ref C_Line) "take" = some (some (.ref f_Line_take))
  i_Line_take : PySem.W.isFn K (.ref f_Line_take) = true
  n_Line_take : PySem.W.fnIn K f_Line_take = true
  f_Line_entries : Addr
  d_Line_entries : FuncData
  F_Line_entries : Fun K "entries" "Line.entries" s_Line_entries f_Line_entries d_Line_entries
  b_Line_entries : Binds K d_Line_entries ["self"] []
  a_Line_entries : PySem.W.findIn K (.ref C_Line) "entries" = some (some (.ref f_Line_entries))
  i_Line_entries : PySem.W.isFn K (.ref f_Line_entries) = true
  n_Line_entries : PySem.W.fnIn K f_Line_entries = true
  f_Line_turn : Addr
  d_Line_turn : FuncData
  F_Line_turn : Fun K "turn" "Line.turn" s_Line_turn f_Line_turn d_Line_turn
  b_Line_turn : Binds K d_Line_turn ["self"] []
  a_Line_turn : PySem.W.findIn K (.ref C_Line) "turn" = some (some (.ref f_Line_turn))
  i_Line_turn : PySem.W.isFn K (.ref f_Line_turn) = true
  n_Line_turn : PySem.W.fnIn K f_Line_turn = true
  f_Line_has_next : Addr
  d_Line_has_next : FuncData
  F_Line_has_next : Fun K "has_next" "Line.has_next" s_Line_has_next f_Line_has_next d_Line_has_next
  b_Line_has_next : Binds K d_Line_has_next ["self"] []
  a_Line_has_next : PySem.W.findIn K (.ref C_Line) "has_next" = some (some (.ref f_Line_has_next))
  i_Line_has_next : PySem.W.isFn K (.ref f_Line_has_next) = true
  n_Line_has_next : PySem.W.fnIn K f_Line_has_next = true
  f_Line_copy : Addr
  d_Line_copy : FuncData
  F_Line_copy : Fun K "copy" "Line.copy" s_Line_copy f_Line_copy d_Line_copy
  b_Line_copy : Binds K d_Line_copy ["self"] []
  a_Line_copy : PySem.W.findIn K (.ref C_Line) "copy" = some (some (.ref f_Line_copy))
  i_Line_copy : PySem.W.isFn K (.ref f_Line_copy) = true
  n_Line_copy : PySem.W.fnIn K f_Line_copy = true
  C_ScreenError : Addr
  g_ScreenError : mg "ScreenError" = some (.ref C_ScreenError)
  hd_ScreenError : PySem.W.hasDictIn K C_ScreenError = true
  ty_ScreenError : PySem.W.typeIn K (.ref C_ScreenError) = some (.type "type")
  be_ScreenError : PySem.W.subIn K (.ref C_ScreenError) (.type "BaseException") = some true
  vb_ScreenError : PySem.W.subIn K (.ref C_ScreenError) (.type "ValueError") = some true
  C_BadFence : Addr
  g_BadFence : mg "BadFence" = some (.ref C_BadFence)
  hd_BadFence : PySem.W.hasDictIn K C_BadFence = true
  ty_BadFence : PySem.W.typeIn K (.ref C_BadFence) = some (.type "type")
  be_BadFence : PySem.W.subIn K (.ref C_BadFence) (.type "BaseException") = some true
  vb_BadFence : PySem.W.subIn K (.ref C_BadFence) (.type "ValueError") = some true
  ox_BadFence : OexC K C_BadFence
  xf_BadFence : XfC K C_BadFence
  is_BadFence : ExcC K C_BadFence
  f_BadFence___init__ : Addr
  d_BadFence___init__ : FuncData
  F_BadFence___init__ : Fun K "__init__" "BadFence.__init__" s_BadFence___init__ f_BadFence___init__ d_BadFence___init__
  b_BadFence___init__ : Binds K d_BadFence___init__ ["self", "fence"] []
  iC_BadFence : PySem.W.findIn K (.ref C_BadFence) "__init__" = some (some (.ref f_BadFence___init__))
  tI_BadFence : PySem.W.typeIn K (.ref f_BadFence___init__) = some (.type "function")
  nf_BadFence_fence : PySem.W.findIn K (.ref C_BadFence) "fence" = some none
  ss_BadFence : PySem.W.subIn K (.ref C_BadFence) (.ref C_BadFence) = some true
  C_NoAnswer : Addr
  g_NoAnswer : mg "NoAnswer" = some (.ref C_NoAnswer)
  hd_NoAnswer : PySem.W.hasDictIn K C_NoAnswer = true
  ty_NoAnswer : PySem.W.typeIn K (.ref C_NoAnswer) = some (.type "type")
  be_NoAnswer : PySem.W.subIn K (.ref C_NoAnswer) (.type "BaseException") = some true
  vb_NoAnswer : PySem.W.subIn K (.ref C_NoAnswer) (.type "ValueError") = some true
  ox_NoAnswer : OexC K C_NoAnswer
  xf_NoAnswer : XfC K C_NoAnswer
  is_NoAnswer : ExcC K C_NoAnswer
  f_NoAnswer___init__ : Addr
  d_NoAnswer___init__ : FuncData
  F_NoAnswer___init__ : Fun K "__init__" "NoAnswer.__init__" s_NoAnswer___init__ f_NoAnswer___init__ d_NoAnswer___init__
  b_NoAnswer___init__ : Binds K d_NoAnswer___init__ ["self", "number"] []
  iC_NoAnswer : PySem.W.findIn K (.ref C_NoAnswer) "__init__" = some (some (.ref f_NoAnswer___init__))
  tI_NoAnswer : PySem.W.typeIn K (.ref f_NoAnswer___init__) = some (.type "function")
  nf_NoAnswer_number : PySem.W.findIn K (.ref C_NoAnswer) "number" = some none
  ss_NoAnswer : PySem.W.subIn K (.ref C_NoAnswer) (.ref C_NoAnswer) = some true
  ne_BadFence_ScreenError : C_BadFence ≠ C_ScreenError
  s_BadFence_ScreenError : PySem.W.subIn K (.ref C_BadFence) (.ref C_ScreenError) = some true
  ne_BadFence_NoAnswer : C_BadFence ≠ C_NoAnswer
  s_BadFence_NoAnswer : PySem.W.subIn K (.ref C_BadFence) (.ref C_NoAnswer) = some false
  ne_NoAnswer_ScreenError : C_NoAnswer ≠ C_ScreenError
  s_NoAnswer_ScreenError : PySem.W.subIn K (.ref C_NoAnswer) (.ref C_ScreenError) = some true
  ne_NoAnswer_BadFence : C_NoAnswer ≠ C_BadFence
  s_NoAnswer_BadFence : PySem.W.subIn K (.ref C_NoAnswer) (.ref C_BadFence) = some false
  m_ValueError : mg "ValueError" = none
  m_abs : mg "abs" = none
  m_bool : mg "bool" = none
  m_enumerate : mg "enumerate" = none
  m_int : mg "int" = none
  m_isinstance : mg "isinstance" = none
  m_len : mg "len" = none
  m_list : mg "list" = none
  m_range : mg "range" = none
  m_tuple : mg "tuple" = none
  m_zip : mg "zip" = none
section
variable {P : Program} {w : World} {K : PySem.W.Frag} {mg : Str → Option Value} {base : Heap}
def sp_mixed : Sp := fun vs H Q _ => ∃ a t : Int, vs = [.int a, .int t] ∧ ∀ w : Int, 0 ≤ w → Q (.int w) H
theorem ok_mixed (T : Txt K mg) : FnOk P w K mg base CX0 1 T.f__law_mixed T.d__law_mixed ["_law_number_here", "_law_turn"] sp_mixed := by
  refine T.F__law_mixed.ok sc__law_mixed (fun vs H Q E h => ?_) (fun cdv A outer s H vs Q E hr h => ?_)
  · obtain ⟨a, t, rfl, _⟩ := h
    rfl
  · obtain ⟨a, t, rfl, q⟩ := h
    refine ⟨_, (pss_cons (ps_set (i := 2) sc__law_mixed.nd rfl (Or.inl rfl) (pe_op op_mod (pe_callTy call_int1 (by rfl) T.m_int (by decide +kernel) (pa_cons (pe_op op_add (pe_op op_mul (pe_op op_add (pv 0) pe_int) pe_int) (pe_op op_mul (pe_op op_add (pv 1) pe_int) pe_int)) pa_nil)) pe_int))
      (pss_cons (ps_set (i := 3) sc__law_mixed.nd rfl (Or.inl rfl) (pe_op op_mod (pe_callTy call_int1 (by rfl) T.m_int (by decide +kernel) (pa_cons (pe_op op_add (pe_op op_add (pe_op op_mul (pv 2) (pv 2)) (pe_op op_mul (pv 2) pe_int)) (pe_op op_mul (pe_op op_add (pv 1) pe_int) pe_int)) pa_nil)) pe_int))
      (pss_one (ps_ret (pe_op op_mod (pe_callTy call_int1 (by rfl) T.m_int (by decide +kernel) (pa_cons (pe_op op_add (pe_op op_add (pe_op op_fdiv (pv 3) pe_int) (pe_op op_mul (pv 3) pe_int)) (pv 1)) pa_nil)) pe_int))))), ?_⟩
    walk_at "g"
    have h0 := Int.emod_nonneg ((a + 1) * 48271 + (t + 1) * 1103515245) (by decide : (2147483647 : Int) ≠ 0)
    have h1 := Int.emod_lt_of_pos ((a + 1) * 48271 + (t + 1) * 1103515245) (by decide : (0 : Int) < 2147483647)
    refine ⟨Or.inr ⟨by omega, by omega⟩, ?_⟩
    walk_at "g"
    refine q _ (Int.emod_nonneg _ (by decide))
/-- the bag is made -/
def sp_bag (K : PySem.W.Frag) : Sp := fun vs H Q _ => ∃ (a : Addr) (ns : List Int), vs = [.ref a] ∧ SqL K H a (ns.map V.int) ∧ ns.length ≤ 63 ∧
  ∀ b H', Same H H' → H b = none → Bag K (one b) H' b → Q (.ref b) H'
theorem ok_bag (T : Txt K mg) : FnOk P w K mg base CX0 1 T.f__law_bag T.d__law_bag ["_law_script"] (sp_bag K) := by
  refine T.F__law_bag.ok sc__law_bag (fun vs H Q E h => ?_) (fun cdv A outer s H vs Q E hr h => ?_)
  · obtain ⟨a, t, rfl, _⟩ := h
    rfl
  · obtain ⟨a, ns, rfl, hS, hlen, q⟩ := h
    refine ⟨_, (pss_cons (ps_setLc (i := 2) (own := [("_law_cell", 1)]) (g := gName 1) (tt := tYes) (by rfl) sc__law_bag.nd rfl rfl (sw_true rfl rfl rfl (by decide +kernel)) (pi_listK (K := K) rfl (pv 0)) (blkOk_by (own := [("_law_cell", 1)]) (N := ["_law_script", "_law_cell", "_law_numbers", "_law_seed", "_law_at"]) (sc := defScope s__law_bag) (by decide +kernel)) (fun _ _ _ _ _ => (pg_name (i := 1) sc__law_bag.nd rfl (Or.inl rfl))) (fun _ _ _ _ _ => pts_nil) (fun _ _ _ _ _ => (pe_callTy call_int1 (by rfl) T.m_int (by decide +kernel) (pa_cons (pv 1) pa_nil))))
      (pss_cons (ps_set (i := 3) sc__law_bag.nd rfl (Or.inl rfl) (pe_callB (call_lenK (K := K) rfl) (by rfl) T.m_len PySem.boot_len (pa_cons (pv 2) pa_nil)))
      (pss_cons (ps_for PassesOwn.never rfl (pi_enumK (K := K) rfl (by rfl) T.m_enumerate (pa_cons (pe_slice (sl_listK (K := K) rfl) (pv 2) po_none (po_some pe_int)) pa_nil)) (pg_tupK (K := K) rfl rfl (pgs_cons (pg_name (i := 4) sc__law_bag.nd rfl (Or.inl rfl)) (pgs_cons (pg_name (i := 1) sc__law_bag.nd rfl (Or.inl rfl)) pgs_nil))) (pss_one (ps_set (i := 3) sc__law_bag.nd rfl (Or.inl rfl) (pe_op op_mod (pe_callTy call_int1 (by rfl) T.m_int (by decide +kernel) (pa_cons (pe_op op_add (pe_op op_add (pe_op op_mul (pv 3) pe_int) (pe_op op_mod (pe_callTy call_int1 (by rfl) T.m_int (by decide +kernel) (pa_cons (pe_callB call_abs (by rfl) T.m_abs (by decide +kernel) (pa_cons (pv 1) pa_nil)) pa_nil)) pe_int)) (pe_op op_mul_ib (pe_op op_add (pv 4) pe_int) (pe_cmpR op_lt (pv 1) pe_int (nomark _)))) pa_nil)) pe_int))))
      (pss_one (ps_ret (pe_lst (pa_cons (pv 2) (pa_cons pe_int (pa_cons pe_int (pa_cons pe_int (pa_cons (pv 3) pa_nil))))))))))), ?_⟩
    refine ⟨.ref a, rfl, a, rfl, ⟨_, hS⟩, fun n hn => ?_⟩
    refine lc_list (K := K) (a := a) (xs := ns.map V.int) (fun i H' => Same H H' ∧ H' n = some (.lst ((ns.take i).map V.int))) ⟨same_new hn, by rw [upd_same]; rfl⟩ (fun i H' _ h => h.1.seq hS) (fun i x H' hx h => ?_) (fun H' h => ?_)
    · rw [List.getElem?_map] at hx
      obtain ⟨z, hz, rfl⟩ := Option.map_eq_some_iff.mp hx
      refine ⟨rfl, ?_⟩
      refine ⟨_, rfl, ?_⟩
      refine Or.inl ⟨_, rfl, ?_⟩
      refine ⟨_, h.2, ?_, fun b o e => ?_, ?_⟩
      · rw [List.length_map, List.length_take]
        exact small1000 (by omega)
      · rw [upd_ne (ne_of_none e hn)]
        exact h.1 b o e
      · rw [upd_same, List.take_add_one, hz, List.map_append]
        rfl
    · have h2 : H' n = some (.lst (ns.map V.int)) := by
        have e := h.2
        rwa [List.length_map, List.take_length] at e
      refine ⟨_, rfl, n, _, rfl, .inl (SqL.of h2), ?_⟩
      refine ⟨_, rfl, 63, rfl, n, _, rfl, SqL.of h2, fun c hc => ?_⟩
      have hcut : cutV (ns.map V.int) none (some 63) = ns.map V.int := by
        unfold cutV
        rw [show HT.sIx (ns.map V.int).length 0 none = 0 from HT.sIx_none .., show HT.sIx (ns.map V.int).length (ns.map V.int).length (some 63) = min 63 (ns.map V.int).length from HT.sIx_nat _ _ 63, List.drop_zero, Nat.sub_zero]
        rw [List.length_map, Nat.min_eq_right hlen]
        exact List.take_of_length_le (by rw [List.length_map]; exact Nat.le_refl _)
      rw [hcut]
      have hn' : n ≠ c := ne_of_none h2 hc
      refine ⟨c, _, rfl, SqL.of upd_same, ?_⟩
      refine for_enum (a := c) (xs := ns.map V.int) (fun i σ H2 => (∃ y1 z y4, σ = [some (.ref a), y1, some (.ref n), some (.int z), y4]) ∧ Same H H2 ∧ H2 n = some (.lst (ns.map V.int)) ∧ H2 c = some (.lst (ns.map V.int))) ⟨⟨_, _, _, rfl⟩, fun b o e => ?_, ?_, ?_⟩ (fun i σ H2 _ p => SqL.of p.2.2.2) (fun i x T σ H2 hx hT p => ?_) (fun σ H2 p => ?_)
      · rw [upd_ne (fun z => ?_)]
        · exact h.1 b o e
        · subst z
          rw [h.1 b o e] at hc
          cases hc
      · rw [upd_ne hn']
        exact h2
      · exact upd_same
      · obtain ⟨⟨y1, z, y4, rfl⟩, hs, e2, e3⟩ := p
        rw [List.getElem?_map] at hx
        obtain ⟨v, hv, rfl⟩ := Option.map_eq_some_iff.mp hx
        refine ⟨T, _, rfl, SqT.of upd_same, rfl, _, _, rfl, _, _, rfl, rfl, ?_⟩
        walk_at "g"
        have nT : n ≠ T := ne_of_none e2 hT
        have cT : c ≠ T := ne_of_none e3 hT
        refine ⟨⟨_, _, _, rfl⟩, fun b o e => same_new hT b o (hs b o e), ?_, ?_⟩
        · rw [upd_ne nT]
          exact e2
        · rw [upd_ne cT]
          exact e3
      · obtain ⟨⟨y1, z, y4, rfl⟩, hs, e2, e3⟩ := p
        refine ⟨_, rfl, _, rfl, (by show 5 ≤ sizeLine; decide), fun b hb => ?_⟩
        refine q b _ (fun x o e => same_new hb x o (hs x o e)) (hs.free hb) ⟨rfl, n, ns, 0, 0, 0, z, upd_same, fun e => ?_, .inl ?_, by decide, by decide⟩
        · exact ne_of_none e2 hb e
        · rw [upd_ne (ne_of_none e2 hb)]
          exact e2
/-- a number is drawn -/
def sp_pick (K : PySem.W.Frag) : Sp := fun vs H Q _ => ∃ (b : Addr) (m : Int) (M : Ms), vs = [.ref b, .int m] ∧ Bag K M H b ∧ 0 < m ∧ m < 1073741824 ∧
  ∀ (w : Int) (H' : Hp), 0 ≤ w → w < m → At b H H' → Bag K M H' b → Q (.int w) H'
theorem At.bag {M : Ms} {H H' : Hp} {b n : Addr} {ns : List Int} {p r t s : Int} (w : M b) (hn : ¬ M n) (rd : Rd H n (.lst (ns.map V.int))) (h : At b H H') (e : H' b = some (.lst [.ref n, .int p, .int r, .int t, .int s])) (hp : 0 ≤ p) (hr : 0 ≤ r) : Bag K M H' b :=
  ⟨w, n, ns, p, r, t, s, e, hn, sx_rd h.sx (fun z => hn (by rw [show n = b from z]; exact w)) rd, hp, hr⟩
theorem At.trans {H H1 H2 : Hp} {b : Addr} (h : At b H H1) (h' : At b H1 H2) : At b H H2 := fun a n => (h' a n).trans (h a n)
theorem ok_pick (T : Txt K mg) : FnOk P w K mg base CX0 2 T.f__law_pick T.d__law_pick ["_law_bag_here", "_law_many"] (sp_pick K) := by
  have G__law_mixed := ok_mixed (P := P) (w := w) (base := base) T
  refine T.F__law_pick.ok sc__law_pick (fun vs H Q E h => ?_) (fun cdv A outer s H vs Q E hr h => ?_)
  · obtain ⟨_, _, _, rfl, _⟩ := h
    rfl
  · obtain ⟨b, m, M, rfl, ⟨wb, n, ns, p, r, t, sd, hb, hn, rd, hp, hr0⟩, hm, hm2, q⟩ := h
    refine ⟨_, (pss_cons (ps_set (i := 2) sc__law_pick.nd rfl (Or.inl rfl) (pe_ix (ix_listK (K := K) rfl) (pv 0) pe_int (fun _ _ => rfl)))
      (pss_cons (ps_asg (pe_op op_add (pv 2) pe_int) (pg_sub (pv 0) pe_int set_list))
      (pss_cons (ps_if (PW.pt (pw_and (pt_cmpR op_eq (pe_ix (ix_listK (K := K) rfl) (pv 0) pe_int (fun _ _ => rfl)) pe_int (nomark _)) (pw_and1 (pt_cmpR op_lt (pe_ix (ix_listK (K := K) rfl) (pv 0) pe_int (fun _ _ => rfl)) (pe_callB (call_lenK (K := K) rfl) (by rfl) T.m_len PySem.boot_len (pa_cons (pe_ix (ix_listK (K := K) rfl) (pv 0) pe_int (fun _ _ => rfl)) pa_nil)) (nomark _))))) (pss_cons (ps_set (i := 3) sc__law_pick.nd rfl (Or.inl rfl) (pe_ix (ix_listK (K := K) rfl) (pe_ix (ix_listK (K := K) rfl) (pv 0) pe_int (fun _ _ => rfl)) (pe_ix (ix_listK (K := K) rfl) (pv 0) pe_int (fun _ _ => rfl)) (fun _ _ => rfl)))
      (pss_cons (ps_asg (pe_op op_add (pe_ix (ix_listK (K := K) rfl) (pv 0) pe_int (fun _ _ => rfl)) pe_int) (pg_sub (pv 0) pe_int set_list))
      (pss_cons (ps_if (pt_cmpR op_lt (pe_callB call_abs (by rfl) T.m_abs (by decide +kernel) (pa_cons (pv 3) pa_nil)) (pe_op op_pow pe_int pe_int) (nomark _)) (pss_one (ps_ret (pe_op op_mod (pe_callTy call_int1 (by rfl) T.m_int (by decide +kernel) (pa_cons (pe_call G__law_mixed (hr.mono (by omega)) (by rfl) T.g__law_mixed T.F__law_mixed.kp T.b__law_mixed .nil pass0 (pa_cons (pe_op op_add_ib (pe_op op_mul pe_int (pe_callB call_abs (by rfl) T.m_abs (by decide +kernel) (pa_cons (pv 3) pa_nil))) (pe_cmpR op_lt (pv 3) pe_int (nomark _))) (pa_cons (pv 2) pa_nil))) pa_nil)) (pv 1)))) pss_nil)
      (pss_one (ps_asg (pe_callB call_abs (by rfl) T.m_abs (by decide +kernel) (pa_cons (pv 3) pa_nil)) (pg_sub (pv 0) pe_int set_list)))))) pss_nil)
      (pss_cons (ps_if (pt_cmpR op_eq (pe_ix (ix_listK (K := K) rfl) (pv 0) pe_int (fun _ _ => rfl)) pe_int (nomark _)) (pss_one (ps_ret (pe_op op_mod (pe_callTy call_int1 (by rfl) T.m_int (by decide +kernel) (pa_cons (pe_call G__law_mixed (hr.mono (by omega)) (by rfl) T.g__law_mixed T.F__law_mixed.kp T.b__law_mixed .nil pass0 (pa_cons (pe_ix (ix_listK (K := K) rfl) (pv 0) pe_int (fun _ _ => rfl)) (pa_cons (pv 2) pa_nil))) pa_nil)) (pv 1)))) pss_nil)
      (pss_cons (ps_set (i := 4) sc__law_pick.nd rfl (Or.inl rfl) (pe_op op_mod (pe_callTy call_int1 (by rfl) T.m_int (by decide +kernel) (pa_cons (pe_ix (ix_listK (K := K) rfl) (pv 0) pe_int (fun _ _ => rfl)) pa_nil)) (pv 1)))
      (pss_cons (ps_asg (pe_op op_fdiv (pe_ix (ix_listK (K := K) rfl) (pv 0) pe_int (fun _ _ => rfl)) (pv 1)) (pg_sub (pv 0) pe_int set_list))
      (pss_one (ps_ret (pv 4))))))))), ?_⟩
    -- turn
    walk_at "g"
    walk_at "set"
    generalize e1 : upd H b _ = H1
    have a1 : At b H H1 := by rw [← e1]; exact At.upd
    have b1 : H1 b = some (.lst [.ref n, .int p, .int r, .int (t + 1), .int sd]) := by rw [← e1, upd_same]; rfl
    have rd1 : Rd H1 n (.lst (ns.map V.int)) := sx_rd a1.sx (fun z => hn (by rw [show n = b from z]; exact wb)) rd
    clear e1
    have fin : ∀ (w : Int) (H' : Hp) (p' r' t' : Int), At b H H' → H' b = some (.lst [.ref n, .int p', .int r', .int t', .int sd]) → 0 ≤ p' → 0 ≤ r' → Q (.int (w % m)) H' := fun w H' p' r' t' ha e h1 h2 =>
      q _ _ (Int.emod_nonneg _ (by omega)) (Int.emod_lt_of_pos _ hm) ha (ha.bag wb hn rd e h1 h2)
    with_reducible refine seq_join (fun σ H' => ∃ y3 p' r', σ = [some (.ref b), some (.int m), some (.int t), y3, none] ∧ At b H H' ∧ H' b = some (.lst [.ref n, .int p', .int r', .int (t + 1), .int sd]) ∧ 0 ≤ p' ∧ 0 ≤ r') (fun hN => ?_) (fun σ H' c => ?_)
    · have hN0 := hN _ _ ⟨none, p, r, rfl, a1, b1, hp, hr0⟩
      walk_at "g"
      walk_at "if"
      · walk_at "g"
        walk_at "if"
        · rename_i ep
          have ep' : p < ((ns.map V.int).length : Int) := of_decide_eq_true ep
          obtain ⟨j, rfl⟩ : ∃ j : Nat, p = (j : Int) := ⟨p.toNat, by omega⟩
          have hj : j < ns.length := by
            rw [List.length_map] at ep'
            omega
          have hcell : (ns.map V.int)[j]? = some (.int ns[j]) := by
            rw [List.getElem?_map, List.getElem?_eq_getElem hj]
            rfl
          walk_at "g"
          refine ⟨n, _, _, _, rfl, rfl, Or.inl rd1, atI_nat hcell, ?_⟩
          walk_at "g"
          walk_at "set"
          generalize e2 : upd H1 b _ = H2
          have a2 : At b H H2 := by rw [← e2]; exact a1.trans At.upd
          have b2 : H2 b = some (.lst [.ref n, .int ((j : Int) + 1), .int r, .int (t + 1), .int sd]) := by rw [← e2, upd_same]; rfl
          clear e2
          generalize ns[j] = c
          walk_at "g"
          walk_at "if"
          · walk_at "g"
            refine ⟨_, _, rfl, fun z hz => ?_⟩
            walk_at "g"
            refine ⟨hm, ?_⟩
            exact fin _ _ _ _ _ a2 b2 (by omega) hr0
          · walk_at "g"
            walk_at "set"
            exact hN _ _ ⟨_, _, _, rfl, a2.trans At.upd, upd_same, by omega, by split <;> omega⟩
        · exact hN0
      · exact hN0
    · obtain ⟨y3, p', r', rfl, a2, b2, hp2, hr2⟩ := c
      walk_at "g"
      walk_at "if"
      · walk_at "g"
        refine ⟨_, _, rfl, fun z hz => ?_⟩
        walk_at "g"
        refine ⟨hm, ?_⟩
        exact fin _ _ _ _ _ a2 b2 hp2 hr2
      · walk_at "g"
        refine ⟨hm, ?_⟩
        walk_at "g"
        refine ⟨⟨hm, hm2⟩, ?_⟩
        walk_at "g"
        walk_at "set"
        walk_at "g"
        exact fin _ _ _ _ _ (a2.trans At.upd) upd_same hp2 (Int.ediv_nonneg hr2 (by omega))
def sp_number : Sp := fun vs H Q _ => ∃ i : Int, vs = [.int i] ∧ Q (.bl true) H
theorem ok_number (T : Txt K mg) : FnOk P w K mg base CX0 1 T.f__law_number T.d__law_number ["_law_thing"] sp_number := by
  refine T.F__law_number.ok sc__law_number (fun vs H Q E h => ?_) (fun cdv A outer s H vs Q E hr h => ?_)
  · obtain ⟨_, rfl, _⟩ := h
    rfl
  · obtain ⟨i, rfl, q⟩ := h
    refine ⟨_, (pss_one (ps_ret (pe_and (pe_callB (call_isi1K (K := K) rfl) (by rfl) T.m_isinstance (by decide +kernel) (pa_cons (pv 0) (pa_cons (pe_bltn (v := .ty "int") (u := .type "int") (by rfl) T.m_int (by decide +kernel) rfl) pa_nil))) (pe_one (pe_not (pe_callB (call_isi1K (K := K) rfl) (by rfl) T.m_isinstance (by decide +kernel) (pa_cons (pv 0) (pa_cons (pe_bltn (v := .ty "bool") (u := .type "bool") (by rfl) T.m_bool (by decide +kernel) rfl) pa_nil)))))))), ?_⟩
    walk_at "g"
    refine ⟨_, _, _, _, true, rfl, .ty _, .base (.int _), kit_ty (by decide +kernel), ?_⟩
    walk_at "g"
    walk_at "g"
    refine ⟨_, _, _, _, false, rfl, .ty _, .base (.int _), kit_ty (by decide +kernel), ?_⟩
    walk_at "g"
    exact q
end
end D

namespace D
open PySem PySem.Spec PyProof.Rows L2
local macro_rules | `(tactic| walk_at "st") => `(tactic| first | exact SqT.of (by assumption) | exact Or.inl (by assumption) | exact SqT.of upd_same | fail "st")
local macro_rules | `(tactic| walk_at "ixt") => `(tactic| refine ⟨_, _, _, _, rfl, rfl, (by walk_at "st" : SqT _ _ _ _), by rfl, ?_⟩)
local macro_rules | `(tactic| walk_at "sq") => `(tactic| first | exact SqL.of (by assumption) | assumption | exact Or.inl (by assumption) | exact SqL.of upd_same | fail "sq")
local macro_rules | `(tactic| walk_at "ix") => `(tactic| refine ⟨_, _, _, _, rfl, rfl, (by walk_at "sq" : SqL _ _ _ _), by rfl, ?_⟩)
local macro_rules | `(tactic| walk_at "set") => `(tactic| refine ⟨_, _, _, _, rfl, rfl, by first | assumption | exact upd_same, by rfl, ?_⟩)
local macro_rules | `(tactic| walk_at "len") => `(tactic| refine ⟨_, _, rfl, Or.inl (by walk_at "sq" : SqL _ _ _ _), ?_⟩)
local macro_rules | `(tactic| walk_at "g") => `(tactic| repeat (first | refine ⟨_, rfl, ?_⟩ | refine ⟨_, _, rfl, rfl, ?_⟩ | refine ⟨Or.inr (by decide), ?_⟩ | refine ⟨Or.inl (by decide), ?_⟩ | refine ⟨(by decide : (0 : Int) < _), ?_⟩ | refine ⟨(⟨by decide, by decide⟩ : CDiv _ _), ?_⟩ | refine ⟨(⟨by decide, by decide, by decide⟩ : CPow _ _), ?_⟩ | refine Or.inl ⟨_, rfl, ?_⟩ | refine ⟨rfl, ?_⟩ | walk_at "ix" | walk_at "ixt" | walk_at "len" | fail "g"))
local macro_rules | `(tactic| walk_at "if") => `(tactic| refine ite2 (fun e => ?_) (fun e => ?_))
section
variable {P : Program} {w : World} {K : PySem.W.Frag} {mg : Str → Option Value} {base : Heap}
def ok6 (z : Str) : Prop := 1 ≤ (sg z).length ∧ (sg z).length ≤ 6 ∧ (∀ c ∈ sg z, 97 ≤ c ∧ c ≤ 122)
def tl2 (l : List Nat) (k : Nat) : Str := ⟨#[l.getD (k / 26) 0, l.getD (k % 26) 0]⟩
/-- small letters -/
def Low (l : List Nat) : Prop := ∀ c ∈ l, 97 ≤ c ∧ c ≤ 122
/-- a name: one to eight small letters -/
def okN (z : Str) : Prop := 1 ≤ (sg z).length ∧ (sg z).length ≤ 8 ∧ Low (sg z)
theorem Low.app {a b : List Nat} (h : Low a) (g : Low b) : Low (a ++ b) := fun c hc => (List.mem_append.mp hc).elim (h c) (g c)
theorem Low.sub {a b : List Nat} (h : Low a) (s : ∀ c ∈ b, c ∈ a) : Low b := fun c hc => h c (s c hc)
theorem small26 {z : Str} (h : (sg z).length < 1000) : z.length ≤ sizeLine := by rw [← sg_len, sizeLine_eq]; omega
def sp_newname (K : PySem.W.Frag) : Sp := fun vs H Q _ => ∃ (b u : Addr) (ws : List Str) (M : Ms), vs = [.ref b, .ref u] ∧ Bag K M H b ∧ Mk M H ∧ M u ∧ u ≠ b ∧ H u = some (.lst (ws.map V.str)) ∧ ws.length ≤ 10 ∧ (∀ w ∈ ws, okN w) ∧
  ∀ H' z, Sx (also (one b) u) H H' → Gr H H' → Bag K M H' b → H' u = some (.lst ((ws ++ [z]).map V.str)) → okN z → z ∉ ws → Q (.str z) H'
theorem ok_newname (T : Txt K mg) : FnOk P w K mg base CX0 3 T.f__law_new_name T.d__law_new_name ["_law_bag_here", "_law_used"] (sp_newname K) := by
  have G__law_pick := ok_pick (P := P) (w := w) (base := base) T
  refine T.F__law_new_name.ok sc__law_new_name (fun vs H Q E h => ?_) (fun cdv A outer s H vs Q E hr h => ?_)
  · obtain ⟨_, _, _, _, rfl, _⟩ := h
    rfl
  · obtain ⟨b, u, ws, M, rfl, hB, hM, mu, ub, hu, lw, hws, q⟩ := h
    refine ⟨_, (pss_cons (ps_set (i := 2) sc__law_new_name.nd rfl (Or.inr rfl) pe_str)
      (pss_cons (ps_set (i := 3) sc__law_new_name.nd rfl (Or.inr rfl) (pe_join pe_str (pe_lc (own := [("_law_step_here", 7)]) (g := gName 7) (tt := tYes) (by rfl) sc__law_new_name.nd (pi_range1 (by rfl) T.m_range (pa_cons (pe_op op_add pe_int (pe_call G__law_pick (hr.mono (by omega)) (by rfl) T.g__law_pick T.F__law_pick.kp T.b__law_pick .nil pass0 (pa_cons (pv 0) (pa_cons pe_int pa_nil)))) pa_nil)) (blkOk_by (own := [("_law_step_here", 7)]) (N := ["_law_bag_here", "_law_used", "_law_letters", "_law_told", "_law_near", "_law_at", "_law_tails", "_law_step_here", "_law_k", "_law_tail"]) (sc := defScope s__law_new_name) (by decide +kernel)) (fun _ _ _ _ _ => (pg_name (i := 7) sc__law_new_name.nd rfl (Or.inl rfl))) (fun _ _ _ _ _ => pts_nil) (fun _ _ _ _ _ => (pe_ix ix_str (pv 2) (pe_call G__law_pick (hr.mono (by omega)) (by rfl) T.g__law_pick T.F__law_pick.kp T.b__law_pick .nil pass0 (pa_cons (pv 0) (pa_cons pe_int pa_nil))) (fun _ _ => rfl))))))
      (pss_cons (ps_if (PW.pt (pw_and (pt_truthK (K := K) rfl (pv 1) (by intro _; rfl)) (pw_and1 (pt_cmpR op_eq (pe_call G__law_pick (hr.mono (by omega)) (by rfl) T.g__law_pick T.F__law_pick.kp T.b__law_pick .nil pass0 (pa_cons (pv 0) (pa_cons pe_int pa_nil))) pe_int (nomark _))))) (pss_cons (ps_set (i := 4) sc__law_new_name.nd rfl (Or.inl rfl) (pe_slice sl_str (pe_ix (ix_listK (K := K) rfl) (pv 1) (pe_call G__law_pick (hr.mono (by omega)) (by rfl) T.g__law_pick T.F__law_pick.kp T.b__law_pick .nil pass0 (pa_cons (pv 0) (pa_cons (pe_callB (call_lenK (K := K) rfl) (by rfl) T.m_len PySem.boot_len (pa_cons (pv 1) pa_nil)) pa_nil))) (fun _ _ => rfl)) po_none (po_some pe_int)))
      (pss_cons (ps_set (i := 5) sc__law_new_name.nd rfl (Or.inl rfl) (pe_call G__law_pick (hr.mono (by omega)) (by rfl) T.g__law_pick T.F__law_pick.kp T.b__law_pick .nil pass0 (pa_cons (pv 0) (pa_cons (pe_callB call_len_str (by rfl) T.m_len PySem.boot_len (pa_cons (pv 4) pa_nil)) pa_nil))))
      (pss_one (ps_set (i := 3) sc__law_new_name.nd rfl (Or.inr rfl) (pe_op op_add_str (pe_op op_add_str (pe_slice sl_str (pv 4) po_none (po_some (pv 5))) (pe_ix ix_str (pv 2) (pe_call G__law_pick (hr.mono (by omega)) (by rfl) T.g__law_pick T.F__law_pick.kp T.b__law_pick .nil pass0 (pa_cons (pv 0) (pa_cons pe_int pa_nil))) (fun _ _ => rfl))) (pe_slice sl_str (pv 4) (po_some (pe_op op_add (pv 5) pe_int)) po_none)))))) pss_nil)
      (pss_cons (ps_if (pt_cmpR (op_in_seqK (K := K) rfl) (pv 3) (pe_op op_cat (pv 1) (pe_lst (pa_cons pe_str (pa_cons pe_str pa_nil)))) (by rfl)) (pss_cons (ps_setLc (i := 6) (own := [("_law_k", 8)]) (g := gName 8) (tt := tYes) (by rfl) sc__law_new_name.nd rfl rfl (sw_true rfl rfl rfl (by decide +kernel)) (pi_range1 (by rfl) T.m_range (pa_cons pe_int pa_nil)) (blkOk_by (own := [("_law_k", 8)]) (N := ["_law_bag_here", "_law_used", "_law_letters", "_law_told", "_law_near", "_law_at", "_law_tails", "_law_step_here", "_law_k", "_law_tail"]) (sc := defScope s__law_new_name) (by decide +kernel)) (fun _ _ _ _ _ => (pg_name (i := 8) sc__law_new_name.nd rfl (Or.inl rfl))) (fun _ _ _ _ _ => pts_nil) (fun _ _ _ _ _ => (pe_op op_add_str (pe_ix ix_str (pv 2) (pe_op op_fdiv (pv 8) pe_int) (fun _ _ => rfl)) (pe_ix ix_str (pv 2) (pe_op op_mod (pe_callTy call_int1 (by rfl) T.m_int (by decide +kernel) (pa_cons (pv 8) pa_nil)) pe_int) (fun _ _ => rfl)))))
      (pss_one (ps_set (i := 3) sc__law_new_name.nd rfl (Or.inr rfl) (pe_ix (ix_listK (K := K) rfl) (pe_lc (own := [("_law_tail", 9)]) (g := gName 9)  (by rfl) sc__law_new_name.nd (pi_listK (K := K) rfl (pv 6)) (blkOk_by (own := [("_law_tail", 9)]) (N := ["_law_bag_here", "_law_used", "_law_letters", "_law_told", "_law_near", "_law_at", "_law_tails", "_law_step_here", "_law_k", "_law_tail"]) (sc := defScope s__law_new_name) (by decide +kernel)) (fun _ _ _ _ _ => (pg_name (i := 9) sc__law_new_name.nd rfl (Or.inl rfl))) (fun _ _ _ _ _ => (pts_one (pt_cmpR (op_notIn_seqK (K := K) rfl) (pe_op op_add_str (pe_slice sl_str (pv 3) po_none (po_some pe_int)) (pv 9)) (pe_op op_cat (pv 1) (pe_lst (pa_cons pe_str pa_nil))) (by rfl)))) (fun _ _ _ _ _ => (pe_op op_add_str (pe_slice sl_str (pv 3) po_none (po_some pe_int)) (pv 9)))) pe_int (fun _ _ => rfl))))) pss_nil)
      (pss_cons (ps_expr (pe_bmK2 (K := K) rfl PySem.F.plainAttrs_list PySem.F.slot_list_append PySem.F.type_list_append mt_append (pv 1) (pa_cons (pv 3) pa_nil)))
      (pss_one (ps_ret (pv 3)))))))), ?_⟩
    generalize eal : Str.ofString "abcdefghijklmnopqrstuvwxyz" = al
    have lal : (sg al).length = 26 := by rw [← eal]; decide +kernel
    have low : Low (sg al) := by rw [← eal]; unfold Low; decide +kernel
    have at_al : ∀ w : Int, 0 ≤ w → w < 26 → ∃ c, atI al.cps.toList w = some c ∧ 97 ≤ c ∧ c ≤ 122 := fun w h0 h1 => by
      obtain ⟨j, rfl⟩ : ∃ j : Nat, w = (j : Int) := ⟨w.toNat, by omega⟩
      have hj : j < (sg al).length := by omega
      exact ⟨(sg al)[j], atI_nat (List.getElem?_eq_getElem hj), low _ (List.getElem_mem hj)⟩
    have sal : al.length ≤ sizeLine := small26 (by omega)
    have gd : ∀ k, k < 26 → (sg al)[k]? = some ((sg al).getD k 0) := fun k hk => by
      rw [List.getD_eq_getElem?_getD, List.getElem?_eq_getElem (by omega)]
      rfl
    have nda : (sg al).Nodup := by rw [← eal]; decide +kernel
    clear eal
    refine ⟨⟨_, rfl⟩, ?_⟩
    walk_at "g"
    refine ⟨b, 6, M, rfl, hB, by omega, by omega, fun n1 H1 h0 h1 hA1 hB1 => ?_⟩
    walk_at "g"
    refine ⟨by omega, by omega, fun D hD => ?_⟩
    have Db : D ≠ b := fun z => hB1.there (by rw [← z]; exact hD)
    refine rng_loop (lo := 0) (n := (1 + n1).toNat) (fun i H' => ∃ ys : List Str, H' D = some (.lst (ys.map V.str)) ∧ ys.length = i ∧ (∀ y ∈ ys, ∃ c, y = ⟨#[c]⟩ ∧ 97 ≤ c ∧ c ≤ 122) ∧ Sx (one b) H1 H' ∧ Gr H1 H' ∧ Bag K (also M D) H' b) ⟨[], upd_same, rfl, fun y hy => (nomatch hy), Sx.new hD, Gr.upd, (hB1.more hD).same (same_new hD)⟩ (fun i H' hi p => ?_) (fun H2 p => ?_)
    · obtain ⟨ys, eD, ly, hys, s2, g2, hB2⟩ := p
      refine ⟨rfl, ?_⟩
      walk_at "g"
      refine ⟨b, 26, also M D, rfl, hB2, by omega, by omega, fun w3 H3 k0 k1 hA3 hB3 => ?_⟩
      obtain ⟨c, hc, c0, c1⟩ := at_al w3 k0 k1
      have eD3 := (hA3 D Db).trans eD
      refine ⟨al, _, c, rfl, rfl, sal, hc, _, eD3, small1000 (by rw [List.length_map]; omega), ys ++ [⟨#[c]⟩], ?_, by rw [List.length_append, ly]; rfl, fun y hy => ?_, fun a o n e => ?_, g2.trans ((At.gr hA3 hB3.there).trans Gr.upd), hB3.keep (N := one D) (Sx.put rfl) (Ne.symm Db) (fun c z => .inr z)⟩
      · rw [upd_same, List.map_append]
        rfl
      · rcases List.mem_append.mp hy with z | z
        · exact hys y z
        · exact ⟨c, List.mem_singleton.mp z, c0, c1⟩
      · rw [upd_ne (fun z => by rw [z, hD] at e; cases e)]
        exact hA3.sx a o n (s2 a o n e)
    obtain ⟨ys, eD, ly, hys, s2, g2, hB2⟩ := p
    have hB2' := hB2.less (N := M) hB1.w also_le
    have ly1 : 1 ≤ ys.length ∧ ys.length ≤ 6 := by omega
    have sum1 : ∀ l : List Str, (∀ y ∈ l, ∃ c, y = ⟨#[c]⟩ ∧ 97 ≤ c ∧ c ≤ 122) → (l.map (·.length)).sum = l.length ∧ (l.map sg).flatten.length = l.length ∧ Low (l.map sg).flatten := by
      intro l
      induction l with
      | nil => intro _; exact ⟨rfl, rfl, fun c hc => nomatch hc⟩
      | cons y r ih =>
        intro h
        obtain ⟨i1, i2, i3⟩ := ih fun z hz => h z (List.mem_cons_of_mem _ hz)
        obtain ⟨c, rfl, c0, c1⟩ := h y List.mem_cons_self
        refine ⟨?_, ?_, ?_⟩
        · rw [List.map_cons, List.sum_cons, i1, List.length_cons]
          show 1 + r.length = r.length + 1
          omega
        · rw [List.map_cons, List.flatten_cons, List.length_append, i2, List.length_cons]
          show 1 + r.length = r.length + 1
          omega
        · rw [List.map_cons, List.flatten_cons]
          refine Low.app (fun d hd => ?_) i3
          rw [List.mem_singleton.mp (show d ∈ [c] from hd)]
          exact ⟨c0, c1⟩
    obtain ⟨j1, j2, j3⟩ := sum1 ys hys
    refine ⟨_, D, ys, rfl, rfl, .inl (SqL.of eD), by rw [j1, show (Str.ofString "").length = 0 from by decide +kernel]; omega, ?_⟩
    generalize hz1 : Txt.join _ ys = z1
    have sz1 : sg z1 = (ys.map sg).flatten := by rw [← hz1, TL.join_eq]; exact sg_join0 ys
    have l1 : (sg z1).length = ys.length := by rw [sz1]; exact j2
    have w1 : Low (sg z1) := by rw [sz1]; exact j3
    clear hz1
    have sx2 : Sx (one b) H H2 := hA1.sx.trans s2
    have gr2 : Gr H H2 := (At.gr hA1 hB1.there).trans g2
    have hu2 := sx2 u _ ub hu
    dsimp only [gName]
    with_reducible refine seq_join (fun σ3 H' => ∃ (z : Str) (y4 y5 : Option V), σ3 = [some (.ref b), some (.ref u), some (.str al), some (.str z), y4, y5, none, none, none, none] ∧ ok6 z ∧ Sx (one b) H H' ∧ Gr H H' ∧ Bag K M H' b) (fun hN => ?_) (fun σ H5 c => ?_)
    · have base0 := hN _ _ ⟨z1, none, none, rfl, ⟨by omega, by omega, w1⟩, sx2, gr2, hB2'⟩
      walk_at "g"
      refine ⟨!(ws.map V.str).isEmpty, .inl ⟨_, SqL.of hu2, rfl⟩, ?_⟩
      by_cases cn : ws = []
      · rw [show (!(ws.map V.str).isEmpty) = false by rw [cn]; rfl]
        exact base0
      · rw [show (!(ws.map V.str).isEmpty) = true by cases ws with | nil => exact absurd rfl cn | cons _ _ => rfl]
        have lpos : 0 < ws.length := List.length_pos_iff.mpr cn
        walk_at "g"
        refine ⟨b, 3, M, rfl, hB2', by omega, by omega, fun w4 H4 d0 d1 hA4 hB4 => ?_⟩
        have sx4 := sx2.trans hA4.sx
        have gr4 := gr2.trans (At.gr hA4 hB4.there)
        have hu4 := (hA4 u ub).trans hu2
        walk_at "g"
        walk_at "if"
        · walk_at "g"
          have lws : (ws.map V.str).length = ws.length := List.length_map _
          refine ⟨b, _, M, rfl, hB4, by omega, by omega, fun w5 H5 e0 e1 hA5 hB5 => ?_⟩
          obtain ⟨j, rfl⟩ : ∃ j : Nat, w5 = (j : Int) := ⟨w5.toNat, by omega⟩
          have hj : j < ws.length := by omega
          have sx5 := sx4.trans hA5.sx
          have gr5 := gr4.trans (At.gr hA5 hB5.there)
          have hu5 := (hA5 u ub).trans hu4
          obtain ⟨o1, o2, o3⟩ := hws ws[j] (List.getElem_mem hj)
          refine ⟨_, _, _, _, rfl, rfl, SqL.of hu5, atI_nat (by rw [List.getElem?_map, List.getElem?_eq_getElem hj]; rfl), ?_⟩
          walk_at "g"
          refine ⟨small26 (by omega), ?_⟩
          have snr : sg (cutS ws[j] none (some 6)) = (sg ws[j]).take 6 := sg_cut _ 6
          generalize cutS ws[j] none (some 6) = nr at snr
          have lnr : 1 ≤ (sg nr).length ∧ (sg nr).length ≤ 6 := by rw [snr, List.length_take]; omega
          have wnr : Low (sg nr) := by rw [snr]; exact Low.sub o3 fun c hc => List.mem_of_mem_take hc
          have lnr' := sg_len nr
          walk_at "g"
          refine ⟨small26 (by omega), ?_⟩
          walk_at "g"
          refine ⟨b, _, M, rfl, hB5, by omega, by omega, fun w6 H6 f0 f1 hA6 hB6 => ?_⟩
          obtain ⟨i, rfl⟩ : ∃ i : Nat, w6 = (i : Int) := ⟨w6.toNat, by omega⟩
          have hi : i < (sg nr).length := by omega
          walk_at "g"
          refine ⟨small26 (by omega), ?_⟩
          walk_at "g"
          refine ⟨b, 26, M, rfl, hB6, by omega, by omega, fun w7 H7 g0 g1 hA7 hB7 => ?_⟩
          obtain ⟨c, hc, c0, c1⟩ := at_al w7 g0 g1
          refine ⟨al, _, c, rfl, rfl, sal, hc, ?_⟩
          have sq1 : sg (cutS nr none (some (i : Int))) = (sg nr).take i := sg_cut _ i
          have sq2 : sg (cutS nr (some ((i : Int) + 1)) none) = (sg nr).drop (i + 1) := by
            have := sg_from nr (i + 1)
            rw [show (((i + 1 : Nat)) : Int) = (i : Int) + 1 by omega] at this
            exact this
          have lq1 : (cutS nr none (some (i : Int))).length ≤ 6 := by rw [← sg_len, sq1, List.length_take]; omega
          have lq2 : (cutS nr (some ((i : Int) + 1)) none).length ≤ 6 := by rw [← sg_len, sq2, List.length_drop]; omega
          refine ⟨_, _, rfl, rfl, ?_, ?_⟩
          · have e1 : (⟨#[c]⟩ : Str).length = 1 := rfl
            rw [e1, sizeLine_eq]
            omega
          walk_at "g"
          refine ⟨small26 (by omega), ?_⟩
          have sq3 : sg (cutS nr none (some (i : Int)) ++ (⟨#[c]⟩ : Str)) = (sg nr).take i ++ [c] := by rw [sg_app, sq1]
          refine ⟨_, _, rfl, rfl, ?_, ?_⟩
          · have e1 : (cutS nr none (some (i : Int)) ++ (⟨#[c]⟩ : Str)).length ≤ 7 := by
              rw [← sg_len, sq3, List.length_append, List.length_take]
              show _ + 1 ≤ 7
              omega
            rw [sizeLine_eq]
            omega
          have sq4 : sg (cutS nr none (some (i : Int)) ++ (⟨#[c]⟩ : Str) ++ cutS nr (some ((i : Int) + 1)) none) = (sg nr).take i ++ [c] ++ (sg nr).drop (i + 1) := by rw [sg_app, sq3, sq2]
          have len4 : ((sg nr).take i ++ [c] ++ (sg nr).drop (i + 1)).length = (sg nr).length := by
            rw [List.length_append, List.length_append, List.length_take, List.length_drop]
            show min i _ + 1 + _ = _
            omega
          refine hN _ _ ⟨_, _, _, rfl, ⟨by rw [sq4, len4]; omega, by rw [sq4, len4]; omega, ?_⟩, sx5.trans (hA6.sx.trans hA7.sx), gr5.trans ((At.gr hA6 hB6.there).trans (At.gr hA7 hB7.there)), hB7⟩
          rw [sq4]
          refine Low.app (Low.app (Low.sub wnr fun c hc => List.mem_of_mem_take hc) (fun d hd => ?_)) (Low.sub wnr fun c hc => List.mem_of_mem_drop hc)
          rw [List.mem_singleton.mp hd]
          exact ⟨c0, c1⟩
        · exact hN _ _ ⟨z1, none, none, rfl, ⟨by omega, by omega, w1⟩, sx4, gr4, hB4⟩
    · obtain ⟨z, y4, y5, rfl, ⟨z_1, z_6, z_l⟩, sx5, gr5, hB5⟩ := c
      have hu5 : H5 u = some (.lst (ws.map V.str)) := sx5 u _ ub hu
      have lws : (ws.map V.str).length = ws.length := List.length_map _
      have zle : z.length ≤ 6 := by rw [← sg_len]; exact z_6
      walk_at "g"
      refine ⟨szK rfl, fun p6 hp6 => ?_⟩
      have s6 : Same H5 (upd H5 p6 (.lst [.str (Str.ofString "item"), .str (Str.ofString "at")])) := same_new hp6
      have e6 : upd H5 p6 (.lst [.str (Str.ofString "item"), .str (Str.ofString "at")]) p6 = some (.lst [.str (Str.ofString "item"), .str (Str.ofString "at")]) := upd_same
      generalize upd H5 p6 (.lst [.str (Str.ofString "item"), .str (Str.ofString "at")]) = H6 at s6 e6
      have hu6 := s6 _ _ hu5
      refine ⟨u, p6, _, _, rfl, rfl, hu6, e6, by rw [lws, sizeLine_eq]; show ws.length + 2 ≤ _; omega, fun p7 hp7 => ?_⟩
      have ecat : ws.map V.str ++ [V.str (Str.ofString "item"), V.str (Str.ofString "at")] = (ws ++ [Str.ofString "item", Str.ofString "at"]).map V.str := by rw [List.map_append]; rfl
      rw [ecat]
      have s7 : Same H6 (upd H6 p7 (.lst ((ws ++ [Str.ofString "item", Str.ofString "at"]).map V.str))) := same_new hp7
      refine ⟨p7, _, rfl, .inl (SqL.of upd_same), rfl, flat_strs _, ?_⟩
      generalize upd H6 p7 (.lst ((ws ++ [Str.ofString "item", Str.ofString "at"]).map V.str)) = H7 at s7
      rw [in_strs]
      have s57 := s6.trans s7
      have hB7 := hB5.same s57
      have sx7 := sx5.trans (Sx.same s57)
      have gr7 := gr5.trans (Gr.same s57)
      walk_at "g"
      have hu7 := s57 _ _ hu5
      have mb := hB.w
      by_cases hz : z ∈ ws ++ [Str.ofString "item", Str.ofString "at"]
      · rw [decide_eq_true hz, if_neg Bool.false_ne_true]
        dsimp only
        rw [if_pos rfl]
        walk_at "g"
        refine ⟨by decide, by decide, fun D2 hD2 => ?_⟩
        have D2b : D2 ≠ b := fun y => hB7.there (by rw [← y]; exact hD2)
        refine rng_loop (lo := 0) (n := 676) (fun i H' => Same H7 H' ∧ H' D2 = some (.lst (((List.range i).map (tl2 (sg al))).map V.str))) ⟨same_new hD2, upd_same⟩ (fun i H' hi p => ?_) (fun H8 p => ?_)
        · obtain ⟨s8, eD⟩ := p
          have hi' : i < 676 := hi
          rw [Int.zero_add]
          refine ⟨rfl, ?_⟩
          walk_at "g"
          have k1 : i / 26 < 26 := by omega
          have k2 : i % 26 < 26 := Nat.mod_lt _ (by decide)
          refine ⟨al, _, (sg al).getD (i / 26) 0, rfl, rfl, sal, ?_, ?_⟩
          · rw [show ((i : Int) / 26) = ((i / 26 : Nat) : Int) by omega]
            exact atI_nat (gd _ k1)
          walk_at "g"
          refine ⟨al, _, (sg al).getD (i % 26) 0, rfl, rfl, sal, ?_, ?_⟩
          · rw [show ((i : Int) % 26) = ((i % 26 : Nat) : Int) by omega]
            exact atI_nat (gd _ k2)
          refine ⟨_, _, rfl, rfl, by rw [sizeLine_eq]; show 1 + 1 ≤ _; omega, ?_⟩
          have l1 : (((List.range i).map (tl2 (sg al))).map V.str).length = i := by rw [List.length_map, List.length_map, List.length_range]
          refine ⟨_, eD, small1000 (by omega), same_put s8 hD2, ?_⟩
          rw [upd_same, List.range_succ, List.map_append, List.map_append]
          rfl
        obtain ⟨s8, eD8⟩ := p
        have eD8 : H8 D2 = some (.lst (((List.range 676).map (tl2 (sg al))).map V.str)) := eD8
        have s78 : Same H5 H8 := s57.trans s8
        have hu8 := s78 _ _ hu5
        walk_at "g"
        refine ⟨⟨_, SqL.of eD8⟩, fun D3 hD3 => ?_⟩
        obtain ⟨f, hf⟩ : ∃ f : Nat → Str, f = fun k => cutS z none (some 6) ++ tl2 (sg al) k := ⟨_, rfl⟩
        obtain ⟨LL, hLL⟩ : ∃ L : List Str, L = ws ++ [Str.ofString "item"] := ⟨_, rfl⟩
        have lLL : LL.length ≤ 11 := by rw [hLL, List.length_append]; show ws.length + 1 ≤ 11; omega
        have c6 : (cutS z none (some 6)).length ≤ 6 := by
          have := sg_cut z 6
          rw [← sg_len, show sg (cutS z none (some 6)) = (sg z).take 6 from this, List.length_take]
          omega
        refine list_loop (xs := ((List.range 676).map (tl2 (sg al))).map V.str) (fun i H' => Same H8 H' ∧ H' D3 = some (.lst ((((List.range i).map f).filter (fun y => decide (y ∉ LL))).map V.str))) ⟨same_new hD3, upd_same⟩ (fun i H' _ p => SqL.of (p.1 _ _ eD8)) (fun i x H' hx p => ?_) (fun H9 p => ?_)
        · obtain ⟨s9, eD9⟩ := p
          have hi : i < 676 := by
            have := (List.getElem?_eq_some_iff.mp hx).1
            rw [List.length_map, List.length_map, List.length_range] at this
            exact this
          rw [List.getElem?_map, List.getElem?_map, List.getElem?_range hi] at hx
          cases hx
          have hu9 := s9 _ _ hu8
          refine ⟨rfl, ?_⟩
          walk_at "g"
          refine ⟨small26 (by omega), ?_⟩
          have l2 : (tl2 (sg al) i).length = 2 := rfl
          walk_at "g"
          refine ⟨by rw [l2, sizeLine_eq]; omega, ?_⟩
          walk_at "g"
          refine ⟨szK rfl, fun p1 hp1 => ?_⟩
          have t1 : Same H' (upd H' p1 (.lst [.str (Str.ofString "item")])) := same_new hp1
          have e1 : upd H' p1 (.lst [.str (Str.ofString "item")]) p1 = some (.lst [.str (Str.ofString "item")]) := upd_same
          generalize upd H' p1 (.lst [.str (Str.ofString "item")]) = G1 at t1 e1
          refine ⟨u, p1, _, _, rfl, rfl, t1 _ _ hu9, e1, by rw [lws, sizeLine_eq]; show ws.length + 1 ≤ _; omega, fun p2 hp2 => ?_⟩
          have ecat2 : ws.map V.str ++ [V.str (Str.ofString "item")] = LL.map V.str := by rw [hLL, List.map_append]; rfl
          rw [ecat2]
          have t2 : Same G1 (upd G1 p2 (.lst (LL.map V.str))) := same_new hp2
          refine ⟨p2, _, rfl, .inl (SqL.of upd_same), rfl, flat_strs _, ?_⟩
          generalize upd G1 p2 (.lst (LL.map V.str)) = G2 at t2
          rw [in_strs, if_pos rfl]
          have t12 := t1.trans t2
          have e9 := t12 _ _ eD9
          have lf : (((List.range i).map f).filter (fun y => decide (y ∉ LL))).length ≤ i := Nat.le_trans (List.length_filter_le _ _) (by rw [List.length_map, List.length_range]; exact Nat.le_refl _)
          have fi : f i = cutS z none (some 6) ++ tl2 (sg al) i := by rw [hf]
          have step : ((List.range (i + 1)).map f).filter (fun y => decide (y ∉ LL)) = ((List.range i).map f).filter (fun y => decide (y ∉ LL)) ++ if f i ∈ LL then [] else [f i] := by
            rw [List.range_succ, List.map_append, List.filter_append]
            congr 1
            by_cases c : f i ∈ LL
            · rw [if_pos c]; simp [c]
            · rw [if_neg c]; simp [c]
          rw [step]
          by_cases c : f i ∈ LL
          · rw [← fi, decide_eq_true c, if_pos c, List.append_nil]
            exact ⟨_, rfl, s9.trans t12, e9⟩
          · rw [← fi, decide_eq_false c, if_neg c]
            refine ⟨_, rfl, ?_⟩
            dsimp only
            rw [if_pos (by rfl : (!false) = true)]
            walk_at "g"
            refine ⟨small26 (by omega), ?_⟩
            walk_at "g"
            refine ⟨by rw [l2, sizeLine_eq]; omega, ?_⟩
            refine ⟨_, e9, small1000 (by rw [List.length_map]; omega), same_put (s9.trans t12) hD3, ?_⟩
            rw [upd_same, List.map_append, ← fi]
            rfl
        obtain ⟨s9, eD9⟩ := p
        have eD9 : H9 D3 = some (.lst ((((List.range 676).map f).filter (fun y => decide (y ∉ LL))).map V.str)) := by
          have := eD9
          rw [List.length_map, List.length_map, List.length_range] at this
          exact this
        obtain ⟨y0, rest, ey⟩ : ∃ y0 rest, ((List.range 676).map f).filter (fun y => decide (y ∉ LL)) = y0 :: rest := by
          cases e : ((List.range 676).map f).filter (fun y => decide (y ∉ LL)) with
          | cons y r => exact ⟨y, r, rfl⟩
          | nil =>
            exfalso
            have all : ∀ k, k < 676 → f k ∈ LL := fun k hk => by
              by_cases c : f k ∈ LL
              · exact c
              · exfalso
                have : f k ∈ ((List.range 676).map f).filter (fun y => decide (y ∉ LL)) := List.mem_filter.mpr ⟨List.mem_map.mpr ⟨k, List.mem_range.mpr hk, rfl⟩, decide_eq_true c⟩
                rw [e] at this
                exact nomatch this
            have inj : ∀ i j : Nat, i < 26 → j < 26 → f i = f j → i = j := fun i j hi hj h => by
              have h2 := congrArg sg h
              rw [hf] at h2
              dsimp only at h2
              rw [sg_app, sg_app] at h2
              have h3 := List.append_cancel_left h2
              have h4 : [(sg al).getD (i / 26) 0, (sg al).getD (i % 26) 0] = [(sg al).getD (j / 26) 0, (sg al).getD (j % 26) 0] := h3
              injection h4 with _ h5
              injection h5 with h6 _
              rw [Nat.mod_eq_of_lt hi, Nat.mod_eq_of_lt hj] at h6
              have g1 := gd i hi
              have g2 := gd j hj
              rw [← h6] at g2
              exact (List.getElem?_inj (show i < (sg al).length by omega) nda).mp (g1.trans g2.symm)
            have nd : ((List.range 26).map f).Nodup := by
              rw [List.nodup_iff_pairwise_ne, List.pairwise_map]
              refine List.Pairwise.imp_of_mem (fun {x y} hx hy hxy h => hxy (inj x y (List.mem_range.mp hx) (List.mem_range.mp hy) h)) (List.nodup_range (n := 26))
            have := (sub_len LL ((List.range 26).map f) nd fun x hx => by
              obtain ⟨k, hk, rfl⟩ := List.mem_map.mp hx
              exact all k (by have := List.mem_range.mp hk; omega)).1
            rw [List.length_map, List.length_range] at this
            omega
        have my : y0 ∈ ((List.range 676).map f).filter (fun y => decide (y ∉ LL)) := by rw [ey]; exact List.mem_cons_self
        obtain ⟨m1, m2⟩ := List.mem_filter.mp my
        obtain ⟨k0, hk0, rfl⟩ := List.mem_map.mp m1
        have hk0 := List.mem_range.mp hk0
        have nL : f k0 ∉ LL := of_decide_eq_true m2
        rw [ey] at eD9
        have sgf : sg (f k0) = (sg z).take 6 ++ [(sg al).getD (k0 / 26) 0, (sg al).getD (k0 % 26) 0] := by
          rw [hf]
          dsimp only
          rw [sg_app]
          congr 1
          exact sg_cut z 6
        have okf : okN (f k0) := by
          have lt : ((sg z).take 6).length ≤ 6 := by rw [List.length_take]; omega
          refine ⟨by rw [sgf, List.length_append]; show 1 ≤ _ + 2; omega, by rw [sgf, List.length_append]; show _ + 2 ≤ 8; omega, ?_⟩
          rw [sgf]
          refine Low.app (Low.sub z_l fun c hc => List.mem_of_mem_take hc) (fun d hd => ?_)
          have kk1 : k0 / 26 < 26 := by omega
          have kk2 : k0 % 26 < 26 := Nat.mod_lt _ (by decide)
          rcases List.mem_cons.mp hd with rfl | hd
          · exact low _ (List.mem_of_getElem? (gd _ kk1))
          · rw [List.mem_singleton.mp hd]
            exact low _ (List.mem_of_getElem? (gd _ kk2))
        have s59 : Same H5 H9 := s78.trans s9
        have hu9 := s59 _ _ hu5
        have at0 : atI ((f k0 :: rest).map V.str) ((0 : Nat) : Int) = some (V.str (f k0)) := atI_nat (by simp)
        walk_at "g"
        refine ⟨_, _, _, _, rfl, rfl, SqL.of eD9, at0, ?_⟩
        walk_at "g"
        refine ⟨.inl ⟨rfl, _, SqL.of hu9⟩, ?_⟩
        walk_at "g"
        refine ⟨u, _, _, rfl, rfl, hu9, small1000000 (by omega), ?_⟩
        walk_at "g"
        have sP : Sx (one u) H9 (upd H9 u (.lst (ws.map V.str ++ [V.str (f k0)]))) := Sx.put rfl
        refine q _ (f k0) (((sx5.trans (Sx.same s59)).le fun c y => .inl y).trans (sP.le fun c y => .inr y)) ((gr5.trans (Gr.same s59)).trans Gr.upd) ((hB5.same s59).keep sP (Ne.symm ub) (one_le mu)) ?_ okf (fun y => nL (by rw [hLL]; exact List.mem_append_left _ y))
        rw [upd_same, List.map_append]
        rfl
      · rw [decide_eq_false hz]
        have zn : z ∉ ws := fun y => hz (List.mem_append_left _ y)
        walk_at "g"
        refine ⟨.inl ⟨rfl, _, SqL.of hu7⟩, ?_⟩
        walk_at "g"
        refine ⟨u, _, _, rfl, rfl, hu7, small1000000 (by omega), ?_⟩
        walk_at "g"
        have sP : Sx (one u) H7 (upd H7 u (.lst (ws.map V.str ++ [V.str z]))) := Sx.put rfl
        refine q _ z ((sx7.le fun c y => .inl y).trans (sP.le fun c y => .inr y)) (gr7.trans Gr.upd) (hB7.keep sP (Ne.symm ub) (one_le mu)) ?_ ⟨z_1, by omega, z_l⟩ zn
        rw [upd_same, List.map_append]
        rfl
end
end D

namespace D
open PySem PySem.Spec PyProof.Rows L2
local macro_rules | `(tactic| walk_at "st") => `(tactic| first | exact SqT.of (by assumption) | exact Or.inl (by assumption) | exact SqT.of upd_same | fail "st")
local macro_rules | `(tactic| walk_at "ixt") => `(tactic| refine ⟨_, _, _, _, rfl, rfl, (by walk_at "st" : SqT _ _ _ _), by rfl, ?_⟩)
local macro_rules | `(tactic| walk_at "sq") => `(tactic| first | exact SqL.of (by assumption) | assumption | exact Or.inl (by assumption) | exact SqL.of upd_same | fail "sq")
local macro_rules | `(tactic| walk_at "ix") => `(tactic| refine ⟨_, _, _, _, rfl, rfl, (by walk_at "sq" : SqL _ _ _ _), by rfl, ?_⟩)
local macro_rules | `(tactic| walk_at "set") => `(tactic| refine ⟨_, _, _, _, rfl, rfl, by first | assumption | exact upd_same, by rfl, ?_⟩)
local macro_rules | `(tactic| walk_at "len") => `(tactic| refine ⟨_, _, rfl, Or.inl (by walk_at "sq" : SqL _ _ _ _), ?_⟩)
local macro_rules | `(tactic| walk_at "g") => `(tactic| repeat (first | refine ⟨_, rfl, ?_⟩ | refine ⟨_, _, rfl, rfl, ?_⟩ | refine ⟨Or.inr (by decide), ?_⟩ | refine ⟨Or.inl (by decide), ?_⟩ | refine ⟨(by decide : (0 : Int) < _), ?_⟩ | refine ⟨(⟨by decide, by decide⟩ : CDiv _ _), ?_⟩ | refine ⟨(⟨by decide, by decide, by decide⟩ : CPow _ _), ?_⟩ | refine Or.inl ⟨_, rfl, ?_⟩ | refine ⟨rfl, ?_⟩ | walk_at "ix" | walk_at "ixt" | walk_at "len" | fail "g"))
local macro_rules | `(tactic| walk_at "if") => `(tactic| refine ite2 (fun e => ?_) (fun e => ?_))
section
variable {P : Program} {w : World} {K : PySem.W.Frag} {mg : Str → Option Value} {base : Heap}
def rowD (ns : List Int) : PyData := .tuple (ns.map PyData.int)
/-- what an entry holds -/
structure En where
  ov : V
  word : Str
  who : Int
  ticket : Int
  question : Int
  answer : Int
def En.fs (e : En) : List (Str × V) := [("owner", e.ov), ("word", .str e.word), ("who", .int e.who), ("ticket", .int e.ticket), ("question", .int e.question), ("answer", .int e.answer)]
def sp_whole : Sp := fun vs H Q _ => ∃ i : Int, vs = [.int i] ∧ Q (.bl true) H
theorem ok_is_whole (T : Txt K mg) : FnOk P w K mg base CX0 1 T.f_is_whole T.d_is_whole ["thing"] sp_whole := by
  refine T.F_is_whole.ok sc_is_whole (fun vs H Q E h => ?_) (fun cdv A outer s H vs Q E hr h => ?_)
  · obtain ⟨_, rfl, _⟩ := h
    rfl
  · obtain ⟨i, rfl, q⟩ := h
    refine ⟨_, (pss_one (ps_ret (pe_and (pe_callB (call_isi1K (K := K) rfl) (by rfl) T.m_isinstance (by decide +kernel) (pa_cons (pv 0) (pa_cons (pe_bltn (v := .ty "int") (u := .type "int") (by rfl) T.m_int (by decide +kernel) rfl) pa_nil))) (pe_one (pe_not (pe_callB (call_isi1K (K := K) rfl) (by rfl) T.m_isinstance (by decide +kernel) (pa_cons (pv 0) (pa_cons (pe_bltn (v := .ty "bool") (u := .type "bool") (by rfl) T.m_bool (by decide +kernel) rfl) pa_nil)))))))), ?_⟩
    walk_at "g"
    refine ⟨_, _, _, _, true, rfl, .ty _, .base (.int _), kit_ty (by decide +kernel), ?_⟩
    walk_at "g"
    walk_at "g"
    refine ⟨_, _, _, _, false, rfl, .ty _, .base (.int _), kit_ty (by decide +kernel), ?_⟩
    walk_at "g"
    exact q
def EnAt (C : Addr) (M : Ms) (H : Hp) (v : V) (e : En) : Prop := ∃ a dx, v = .ref a ∧ ¬ M a ∧ H a = some (.ins C dx e.fs)
theorem EnAt.sx {C : Addr} {M : Ms} {H H' : Hp} {v : V} {e : En} (h : EnAt C M H v e) (s : Sx M H H') : EnAt C M H' v e := by
  obtain ⟨a, dx, rfl, n, ha⟩ := h
  exact ⟨a, dx, rfl, n, s _ _ n ha⟩
theorem EnAt.fresh {C : Addr} {M : Ms} {H : Hp} {v : V} {e : En} {p : Addr} (h : EnAt C M H v e) (hp : H p = none) : EnAt C (also M p) H v e := by
  obtain ⟨a, dx, rfl, n, ha⟩ := h
  exact ⟨a, dx, rfl, fun z => z.elim n fun z => (by rw [show a = p from z, hp] at ha; cases ha), ha⟩
def sp_einit (C : Addr) : Sp := fun vs H Q _ => ∃ (a dx : Addr) (e : En), vs = [.ref a, e.ov, .str e.word, .int e.who, .int e.ticket, .int e.question, .int e.answer] ∧ H a = some (.ins C dx []) ∧ Q .non (upd H a (.ins C dx e.fs))
theorem ok_einit (T : Txt K mg) : FnOk P w K mg base CX0 1 T.f_Entry___init__ T.d_Entry___init__ ["self", "owner", "word", "who", "ticket", "question", "answer"] (sp_einit T.C_Entry) := by
  refine T.F_Entry___init__.ok sc_Entry___init__ (fun vs H Q E h => ?_) (fun cdv A outer s H vs Q E hr h => ?_)
  · obtain ⟨_, _, _, rfl, _⟩ := h
    rfl
  · obtain ⟨a, dx, e, rfl, ha, q⟩ := h
    refine ⟨_, (pss_cons (ps_fld (pv 0) (pv 1) rfl)
      (pss_cons (ps_fld (pv 0) (pv 2) rfl)
      (pss_cons (ps_fld (pv 0) (pv 3) rfl)
      (pss_cons (ps_fld (pv 0) (pv 4) rfl)
      (pss_cons (ps_fld (pv 0) (pv 5) rfl)
      (pss_one (ps_fld (pv 0) (pv 6) rfl))))))), ?_⟩
    walk_at "g"
    refine ⟨a, _, dx, [], rfl, ha, T.cl_Entry, T.nA_Entry_owner, (by decide : 0 < 1000), ?_⟩
    walk_at "g"
    refine ⟨a, _, dx, _, rfl, upd_same, T.cl_Entry, T.nA_Entry_word, (by decide : 1 < 1000), ?_⟩
    walk_at "g"
    refine ⟨a, _, dx, _, rfl, upd_same, T.cl_Entry, T.nA_Entry_who, (by decide : 2 < 1000), ?_⟩
    walk_at "g"
    refine ⟨a, _, dx, _, rfl, upd_same, T.cl_Entry, T.nA_Entry_ticket, (by decide : 3 < 1000), ?_⟩
    walk_at "g"
    refine ⟨a, _, dx, _, rfl, upd_same, T.cl_Entry, T.nA_Entry_question, (by decide : 4 < 1000), ?_⟩
    walk_at "g"
    refine ⟨a, _, dx, _, rfl, upd_same, T.cl_Entry, T.nA_Entry_answer, (by decide : 5 < 1000), ?_⟩
    rw [upd_upd, upd_upd, upd_upd, upd_upd, upd_upd]
    exact q
/-- a line -/
def lnFs (fv lv : V) (room ed tk : Int) : List (Str × V) := [("_far", fv), ("_room", .int room), ("_edition", .int ed), ("_tickets", .int tk), ("_entries", lv)]
def sp_linit (K : PySem.W.Frag) (C : Addr) : Sp := fun vs H Q _ => ∃ (a dx f : Addr) (xs : List V) (room : Int), vs = [.ref a, .ref f, .int room] ∧ H a = some (.ins C dx []) ∧ Rd H f (.tup xs) ∧
  ∀ l, H l = none → Q .non (upd (upd H l (.lst [])) a (.ins C dx (lnFs (.ref f) (.ref l) room 0 0)))
theorem ok_linit (T : Txt K mg) : FnOk P w K mg base CX0 1 T.f_Line___init__ T.d_Line___init__ ["self", "far", "room"] (sp_linit K T.C_Line) := by
  refine T.F_Line___init__.ok sc_Line___init__ (fun vs H Q E h => ?_) (fun cdv A outer s H vs Q E hr h => ?_)
  · obtain ⟨_, _, _, _, _, rfl, _⟩ := h
    rfl
  · obtain ⟨a, dx, f, xs, room, rfl, ha, hf, q⟩ := h
    refine ⟨_, (pss_cons (ps_fld (pv 0) (pe_callTy (call_tupleK (K := K) rfl) (by rfl) T.m_tuple (by decide +kernel) (pa_cons (pv 1) pa_nil)) rfl)
      (pss_cons (ps_fld (pv 0) (pv 2) rfl)
      (pss_cons (ps_fld (pv 0) pe_int rfl)
      (pss_cons (ps_fld (pv 0) pe_int rfl)
      (pss_one (ps_fld (pv 0) (pe_lst pa_nil) rfl)))))), ?_⟩
    walk_at "g"
    refine ⟨f, xs, rfl, .inr ⟨.inl hf, ?_⟩⟩
    walk_at "g"
    refine ⟨a, _, dx, [], rfl, ha, T.cl_Line, T.nA_Line__far, (by decide : 0 < 1000), ?_⟩
    walk_at "g"
    refine ⟨a, _, dx, _, rfl, upd_same, T.cl_Line, T.nA_Line__room, (by decide : 1 < 1000), ?_⟩
    walk_at "g"
    refine ⟨a, _, dx, _, rfl, upd_same, T.cl_Line, T.nA_Line__edition, (by decide : 2 < 1000), ?_⟩
    walk_at "g"
    refine ⟨a, _, dx, _, rfl, upd_same, T.cl_Line, T.nA_Line__tickets, (by decide : 3 < 1000), ?_⟩
    walk_at "g"
    refine ⟨szK rfl, fun l hl => ?_⟩
    have la : l ≠ a := fun z => by rw [z, upd_same] at hl; cases hl
    rw [upd_upd, upd_upd, upd_upd, upd_ne la] at hl
    walk_at "g"
    refine ⟨a, _, dx, _, rfl, (upd_ne (Ne.symm la)).trans upd_same, T.cl_Line, T.nA_Line__entries, (by decide : 4 < 1000), ?_⟩
    have e : upd (upd (upd (upd (upd (upd H a (.ins T.C_Line dx (putF (Str.ofString "_far") (.ref f) []))) a (.ins T.C_Line dx (putF (Str.ofString "_room") (.int room) (putF (Str.ofString "_far") (.ref f) [])))) a (.ins T.C_Line dx (putF (Str.ofString "_edition") (.int 0) (putF (Str.ofString "_room") (.int room) (putF (Str.ofString "_far") (.ref f) []))))) a (.ins T.C_Line dx (putF (Str.ofString "_tickets") (.int 0) (putF (Str.ofString "_edition") (.int 0) (putF (Str.ofString "_room") (.int room) (putF (Str.ofString "_far") (.ref f) [])))))) l (.lst [])) a (.ins T.C_Line dx (lnFs (.ref f) (.ref l) room 0 0)) = upd (upd H l (.lst [])) a (.ins T.C_Line dx (lnFs (.ref f) (.ref l) room 0 0)) := by
      funext c
      by_cases h1 : c = a
      · rw [h1, upd_same, upd_same]
      · rw [upd_ne h1, upd_ne h1]
        by_cases h2 : c = l
        · rw [h2, upd_same, upd_same]
        · rw [upd_ne h2, upd_ne h2, upd_ne h1, upd_ne h1, upd_ne h1, upd_ne h1]
    have q' := q l hl
    rw [← e] at q'
    exact q'
def LnAt (C : Addr) (H : Hp) (a l : Addr) (fv : V) (room ed tk : Int) (vs : List V) : Prop := ∃ dx, H a = some (.ins C dx (lnFs fv (.ref l) room ed tk)) ∧ H l = some (.lst vs)
def sp_take (C : Addr) : Sp := fun vs H Q _ => ∃ (a l : Addr) (fv v : V) (room ed tk : Int) (n : Nat) (es : List V), vs = [.ref a, .int n] ∧ LnAt C H a l fv room ed tk es ∧ es[n]? = some v ∧ es.length ≤ 1000 ∧ Q v (upd H l (.lst (es.eraseIdx n)))
theorem ok_take (T : Txt K mg) : FnOk P w K mg base CX0 3 T.f_Line_take T.d_Line_take ["self", "number"] (sp_take T.C_Line) := by
  have G_is_whole := ok_is_whole (P := P) (w := w) (base := base) T
  refine T.F_Line_take.ok sc_Line_take (fun vs H Q E h => ?_) (fun cdv A outer s H vs Q E hr h => ?_)
  · obtain ⟨_, _, _, _, _, _, _, _, _, rfl, _⟩ := h
    rfl
  · obtain ⟨a, l, fv, v, room, ed, tk, n, es, rfl, ⟨dx, ha, hl⟩, hv, les, q⟩ := h
    have hn : n < es.length := (List.getElem?_eq_some_iff.mp hv).1
    refine ⟨_, (pss_cons (ps_if (PW.pt (pw_or (pt_not (pt_val (pe_call G_is_whole (hr.mono (by omega)) (by rfl) T.g_is_whole T.F_is_whole.kp T.b_is_whole .nil pass0 (pa_cons (pv 1) pa_nil)))) (pw_or1 (pt_not (pt_chain op_le op_lt pe_int (pv 1) (pe_callB (call_lenK (K := K) rfl) (by rfl) T.m_len PySem.boot_len (pa_cons (pe_fldK (K := K) rfl (pv 0) rfl) pa_nil))))))) (pss_one ps_never) pss_nil)
      (pss_one (ps_ret (pe_bmK2 (K := K) rfl PySem.F.plainAttrs_list PySem.F.slot_list_pop PySem.F.type_list_pop mt_popAt (pe_fldK (K := K) rfl (pv 0) rfl) (pa_cons (pv 1) pa_nil))))), ?_⟩
    walk_at "g"
    refine ⟨a, _, dx, _, _, rfl, ha, T.cl_Line, T.nA_Line__entries, rfl, ?_⟩
    walk_at "g"
    rw [decide_eq_true (show (n : Int) < (es.length : Int) by omega)]
    walk_at "g"
    refine ⟨a, _, dx, _, _, rfl, ha, T.cl_Line, T.nA_Line__entries, rfl, ?_⟩
    walk_at "g"
    refine ⟨.inl ⟨rfl, _, SqL.of hl⟩, ?_⟩
    walk_at "g"
    exact ⟨l, es, (n : Int), n, v, rfl, rfl, hl, by omega, by omega, seqIx hn, hv, q⟩
def sp_entries (C : Addr) : Sp := fun vs H Q _ => ∃ (a l : Addr) (fv : V) (room ed tk : Int) (es : List V), vs = [.ref a] ∧ LnAt C H a l fv room ed tk es ∧ ∀ p, H p = none → Q (.ref p) (upd H p (.lst es))
theorem ok_entries (T : Txt K mg) : FnOk P w K mg base CX0 1 T.f_Line_entries T.d_Line_entries ["self"] (sp_entries T.C_Line) := by
  refine T.F_Line_entries.ok sc_Line_entries (fun vs H Q E h => ?_) (fun cdv A outer s H vs Q E hr h => ?_)
  · obtain ⟨_, _, _, _, _, _, _, rfl, _⟩ := h
    rfl
  · obtain ⟨a, l, fv, room, ed, tk, es, rfl, ⟨dx, ha, hl⟩, q⟩ := h
    refine ⟨_, (pss_one (ps_ret (pe_callTy (call_listK (K := K) rfl) (by rfl) T.m_list (by decide +kernel) (pa_cons (pe_fldK (K := K) rfl (pv 0) rfl) pa_nil)))), ?_⟩
    walk_at "g"
    refine ⟨a, _, dx, _, _, rfl, ha, T.cl_Line, T.nA_Line__entries, rfl, ?_⟩
    walk_at "g"
    exact q
def sp_edition (C : Addr) : Sp := fun vs H Q _ => ∃ (a l : Addr) (fv : V) (room ed tk : Int) (es : List V), vs = [.ref a] ∧ LnAt C H a l fv room ed tk es ∧ Q (.int ed) H
theorem ok_edition (T : Txt K mg) : FnOk P w K mg base CX0 1 T.f_Line_edition T.d_Line_edition ["self"] (sp_edition T.C_Line) := by
  refine T.F_Line_edition.ok sc_Line_edition (fun vs H Q E h => ?_) (fun cdv A outer s H vs Q E hr h => ?_)
  · obtain ⟨_, _, _, _, _, _, _, rfl, _⟩ := h
    rfl
  · obtain ⟨a, l, fv, room, ed, tk, es, rfl, ⟨dx, ha, hl⟩, q⟩ := h
    refine ⟨_, (pss_one (ps_ret (pe_fldK (K := K) rfl (pv 0) rfl))), ?_⟩
    walk_at "g"
    exact ⟨a, _, dx, _, _, rfl, ha, T.cl_Line, T.nA_Line__edition, rfl, q⟩
def sp_hasnext (K : PySem.W.Frag) (C : Addr) : Sp := fun vs H Q _ => ∃ (a l f : Addr) (xs : List V) (room ed tk : Int) (es : List V), vs = [.ref a] ∧ LnAt C H a l (.ref f) room ed tk es ∧ SqT K H f xs ∧ Q (.bl (decide (ed + 1 < xs.length))) H
theorem ok_hasnext (T : Txt K mg) : FnOk P w K mg base CX0 1 T.f_Line_has_next T.d_Line_has_next ["self"] (sp_hasnext K T.C_Line) := by
  refine T.F_Line_has_next.ok sc_Line_has_next (fun vs H Q E h => ?_) (fun cdv A outer s H vs Q E hr h => ?_)
  · obtain ⟨_, _, _, _, _, _, _, _, rfl, _⟩ := h
    rfl
  · obtain ⟨a, l, f, xs, room, ed, tk, es, rfl, ⟨dx, ha, hl⟩, hf, q⟩ := h
    refine ⟨_, (pss_one (ps_ret (pe_cmpR op_lt (pe_op op_add (pe_fldK (K := K) rfl (pv 0) rfl) pe_int) (pe_callB (call_lenK (K := K) rfl) (by rfl) T.m_len PySem.boot_len (pa_cons (pe_fldK (K := K) rfl (pv 0) rfl) pa_nil)) (nomark _)))), ?_⟩
    walk_at "g"
    refine ⟨a, _, dx, _, _, rfl, ha, T.cl_Line, T.nA_Line__edition, rfl, ?_⟩
    walk_at "g"
    refine ⟨a, _, dx, _, _, rfl, ha, T.cl_Line, T.nA_Line__far, rfl, ?_⟩
    walk_at "g"
    refine ⟨f, _, rfl, .inr hf, ?_⟩
    walk_at "g"
    exact q
def sp_turn (K : PySem.W.Frag) (C : Addr) : Sp := fun vs H Q _ => ∃ (a l f : Addr) (xs : List V) (room ed tk : Int) (es : List V), vs = [.ref a] ∧ LnAt C H a l (.ref f) room ed tk es ∧ SqT K H f xs ∧
  (ed + 1 < xs.length → ∀ dx, H a = some (.ins C dx (lnFs (.ref f) (.ref l) room ed tk)) → Q (.bl true) (upd H a (.ins C dx (lnFs (.ref f) (.ref l) room (ed + 1) tk)))) ∧ (¬ ed + 1 < xs.length → Q (.bl false) H)
theorem ok_turn (T : Txt K mg) : FnOk P w K mg base CX0 3 T.f_Line_turn T.d_Line_turn ["self"] (sp_turn K T.C_Line) := by
  have G_Line_has_next := ok_hasnext (P := P) (w := w) (base := base) T
  refine T.F_Line_turn.ok sc_Line_turn (fun vs H Q E h => ?_) (fun cdv A outer s H vs Q E hr h => ?_)
  · obtain ⟨_, _, _, _, _, _, _, _, rfl, _⟩ := h
    rfl
  · obtain ⟨a, l, f, xs, room, ed, tk, es, rfl, ⟨dx, ha, hl⟩, hf, q1, q2⟩ := h
    refine ⟨_, (pss_cons (ps_if (pt_not (pt_truthK (K := K) rfl (pe_meth0 (pv 0) T.cl_Line ⟨T.a_Line_has_next, T.i_Line_has_next, T.F_Line_has_next.kp⟩ G_Line_has_next (hr.mono (by omega)) T.b_Line_has_next .nil pass0) (by intro _; rfl))) (pss_one (ps_ret pe_bl)) pss_nil)
      (pss_cons (ps_fldaug (pv 0) pe_int ip_add)
      (pss_one (ps_ret pe_bl)))), ?_⟩
    walk_at "g"
    refine ⟨a, dx, _, rfl, ha, rfl, ?_⟩
    walk_at "g"
    refine ⟨a, l, f, xs, room, ed, tk, es, rfl, ⟨dx, ha, hl⟩, hf, ?_⟩
    by_cases c : ed + 1 < xs.length
    · rw [decide_eq_true c]
      walk_at "g"
      refine ⟨a, _, dx, _, _, rfl, ha, T.cl_Line, T.nA_Line__edition, rfl, ?_⟩
      walk_at "g"
      refine ⟨dx, _, ha, (by decide : 5 < 1000), ?_⟩
      walk_at "g"
      exact q1 c dx ha
    · rw [decide_eq_false c]
      walk_at "g"
      exact q2 c
def sp_send (CE C : Addr) : Sp := fun vs H Q _ => ∃ (a l : Addr) (fv ov : V) (wd : Str) (who qn ans : Int) (room ed tk : Int) (es : List V) (st : List (List Int)) (M : Ms), vs = [.ref a, ov, .str wd, .int who, .int qn] ∧ LnAt C H a l fv room ed tk es ∧ Rp M H fv (.tuple (st.map rowD)) ∧ M a ∧ M l ∧ a ≠ l ∧ Mk M H ∧ es.length ≤ 1000 ∧
  (∃ (i j : Nat) (r : List Int), ed = (i : Int) ∧ st[i]? = some r ∧ qn = (j : Int) ∧ r[j]? = some ans) ∧
  ∀ H' x, Sx (also (one a) l) H H' → Gr H H' → EnAt CE M H' x ⟨ov, wd, who, tk, qn, ans⟩ → LnAt C H' a l fv room ed (tk + 1) (if ((es.length : Int) + 1) > room then (es ++ [x]).eraseIdx 0 else es ++ [x]) → Q x H'
theorem ok_send (T : Txt K mg) : FnOk P w K mg base CX0 4 T.f_Line_send T.d_Line_send ["self", "owner", "word", "who", "question"] (sp_send T.C_Entry T.C_Line) := by
  have G_Entry___init__ := ok_einit (P := P) (w := w) (base := base) T
  refine T.F_Line_send.ok sc_Line_send (fun vs H Q E h => ?_) (fun cdv A outer s H vs Q E hr h => ?_)
  · obtain ⟨_, _, _, _, _, _, _, _, _, _, _, _, _, _, rfl, _⟩ := h
    rfl
  · obtain ⟨a, l, fv, ov, wd, who, qn, ans, room, ed, tk, es, st, M, rfl, ⟨dx, ha, hl⟩, hF, ma, ml, al, hM, les, ⟨i, j, r, rfl, hi, rfl, hj⟩, q⟩ := h
    obtain ⟨f, xs, rfl, nf, hf, rx⟩ := Rp.tupX hF
    obtain ⟨y, hy, ry⟩ := rx.getD (i := i) (d := rowD r) (by rw [List.getElem?_map, hi]; rfl)
    obtain ⟨t, ys, rfl, nt, ht, rys⟩ := Rp.tupX (show Rp M H y (.tuple (r.map PyData.int)) from ry)
    have ey := rys.ofInts
    subst ey
    refine ⟨_, (pss_cons (ps_set (i := 5) sc_Line_send.nd rfl (Or.inl rfl) (pe_make ⟨T.mk_Entry, T.a_Entry___init__, T.i_Entry___init__, T.kc_Entry⟩ G_Entry___init__ (hr.mono (by omega)) (by rfl) T.g_Entry T.b_Entry___init__ .nil pass0 (pa_cons (pv 1) (pa_cons (pv 2) (pa_cons (pv 3) (pa_cons (pe_fldK (K := K) rfl (pv 0) rfl) (pa_cons (pv 4) (pa_cons (pe_ix (ix_tupK (K := K) rfl) (pe_ix (ix_tupK (K := K) rfl) (pe_fldK (K := K) rfl (pv 0) rfl) (pe_fldK (K := K) rfl (pv 0) rfl) (fun _ _ => rfl)) (pv 4) (fun _ _ => rfl)) pa_nil))))))))
      (pss_cons (ps_fldaug (pv 0) pe_int ip_add)
      (pss_cons (ps_expr (pe_bmK2 (K := K) rfl PySem.F.plainAttrs_list PySem.F.slot_list_append PySem.F.type_list_append mt_append (pe_fldK (K := K) rfl (pv 0) rfl) (pa_cons (pv 5) pa_nil)))
      (pss_cons (ps_if (pt_cmpR op_gt (pe_callB (call_lenK (K := K) rfl) (by rfl) T.m_len PySem.boot_len (pa_cons (pe_fldK (K := K) rfl (pv 0) rfl) pa_nil)) (pe_fldK (K := K) rfl (pv 0) rfl) (nomark _)) (pss_one (ps_delL (pe_fldK (K := K) rfl (pv 0) rfl) pe_int)) pss_nil)
      (pss_one (ps_ret (pv 5))))))), ?_⟩
    walk_at "g"
    refine ⟨a, _, dx, _, _, rfl, ha, T.cl_Line, T.nA_Line__tickets, rfl, ?_⟩
    walk_at "g"
    refine ⟨a, _, dx, _, _, rfl, ha, T.cl_Line, T.nA_Line__far, rfl, ?_⟩
    walk_at "g"
    refine ⟨a, _, dx, _, _, rfl, ha, T.cl_Line, T.nA_Line__edition, rfl, ?_⟩
    refine ⟨_, _, _, _, rfl, rfl, SqT.of hf, atI_nat hy, ?_⟩
    walk_at "g"
    refine ⟨_, _, _, _, rfl, rfl, SqT.of ht, (show atI (r.map V.int) (j : Int) = some (.int ans) from atI_nat (by rw [List.getElem?_map, hj]; rfl)), ?_⟩
    walk_at "g"
    intro xe de hxe hde hne
    have hx2 : upd H de (.own xe) xe = none := by rw [upd_ne (fun z => hne z.symm)]; exact hxe
    have s1 : Same H (upd (upd H de (.own xe)) xe (.ins T.C_Entry de [])) := (same_new hde).trans (same_new hx2)
    refine ⟨xe, de, ⟨ov, wd, who, tk, (j : Int), ans⟩, rfl, upd_same, ?_⟩
    have s2 : Same H (upd (upd (upd H de (.own xe)) xe (.ins T.C_Entry de [])) xe (.ins T.C_Entry de (En.fs ⟨ov, wd, who, tk, (j : Int), ans⟩))) := same_put s1 hxe
    have ee : upd (upd (upd H de (.own xe)) xe (.ins T.C_Entry de [])) xe (.ins T.C_Entry de (En.fs ⟨ov, wd, who, tk, (j : Int), ans⟩)) xe = some (.ins T.C_Entry de (En.fs ⟨ov, wd, who, tk, (j : Int), ans⟩)) := upd_same
    refine ⟨rfl, ?_⟩
    generalize upd (upd (upd H de (.own xe)) xe (.ins T.C_Entry de [])) xe (.ins T.C_Entry de (En.fs ⟨ov, wd, who, tk, (j : Int), ans⟩)) = H2 at s2 ee
    have ha2 := s2 _ _ ha
    have hl2 := s2 _ _ hl
    walk_at "g"
    refine ⟨a, _, dx, _, _, rfl, ha2, T.cl_Line, T.nA_Line__tickets, rfl, ?_⟩
    walk_at "g"
    refine ⟨dx, _, ha2, (by decide : 5 < 1000), ?_⟩
    have e3 : upd H2 a (.ins T.C_Line dx (putF (Str.ofString "_tickets") (.int (tk + 1)) (lnFs (.ref f) (.ref l) room (i : Int) tk))) a = some (.ins T.C_Line dx (lnFs (.ref f) (.ref l) room (i : Int) (tk + 1))) := upd_same
    have sa3 : Sx (one a) H2 (upd H2 a (.ins T.C_Line dx (putF (Str.ofString "_tickets") (.int (tk + 1)) (lnFs (.ref f) (.ref l) room (i : Int) tk)))) := Sx.put rfl
    have ga3 : Gr H2 (upd H2 a (.ins T.C_Line dx (putF (Str.ofString "_tickets") (.int (tk + 1)) (lnFs (.ref f) (.ref l) room (i : Int) tk)))) := Gr.upd
    generalize upd H2 a (.ins T.C_Line dx (putF (Str.ofString "_tickets") (.int (tk + 1)) (lnFs (.ref f) (.ref l) room (i : Int) tk))) = H3 at e3 sa3 ga3
    have hl3 := sa3 _ _ (show ¬ one a l from Ne.symm al) hl2
    walk_at "g"
    refine ⟨a, _, dx, _, _, rfl, e3, T.cl_Line, T.nA_Line__entries, rfl, ?_⟩
    walk_at "g"
    refine ⟨.inl ⟨rfl, _, SqL.of hl3⟩, ?_⟩
    walk_at "g"
    refine ⟨l, es, _, rfl, rfl, hl3, small1000000 (by omega), ?_⟩
    have e4 : upd H3 l (.lst (es ++ [.ref xe])) l = some (.lst (es ++ [.ref xe])) := upd_same
    have sl4 : Sx (one l) H3 (upd H3 l (.lst (es ++ [.ref xe]))) := Sx.put rfl
    have gl4 : Gr H3 (upd H3 l (.lst (es ++ [.ref xe]))) := Gr.upd
    generalize upd H3 l (.lst (es ++ [.ref xe])) = H4 at e4 sl4 gl4
    have e34 := sl4 _ _ (show ¬ one l a from al) e3
    have nxe : ¬ M xe := hM.out hxe
    have xea : xe ≠ a := fun z => by rw [z, ha] at hxe; cases hxe
    have xel : xe ≠ l := fun z => by rw [z, hl] at hxe; cases hxe
    have ee4 := sl4 _ _ (show ¬ one l xe from xel) (sa3 _ _ (show ¬ one a xe from xea) ee)
    have sx4 : Sx (also (one a) l) H H4 := (Sx.same s2).trans ((sa3.le fun c z => .inl z).trans (sl4.le fun c z => .inr z))
    have gr4 : Gr H H4 := (Gr.same s2).trans (ga3.trans gl4)
    have le : (es ++ [V.ref xe]).length = es.length + 1 := List.length_append
    walk_at "g"
    refine ⟨a, _, dx, _, _, rfl, e34, T.cl_Line, T.nA_Line__entries, rfl, ?_⟩
    walk_at "g"
    refine ⟨a, _, dx, _, _, rfl, e34, T.cl_Line, T.nA_Line__room, rfl, ?_⟩
    walk_at "g"
    walk_at "if"
    · rename_i c
      have c' : ((es.length : Int) + 1) > room := by
        have := of_decide_eq_true c
        omega
      walk_at "g"
      refine ⟨a, _, dx, _, _, rfl, e34, T.cl_Line, T.nA_Line__entries, rfl, ?_⟩
      walk_at "g"
      refine ⟨l, _, 0, 0, rfl, rfl, e4, by decide, by decide, ?_, ?_⟩
      · have := seqIx (n := (es ++ [V.ref xe]).length) (j := 0) (by omega)
        exact this
      walk_at "g"
      have sl5 : Sx (one l) H4 (upd H4 l (.lst ((es ++ [V.ref xe]).eraseIdx 0))) := Sx.put rfl
      refine q _ _ (sx4.trans (sl5.le fun c z => .inr z)) (gr4.trans Gr.upd) ⟨xe, de, rfl, nxe, sl5 _ _ (show ¬ one l xe from xel) ee4⟩ ⟨dx, sl5 _ _ (show ¬ one l a from al) e34, ?_⟩
      rw [if_pos c']
      exact upd_same
    · rename_i c
      have c' : ¬ ((es.length : Int) + 1) > room := fun z => c (decide_eq_true (by omega))
      walk_at "g"
      refine q _ _ sx4 gr4 ⟨xe, de, rfl, nxe, ee4⟩ ⟨dx, e34, ?_⟩
      rw [if_neg c']
      exact e4
end
end D

namespace D
open PySem PySem.Spec PyProof.Rows L2
local macro_rules | `(tactic| walk_at "st") => `(tactic| first | exact SqT.of (by assumption) | exact Or.inl (by assumption) | exact SqT.of upd_same | fail "st")
local macro_rules | `(tactic| walk_at "ixt") => `(tactic| refine ⟨_, _, _, _, rfl, rfl, (by walk_at "st" : SqT _ _ _ _), by rfl, ?_⟩)
local macro_rules | `(tactic| walk_at "sq") => `(tactic| first | exact SqL.of (by assumption) | assumption | exact Or.inl (by assumption) | exact SqL.of upd_same | fail "sq")
local macro_rules | `(tactic| walk_at "ix") => `(tactic| refine ⟨_, _, _, _, rfl, rfl, (by walk_at "sq" : SqL _ _ _ _), by rfl, ?_⟩)
local macro_rules | `(tactic| walk_at "set") => `(tactic| refine ⟨_, _, _, _, rfl, rfl, by first | assumption | exact upd_same, by rfl, ?_⟩)
local macro_rules | `(tactic| walk_at "len") => `(tactic| refine ⟨_, _, rfl, Or.inl (by walk_at "sq" : SqL _ _ _ _), ?_⟩)
local macro_rules | `(tactic| walk_at "g") => `(tactic| repeat (first | refine ⟨_, rfl, ?_⟩ | refine ⟨_, _, rfl, rfl, ?_⟩ | refine ⟨Or.inr (by decide), ?_⟩ | refine ⟨Or.inl (by decide), ?_⟩ | refine ⟨(by decide : (0 : Int) < _), ?_⟩ | refine ⟨(⟨by decide, by decide⟩ : CDiv _ _), ?_⟩ | refine ⟨(⟨by decide, by decide, by decide⟩ : CPow _ _), ?_⟩ | refine Or.inl ⟨_, rfl, ?_⟩ | refine ⟨rfl, ?_⟩ | walk_at "ix" | walk_at "ixt" | walk_at "len" | fail "g"))
local macro_rules | `(tactic| walk_at "if") => `(tactic| refine ite2 (fun e => ?_) (fun e => ?_))
section
variable {P : Program} {w : World} {K : PySem.W.Frag} {mg : Str → Option Value} {base : Heap}
def sNumber : Str := "number"
theorem ok_noanswer (T : Txt K mg) : FnOk P w K mg base CX0 1 T.f_NoAnswer___init__ T.d_NoAnswer___init__ ["self", "number"] (sp_err1 K T.C_NoAnswer sNumber) := by
  refine T.F_NoAnswer___init__.ok sc_NoAnswer___init__ (fun vs H Q E h => ?_) (fun cdv A outer s H vs Q E hr h => ?_)
  · obtain ⟨_, _, rfl, _⟩ := h
    rfl
  · obtain ⟨a, y, rfl, ox, no, ha, q⟩ := h
    refine ⟨_, (pss_one (ps_ost (pv 0) (pv 1))), ?_⟩
    walk_at "g"
    exact ⟨a, _, rfl, ox, no, .inl ⟨ha, fun dx h n => q dx h n⟩⟩
def sp_takemiss (C CE : Addr) : Sp := fun vs H Q E => ∃ (a l : Addr) (fv : V) (room ed tk n : Int) (es : List V), vs = [.ref a, .int n] ∧ LnAt C H a l fv room ed tk es ∧ (n < 0 ∨ (es.length : Int) ≤ n) ∧
  ∀ d, H d = none → E (.ref CE) (some d) (upd H d (.xd [(sNumber, .int n)]))
theorem ok_takemiss (T : Txt K mg) : FnOk P w K mg base (L2.CX P w) 3 T.f_Line_take T.d_Line_take ["self", "number"] (sp_takemiss T.C_Line T.C_NoAnswer) := by
  have G_is_whole := ok_is_whole (P := P) (w := w) (base := base) T
  have G_NoAnswer___init__ := ok_noanswer (P := P) (w := w) (base := base) T
  refine T.F_Line_take.okX sc_Line_take (fun vs H Q E h => ?_) (fun cdv A outer s H vs Q E hr h => ?_)
  · obtain ⟨_, _, _, _, _, _, _, _, rfl, _⟩ := h
    rfl
  · obtain ⟨a, l, fv, room, ed, tk, n, es, rfl, ⟨dx, ha, hl⟩, hn, q⟩ := h
    refine ⟨_, (pss_cons (ps_if (PW.pt (pw_or (pt_not (pt_val (pe_call G_is_whole (hr.mono (by omega)) (by rfl) T.g_is_whole T.F_is_whole.kp T.b_is_whole .nil pass0 (pa_cons (pv 1) pa_nil)))) (pw_or1 (pt_not (pt_chain op_le op_lt pe_int (pv 1) (pe_callB (call_lenK (K := K) rfl) (by rfl) T.m_len PySem.boot_len (pa_cons (pe_fldK (K := K) rfl (pv 0) rfl) pa_nil))))))) (pss_one (ps_raise rfl (takes_of rfl rfl rfl rfl) (pmk_oex T.ox_NoAnswer T.iC_NoAnswer T.tI_NoAnswer G_NoAnswer___init__ (hr.mono (by omega)) T.b_NoAnswer___init__ .nil pass0 (by rfl) T.g_NoAnswer (pa_cons (pv 1) pa_nil)))) pss_nil)
      (pss_one (ps_ret (pe_bmK2 (K := K) rfl PySem.F.plainAttrs_list PySem.F.slot_list_pop PySem.F.type_list_pop mt_popAt (pe_fldK (K := K) rfl (pv 0) rfl) (pa_cons (pv 1) pa_nil))))), ?_⟩
    walk_at "g"
    by_cases c : (0 : Int) ≤ n
    · have c2 : ¬ n < (es.length : Int) := by omega
      rw [decide_eq_true c, if_pos rfl]
      walk_at "g"
      refine ⟨a, _, dx, _, _, rfl, ha, T.cl_Line, T.nA_Line__entries, rfl, ?_⟩
      walk_at "g"
      rw [decide_eq_false c2]
      walk_at "g"
      exact mk_err1 T.ox_NoAnswer T.nf_NoAnswer_number q
    · rw [decide_eq_false c, if_neg Bool.false_ne_true]
      walk_at "g"
      exact mk_err1 T.ox_NoAnswer T.nf_NoAnswer_number q
def sp_copy (C : Addr) : Sp := fun vs H Q _ => ∃ (a l f : Addr) (xs : List V) (room ed tk : Int) (es : List V), vs = [.ref a] ∧ LnAt C H a l (.ref f) room ed tk es ∧ Rd H f (.tup xs) ∧ es.length ≤ 1000 ∧
  ∀ H' a2 l2, Same H H' → H a2 = none → H l2 = none → a2 ≠ l2 → LnAt C H' a2 l2 (.ref f) room ed tk es → Q (.ref a2) H'
theorem ok_copy (T : Txt K mg) : FnOk P w K mg base CX0 4 T.f_Line_copy T.d_Line_copy ["self"] (sp_copy T.C_Line) := by
  have G_Line___init__ := ok_linit (P := P) (w := w) (base := base) T
  refine T.F_Line_copy.ok sc_Line_copy (fun vs H Q E h => ?_) (fun cdv A outer s H vs Q E hr h => ?_)
  · obtain ⟨_, _, _, _, _, _, _, _, rfl, _⟩ := h
    rfl
  · obtain ⟨a, l, f, xs, room, ed, tk, es, rfl, ⟨dx, ha, hl⟩, hf, les, q⟩ := h
    refine ⟨_, (pss_cons (ps_set (i := 1) sc_Line_copy.nd rfl (Or.inl rfl) (pe_make ⟨T.mk_Line, T.a_Line___init__, T.i_Line___init__, T.kc_Line⟩ G_Line___init__ (hr.mono (by omega)) (by rfl) T.g_Line T.b_Line___init__ .nil pass0 (pa_cons (pe_fldK (K := K) rfl (pv 0) rfl) (pa_cons (pe_fldK (K := K) rfl (pv 0) rfl) pa_nil))))
      (pss_cons (ps_fld (pv 1) (pe_fldK (K := K) rfl (pv 0) rfl) rfl)
      (pss_cons (ps_fld (pv 1) (pe_fldK (K := K) rfl (pv 0) rfl) rfl)
      (pss_cons (ps_fld (pv 1) (pe_callTy (call_listK (K := K) rfl) (by rfl) T.m_list (by decide +kernel) (pa_cons (pe_fldK (K := K) rfl (pv 0) rfl) pa_nil)) rfl)
      (pss_one (ps_ret (pv 1))))))), ?_⟩
    walk_at "g"
    refine ⟨a, _, dx, _, _, rfl, ha, T.cl_Line, T.nA_Line__far, rfl, ?_⟩
    walk_at "g"
    refine ⟨a, _, dx, _, _, rfl, ha, T.cl_Line, T.nA_Line__room, rfl, ?_⟩
    walk_at "g"
    intro xa da hxa hda hne
    have hx2 : upd H da (.own xa) xa = none := by rw [upd_ne (fun z => hne z.symm)]; exact hxa
    have s1 : Same H (upd (upd H da (.own xa)) xa (.ins T.C_Line da [])) := (same_new hda).trans (same_new hx2)
    have e1 : upd (upd H da (.own xa)) xa (.ins T.C_Line da []) xa = some (.ins T.C_Line da []) := upd_same
    generalize upd (upd H da (.own xa)) xa (.ins T.C_Line da []) = H1 at s1 e1
    have hf1 : Rd H1 f (.tup xs) := hf.elim (fun z => .inl (s1 _ _ z)) fun ⟨o, z⟩ => .inr ⟨o, s1 _ _ z⟩
    refine ⟨xa, da, f, xs, room, rfl, e1, hf1, fun l2 hl2 => ?_⟩
    have l2x : l2 ≠ xa := fun z => by rw [z, e1] at hl2; cases hl2
    have hl2' : H l2 = none := s1.free hl2
    have s2 : Same H1 (upd H1 l2 (.lst [])) := same_new hl2
    have s3 : Same H (upd (upd H1 l2 (.lst [])) xa (.ins T.C_Line da (lnFs (.ref f) (.ref l2) room 0 0))) := same_put (s1.trans s2) hxa
    have e3 : upd (upd H1 l2 (.lst [])) xa (.ins T.C_Line da (lnFs (.ref f) (.ref l2) room 0 0)) xa = some (.ins T.C_Line da (lnFs (.ref f) (.ref l2) room 0 0)) := upd_same
    refine ⟨rfl, ?_⟩
    generalize upd (upd H1 l2 (.lst [])) xa (.ins T.C_Line da (lnFs (.ref f) (.ref l2) room 0 0)) = H3 at s3 e3
    walk_at "g"
    refine ⟨a, _, dx, _, _, rfl, s3 _ _ ha, T.cl_Line, T.nA_Line__edition, rfl, ?_⟩
    walk_at "g"
    refine ⟨xa, _, da, _, rfl, e3, T.cl_Line, T.nA_Line__edition, (by decide : 5 < 1000), ?_⟩
    have xaa : xa ≠ a := fun z => by rw [z, ha] at hxa; cases hxa
    have xal : xa ≠ l := fun z => by rw [z, hl] at hxa; cases hxa
    have e4 : upd H3 xa (.ins T.C_Line da (putF (Str.ofString "_edition") (.int ed) (lnFs (.ref f) (.ref l2) room 0 0))) xa = some (.ins T.C_Line da (lnFs (.ref f) (.ref l2) room ed 0)) := upd_same
    have s4 : Same H (upd H3 xa (.ins T.C_Line da (putF (Str.ofString "_edition") (.int ed) (lnFs (.ref f) (.ref l2) room 0 0)))) := same_put s3 hxa
    generalize upd H3 xa (.ins T.C_Line da (putF (Str.ofString "_edition") (.int ed) (lnFs (.ref f) (.ref l2) room 0 0))) = H4 at s4 e4
    walk_at "g"
    refine ⟨a, _, dx, _, _, rfl, s4 _ _ ha, T.cl_Line, T.nA_Line__tickets, rfl, ?_⟩
    walk_at "g"
    refine ⟨xa, _, da, _, rfl, e4, T.cl_Line, T.nA_Line__tickets, (by decide : 5 < 1000), ?_⟩
    have e5 : upd H4 xa (.ins T.C_Line da (putF (Str.ofString "_tickets") (.int tk) (lnFs (.ref f) (.ref l2) room ed 0))) xa = some (.ins T.C_Line da (lnFs (.ref f) (.ref l2) room ed tk)) := upd_same
    have s5 : Same H (upd H4 xa (.ins T.C_Line da (putF (Str.ofString "_tickets") (.int tk) (lnFs (.ref f) (.ref l2) room ed 0)))) := same_put s4 hxa
    generalize upd H4 xa (.ins T.C_Line da (putF (Str.ofString "_tickets") (.int tk) (lnFs (.ref f) (.ref l2) room ed 0))) = H5 at s5 e5
    have hl5 := s5 _ _ hl
    walk_at "g"
    refine ⟨a, _, dx, _, _, rfl, s5 _ _ ha, T.cl_Line, T.nA_Line__entries, rfl, ?_⟩
    walk_at "g"
    intro l3 hl3
    have hl3' : H l3 = none := s5.free hl3
    have l3x : l3 ≠ xa := fun z => by rw [z, e5] at hl3; cases hl3
    walk_at "g"
    refine ⟨xa, _, da, _, rfl, (upd_ne (Ne.symm l3x)).trans e5, T.cl_Line, T.nA_Line__entries, (by decide : 5 < 1000), ?_⟩
    walk_at "g"
    refine q _ xa l3 (same_put (s5.trans (same_new hl3)) hxa) hxa hl3' (Ne.symm l3x) ⟨da, upd_same, ?_⟩
    rw [upd_ne l3x]
    exact upd_same
end
end D

namespace D
open PySem PySem.Spec PyProof.Rows L2
local macro_rules | `(tactic| walk_at "st") => `(tactic| first | exact SqT.of (by assumption) | exact Or.inl (by assumption) | exact SqT.of upd_same | fail "st")
local macro_rules | `(tactic| walk_at "ixt") => `(tactic| refine ⟨_, _, _, _, rfl, rfl, (by walk_at "st" : SqT _ _ _ _), by rfl, ?_⟩)
local macro_rules | `(tactic| walk_at "sq") => `(tactic| first | exact SqL.of (by assumption) | assumption | exact Or.inl (by assumption) | exact SqL.of upd_same | fail "sq")
local macro_rules | `(tactic| walk_at "ix") => `(tactic| refine ⟨_, _, _, _, rfl, rfl, (by walk_at "sq" : SqL _ _ _ _), by rfl, ?_⟩)
local macro_rules | `(tactic| walk_at "set") => `(tactic| refine ⟨_, _, _, _, rfl, rfl, by first | assumption | exact upd_same, by rfl, ?_⟩)
local macro_rules | `(tactic| walk_at "len") => `(tactic| refine ⟨_, _, rfl, Or.inl (by walk_at "sq" : SqL _ _ _ _), ?_⟩)
local macro_rules | `(tactic| walk_at "g") => `(tactic| repeat (first | refine ⟨_, rfl, ?_⟩ | refine ⟨_, _, rfl, rfl, ?_⟩ | refine ⟨Or.inr (by decide), ?_⟩ | refine ⟨Or.inl (by decide), ?_⟩ | refine ⟨(by decide : (0 : Int) < _), ?_⟩ | refine ⟨(⟨by decide, by decide⟩ : CDiv _ _), ?_⟩ | refine ⟨(⟨by decide, by decide, by decide⟩ : CPow _ _), ?_⟩ | refine Or.inl ⟨_, rfl, ?_⟩ | refine ⟨rfl, ?_⟩ | walk_at "ix" | walk_at "ixt" | walk_at "len" | fail "g"))
local macro_rules | `(tactic| walk_at "if") => `(tactic| refine ite2 (fun e => ?_) (fun e => ?_))
section
variable {P : Program} {w : World} {K : PySem.W.Frag} {mg : Str → Option Value} {base : Heap}
theorem ints_rp {M : Ms} {H : Hp} : ∀ ws : List Int, RpAll M H (ws.map V.int) (ws.map PyData.int)
  | [] => .nil
  | n :: r => .cons (.int _) (ints_rp r)
theorem ints_lay : ∀ ws : List Int, PyData.canLayAll0 (ws.map PyData.int) = true
  | [] => rfl
  | n :: r => by
    show PyData.canLayAll0 (PyData.int n :: _) = true
    simp only [PyData.canLayAll0, PyData.canLay0, ints_lay r, Bool.and_self]
theorem ints_deep : ∀ ws : List Int, PyData.depthAll (ws.map PyData.int) ≤ 0
  | [] => Nat.le_refl _
  | n :: r => by
    have := ints_deep r
    show PyData.depthAll (PyData.int n :: _) ≤ 0
    simp only [PyData.depthAll, PyData.depth]
    omega
theorem ints_shaped (ws : List Int) : SeqAt.shaped (.list (ws.map PyData.int)) = true := by
  have h := ints_deep ws
  refine Bool.and_eq_true_iff.mpr ⟨ints_lay ws, decide_eq_true ?_⟩
  show PyData.depth (.list _) ≤ _
  simp only [PyData.depth]
  omega
theorem ints_eqvAll : ∀ a b : List Int, PyData.eqvAll (a.map PyData.int) (b.map PyData.int) = decide (a = b)
  | [], [] => rfl
  | [], _ :: _ => rfl
  | _ :: _, [] => rfl
  | x :: a, y :: b => by
    show PyData.eqvAll (PyData.int x :: _) (PyData.int y :: _) = _
    simp only [PyData.eqvAll, PyData.eqv, ints_eqvAll a b]
    rw [Bool.eq_iff_iff]
    simp
theorem ints_eqv (a b : List Int) : PyData.eqv (.list (a.map PyData.int)) (.list (b.map PyData.int)) = decide (a = b) := by
  simp only [PyData.eqv, ints_eqvAll]
theorem ints_shapedT (ws : List Int) : SeqAt.shaped (.tuple (ws.map PyData.int)) = true := by
  have h := ints_deep ws
  refine Bool.and_eq_true_iff.mpr ⟨ints_lay ws, decide_eq_true ?_⟩
  show PyData.depth (.tuple _) ≤ _
  simp only [PyData.depth]
  omega
theorem ints_eqvT (a b : List Int) : PyData.eqv (.tuple (a.map PyData.int)) (.tuple (b.map PyData.int)) = decide (a = b) := by
  simp only [PyData.eqv, ints_eqvAll]
theorem rows_lay : ∀ st : List (List Int), PyData.canLayAll0 (st.map rowD) = true
  | [] => rfl
  | n :: r => by
    show PyData.canLayAll0 (rowD n :: _) = true
    simp only [PyData.canLayAll0, rowD, PyData.canLay0, rows_lay r, ints_lay n, Bool.and_self]
theorem rows_deep : ∀ st : List (List Int), PyData.depthAll (st.map rowD) ≤ 1
  | [] => by simp [PyData.depthAll]
  | n :: r => by
    have := rows_deep r
    have := ints_deep n
    show PyData.depthAll (rowD n :: _) ≤ 1
    simp only [PyData.depthAll, rowD, PyData.depth]
    omega
def ownD (st : List (List Int)) : PyData := .tuple (st.map rowD)
theorem own_shaped (st : List (List Int)) : SeqAt.shaped (ownD st) = true := by
  have h := rows_deep st
  refine Bool.and_eq_true_iff.mpr ⟨rows_lay st, decide_eq_true ?_⟩
  show PyData.depth (.tuple _) ≤ _
  simp only [PyData.depth]
  omega
theorem rows_eqvAll : ∀ st : List (List Int), PyData.eqvAll (st.map rowD) (st.map rowD) = true
  | [] => rfl
  | n :: r => by
    show PyData.eqvAll (rowD n :: _) (rowD n :: _) = true
    have h : PyData.eqv (rowD n) (rowD n) = true := (ints_eqvT n n).trans (decide_eq_true rfl)
    simp only [PyData.eqvAll, h, rows_eqvAll r, Bool.and_self]
theorem own_eqv (st : List (List Int)) : PyData.eqv (ownD st) (ownD st) = true := by
  show PyData.eqv (.tuple _) (.tuple _) = true
  simp only [PyData.eqv, rows_eqvAll]
/-- the law's row of an entry -/
def RwAt (M : Ms) (H : Hp) (v : V) (e : En) : Prop := ∃ t, v = .ref t ∧ ¬ M t ∧ H t = some (.tup [e.ov, .str e.word, .int e.who, .int e.ticket, .int e.question, .int e.answer])
theorem RwAt.sx {M : Ms} {H H' : Hp} {v : V} {e : En} (h : RwAt M H v e) (s : Sx M H H') : RwAt M H' v e := by
  obtain ⟨a, rfl, n, ha⟩ := h
  exact ⟨a, rfl, n, s _ _ n ha⟩
theorem RwAt.fresh {M : Ms} {H : Hp} {v : V} {e : En} {p : Addr} (h : RwAt M H v e) (hp : H p = none) : RwAt (also M p) H v e := by
  obtain ⟨a, rfl, n, ha⟩ := h
  exact ⟨a, rfl, fun z => z.elim n fun z => (by rw [show a = p from z, hp] at ha; cases ha), ha⟩
def sp_same (K : PySem.W.Frag) (C : Addr) : Sp := fun vs H Q _ => ∃ (x r : V) (e : En) (st : List (List Int)) (M : Ms), vs = [x, r] ∧ EnAt C M H x e ∧ RwAt M H r e ∧ Rp M H e.ov (ownD st) ∧ Mk M H ∧ ∀ H', Same H H' → Q (.bl true) H'
theorem ok_same (T : Txt K mg) : FnOk P w K mg base CX0 3 T.f__law_same_entry T.d__law_same_entry ["_law_entry", "_law_row"] (sp_same K T.C_Entry) := by
  have G__law_number := ok_number (P := P) (w := w) (base := base) T
  refine T.F__law_same_entry.ok sc__law_same_entry (fun vs H Q E h => ?_) (fun cdv A outer s H vs Q E hr h => ?_)
  · obtain ⟨_, _, _, _, _, rfl, _⟩ := h
    rfl
  · obtain ⟨x, r, ⟨ov, wd, who, tk, qn, ans⟩, st, M, rfl, ⟨a, dx, rfl, na, ha⟩, ⟨t, rfl, nt, ht⟩, hO, hM, q⟩ := h
    dsimp only [En.fs] at ha ht hO
    have fld : ∀ {f : Str} {v : V}, (List.lookup f [("owner", ov), ("word", .str wd), ("who", .int who), ("ticket", .int tk), ("question", .int qn), ("answer", .int ans)] = some v) → True := fun _ => trivial
    obtain ⟨oa, oxs, eo, no, ho, rxo⟩ := Rp.tupX hO
    subst eo
    refine ⟨_, (pss_cons (ps_if (PW.pt (pw_or (pt_not (pt_val (pe_callB (call_isCK T.in_Entry) (by rfl) T.m_isinstance (by decide +kernel) (pa_cons (pv 0) (pa_cons (pe_glob (v := .ref T.C_Entry) rfl T.g_Entry rfl) pa_nil))))) (pw_or (pt_cmpR (op_neDK (K := K) rfl hr.units) (pe_fldK (K := K) rfl (pv 0) rfl) (pe_ix (ix_tupK (K := K) rfl) (pv 1) pe_int (fun _ _ => rfl)) (nomark _)) (pw_or1 (pt_cmpR op_ne (pe_fldK (K := K) rfl (pv 0) rfl) (pe_ix (ix_tupK (K := K) rfl) (pv 1) pe_int (fun _ _ => rfl)) (nomark _)))))) (pss_one (ps_ret pe_bl)) pss_nil)
      (pss_cons (ps_if (PW.pt (pw_or (pt_not (pt_val (pe_call G__law_number (hr.mono (by omega)) (by rfl) T.g__law_number T.F__law_number.kp T.b__law_number .nil pass0 (pa_cons (pe_fldK (K := K) rfl (pv 0) rfl) pa_nil)))) (pw_or (pt_not (pt_val (pe_call G__law_number (hr.mono (by omega)) (by rfl) T.g__law_number T.F__law_number.kp T.b__law_number .nil pass0 (pa_cons (pe_fldK (K := K) rfl (pv 0) rfl) pa_nil)))) (pw_or1 (pt_not (pt_val (pe_call G__law_number (hr.mono (by omega)) (by rfl) T.g__law_number T.F__law_number.kp T.b__law_number .nil pass0 (pa_cons (pe_fldK (K := K) rfl (pv 0) rfl) pa_nil)))))))) (pss_one (ps_ret pe_bl)) pss_nil)
      (pss_cons (ps_if (PW.pt (pw_or (pt_not (pt_val (pe_call G__law_number (hr.mono (by omega)) (by rfl) T.g__law_number T.F__law_number.kp T.b__law_number .nil pass0 (pa_cons (pe_fldK (K := K) rfl (pv 0) rfl) pa_nil)))) (pw_or1 (pt_not (pt_val (pe_callB (call_isi1K (K := K) rfl) (by rfl) T.m_isinstance (by decide +kernel) (pa_cons (pe_fldK (K := K) rfl (pv 0) rfl) (pa_cons (pe_bltn (v := .ty "tuple") (u := .type "tuple") (by rfl) T.m_tuple (by decide +kernel) rfl) pa_nil)))))))) (pss_one (ps_ret pe_bl)) pss_nil)
      (pss_one (ps_ret (pe_cmpR (op_eqDK (K := K) rfl hr.units) (pe_tup (pa_cons (pe_fldK (K := K) rfl (pv 0) rfl) (pa_cons (pe_fldK (K := K) rfl (pv 0) rfl) (pa_cons (pe_fldK (K := K) rfl (pv 0) rfl) (pa_cons (pe_fldK (K := K) rfl (pv 0) rfl) pa_nil))))) (pe_slice (sl_tupK (K := K) rfl) (pv 1) (po_some pe_int) po_none) (nomark _))))))), ?_⟩
    walk_at "g"
    refine ⟨a, dx, _, rfl, ha, ?_⟩
    walk_at "g"
    refine ⟨a, _, dx, _, _, rfl, ha, T.cl_Entry, T.nA_Entry_owner, rfl, ?_⟩
    walk_at "g"
    have d0 : Dp K H (.ref oa) (ownD st) := Rp.dp _ _ hO
    refine ⟨_, _, d0, d0, own_shaped _, own_shaped _, ?_⟩
    rw [own_eqv]
    walk_at "g"
    refine ⟨a, _, dx, _, _, rfl, ha, T.cl_Entry, T.nA_Entry_word, rfl, ?_⟩
    walk_at "g"
    rw [decide_eq_true (show V.str wd = V.str wd from rfl)]
    walk_at "g"
    refine ⟨a, _, dx, _, _, rfl, ha, T.cl_Entry, T.nA_Entry_who, rfl, ?_⟩
    walk_at "g"
    refine ⟨a, _, dx, _, _, rfl, ha, T.cl_Entry, T.nA_Entry_ticket, rfl, ?_⟩
    walk_at "g"
    refine ⟨a, _, dx, _, _, rfl, ha, T.cl_Entry, T.nA_Entry_question, rfl, ?_⟩
    walk_at "g"
    refine ⟨a, _, dx, _, _, rfl, ha, T.cl_Entry, T.nA_Entry_answer, rfl, ?_⟩
    walk_at "g"
    refine ⟨a, _, dx, _, _, rfl, ha, T.cl_Entry, T.nA_Entry_owner, rfl, ?_⟩
    walk_at "g"
    refine ⟨_, _, _, _, true, rfl, .ty _, rd_ty (.inl ho), kit_ty (by decide +kernel), ?_⟩
    walk_at "g"
    refine ⟨a, _, dx, _, _, rfl, ha, T.cl_Entry, T.nA_Entry_who, rfl, ?_⟩
    walk_at "g"
    refine ⟨a, _, dx, _, _, rfl, ha, T.cl_Entry, T.nA_Entry_ticket, rfl, ?_⟩
    walk_at "g"
    refine ⟨a, _, dx, _, _, rfl, ha, T.cl_Entry, T.nA_Entry_question, rfl, ?_⟩
    walk_at "g"
    refine ⟨a, _, dx, _, _, rfl, ha, T.cl_Entry, T.nA_Entry_answer, rfl, ?_⟩
    walk_at "g"
    refine ⟨szK rfl, fun p1 hp1 => ?_⟩
    have s1 : Same H (upd H p1 (.tup [.int who, .int tk, .int qn, .int ans])) := same_new hp1
    have e1 : upd H p1 (.tup [.int who, .int tk, .int qn, .int ans]) p1 = some (.tup [.int who, .int tk, .int qn, .int ans]) := upd_same
    generalize upd H p1 (.tup [.int who, .int tk, .int qn, .int ans]) = H1 at s1 e1
    walk_at "g"
    refine ⟨t, _, rfl, SqT.of (s1 _ _ ht), fun z => absurd z.1 (show ¬ (2 : Nat) = 0 by decide), fun _ p2 hp2 => ?_⟩
    have ec : cutV [V.ref oa, V.str wd, .int who, .int tk, .int qn, .int ans] (some 2) none = [.int who, .int tk, .int qn, .int ans] := rfl
    rw [ec]
    have np : p1 ≠ p2 := fun z => by rw [← z, e1] at hp2; cases hp2
    have s2 : Same H1 (upd H1 p2 (.tup [.int who, .int tk, .int qn, .int ans])) := same_new hp2
    have d1 : Dp K (upd H1 p2 (.tup [.int who, .int tk, .int qn, .int ans])) (.ref p1) (.tuple ([who, tk, qn, ans].map PyData.int)) := .tup (.inl (.inl (s2 _ _ e1))) (RpAll.dp (M := fun _ => False) _ _ (ints_rp [who, tk, qn, ans]))
    have d2 : Dp K (upd H1 p2 (.tup [.int who, .int tk, .int qn, .int ans])) (.ref p2) (.tuple ([who, tk, qn, ans].map PyData.int)) := .tup (.inl (.inl upd_same)) (RpAll.dp (M := fun _ => False) _ _ (ints_rp [who, tk, qn, ans]))
    refine ⟨_, _, d1, d2, ints_shapedT _, ints_shapedT _, ?_⟩
    rw [ints_eqvT, decide_eq_true rfl]
    exact q _ (s1.trans s2)
/-- rows and entries side by side -/
def PairsAt (C : Addr) (M : Ms) (H : Hp) (xs rs : List V) (es : List (En × List (List Int))) : Prop := xs.length = es.length ∧ rs.length = es.length ∧ ∀ (i : Nat) (p : En × List (List Int)), es[i]? = some p → ∃ x r, xs[i]? = some x ∧ rs[i]? = some r ∧ EnAt C M H x p.1 ∧ RwAt M H r p.1 ∧ Rp M H p.1.ov (ownD p.2)
theorem PairsAt.sx {C : Addr} {M : Ms} {H H' : Hp} {xs rs : List V} {es : List (En × List (List Int))} (h : PairsAt C M H xs rs es) (s : Sx M H H') : PairsAt C M H' xs rs es := ⟨h.1, h.2.1, fun i p hp => by
  obtain ⟨x, r, h1, h2, h3, h4, h5⟩ := h.2.2 i p hp
  exact ⟨x, r, h1, h2, h3.sx s, h4.sx s, h5.sx s⟩⟩
theorem PairsAt.fresh {C : Addr} {M : Ms} {H : Hp} {xs rs : List V} {es : List (En × List (List Int))} {p : Addr} (h : PairsAt C M H xs rs es) (hp : H p = none) : PairsAt C (also M p) H xs rs es := ⟨h.1, h.2.1, fun i q hq => by
  obtain ⟨x, r, h1, h2, h3, h4, h5⟩ := h.2.2 i q hq
  exact ⟨x, r, h1, h2, h3.fresh hp, h4.fresh hp, h5.fresh hp⟩⟩
/-- the law's record of a line -/
def LmAt (M : Ms) (H : Hp) (m : Addr) (fv : V) (room ed tk : Int) (rs : List V) : Prop := ∃ r, ¬ M r ∧ H m = some (.lst [.ref r, .int tk, .int ed, fv, .int room]) ∧ H r = some (.lst rs)
def sp_sameline (K : PySem.W.Frag) (CE C : Addr) : Sp := fun vs H Q _ => ∃ (a l m : Addr) (fv : V) (room ed tk : Int) (xs rs : List V) (es : List (En × List (List Int))) (M : Ms), vs = [.ref a, .ref m] ∧ LnAt C H a l fv room ed tk xs ∧ LmAt M H m fv room ed tk rs ∧ PairsAt CE M H xs rs es ∧ es.length ≤ 1000 ∧ Mk M H ∧ ∀ H', Same H H' → Q (.bl true) H'
theorem ok_sameline (T : Txt K mg) : FnOk P w K mg base CX0 5 T.f__law_same_line T.d__law_same_line ["_law_line", "_law_model"] (sp_sameline K T.C_Entry T.C_Line) := by
  have G__law_number := ok_number (P := P) (w := w) (base := base) T
  have G__law_same_entry := ok_same (P := P) (w := w) (base := base) T
  have G_Line_entries := ok_entries (P := P) (w := w) (base := base) T
  have G_Line_edition := ok_edition (P := P) (w := w) (base := base) T
  refine T.F__law_same_line.ok sc__law_same_line (fun vs H Q E h => ?_) (fun cdv A outer s H vs Q E hr h => ?_)
  · obtain ⟨_, _, _, _, _, _, _, _, _, _, _, rfl, _⟩ := h
    rfl
  · obtain ⟨a, l, m, fv, room, ed, tk, xs, rs, es, M, rfl, ⟨dx, ha, hl⟩, ⟨r, nr, hm, hr'⟩, hP, les, hM, q⟩ := h
    obtain ⟨lx, lr, hP'⟩ := id hP
    refine ⟨_, (pss_cons (ps_set (i := 2) sc__law_same_line.nd rfl (Or.inl rfl) (pe_meth0 (pv 0) T.cl_Line ⟨T.a_Line_entries, T.i_Line_entries, T.F_Line_entries.kp⟩ G_Line_entries (hr.mono (by omega)) T.b_Line_entries .nil pass0))
      (pss_cons (ps_if (PW.pt (pw_or (pt_not (pt_val (pe_callB (call_isi1K (K := K) rfl) (by rfl) T.m_isinstance (by decide +kernel) (pa_cons (pv 2) (pa_cons (pe_bltn (v := .ty "list") (u := .type "list") (by rfl) T.m_list (by decide +kernel) rfl) pa_nil))))) (pw_or1 (pt_cmpR op_ne (pe_callB (call_lenK (K := K) rfl) (by rfl) T.m_len PySem.boot_len (pa_cons (pv 2) pa_nil)) (pe_callB (call_lenK (K := K) rfl) (by rfl) T.m_len PySem.boot_len (pa_cons (pe_ix (ix_listK (K := K) rfl) (pv 1) pe_int (fun _ _ => rfl)) pa_nil)) (nomark _))))) (pss_one (ps_ret pe_bl)) pss_nil)
      (pss_cons (ps_for PassesOwn.never rfl (pi_zipK (K := K) rfl (by rfl) T.m_zip (pa_cons (pv 2) (pa_cons (pe_ix (ix_listK (K := K) rfl) (pv 1) pe_int (fun _ _ => rfl)) pa_nil))) (pg_tupK (K := K) rfl rfl (pgs_cons (pg_name (i := 3) sc__law_same_line.nd rfl (Or.inl rfl)) (pgs_cons (pg_name (i := 4) sc__law_same_line.nd rfl (Or.inl rfl)) pgs_nil))) (pss_one (ps_if (pt_not (pt_val (pe_call G__law_same_entry (hr.mono (by omega)) (by rfl) T.g__law_same_entry T.F__law_same_entry.kp T.b__law_same_entry .nil pass0 (pa_cons (pv 3) (pa_cons (pv 4) pa_nil))))) (pss_one (ps_ret pe_bl)) pss_nil)))
      (pss_one (ps_ret (pe_and (pe_call G__law_number (hr.mono (by omega)) (by rfl) T.g__law_number T.F__law_number.kp T.b__law_number .nil pass0 (pa_cons (pe_prop (pv 0) T.cl_Line T.P_Line_edition G_Line_edition (hr.mono (by omega)) T.b_Line_edition .nil pass0 rfl) pa_nil)) (pe_one (pe_cmpR op_eq (pe_prop (pv 0) T.cl_Line T.P_Line_edition G_Line_edition (hr.mono (by omega)) T.b_Line_edition .nil pass0 rfl) (pe_ix (ix_listK (K := K) rfl) (pv 1) pe_int (fun _ _ => rfl)) (nomark _))))))))), ?_⟩
    walk_at "g"
    refine ⟨a, dx, _, rfl, ha, rfl, ?_⟩
    walk_at "g"
    refine ⟨a, l, fv, room, ed, tk, xs, rfl, ⟨dx, ha, hl⟩, fun p hp => ?_⟩
    have s1 : Same H (upd H p (.lst xs)) := same_new hp
    have e1 : upd H p (.lst xs) p = some (.lst xs) := upd_same
    generalize upd H p (.lst xs) = H1 at s1 e1
    have hm1 := s1 _ _ hm
    have hr1 := s1 _ _ hr'
    walk_at "g"
    refine ⟨_, _, _, _, true, rfl, .ty _, .base (.lst e1), kit_ty (by decide +kernel), ?_⟩
    walk_at "g"
    rw [decide_eq_true (show V.int (xs.length : Int) = V.int (rs.length : Int) by rw [lx, lr])]
    walk_at "g"
    refine ⟨p, r, xs, rs, rfl, SqL.of e1, SqL.of hr1, ?_⟩
    refine RZ.for_zipL (by omega) (fun i σ H' => (∃ y3 y4, σ = [some (.ref a), some (.ref m), some (.ref p), y3, y4]) ∧ Same H1 H') ⟨⟨_, _, rfl⟩, Same.refl _⟩ (fun i σ H' z => ⟨SqL.of (z.2 _ _ e1), SqL.of (z.2 _ _ hr1)⟩) (fun i x y T' σ H' hx hy z hT => ?_) (fun σ H' z => ?_)
    · obtain ⟨⟨y3, y4, rfl⟩, s2⟩ := z
      have sT : Same H' (upd H' T' (.tup [x, y])) := same_new hT
      have hi : i < es.length := by rw [← lx]; exact (List.getElem?_eq_some_iff.mp hx).1
      obtain ⟨x', y', h1, h2, h3, h4, h5⟩ := hP' i _ (List.getElem?_eq_getElem hi)
      rw [hx] at h1
      rw [hy] at h2
      cases h1
      cases h2
      have s3 := s1.trans (s2.trans sT)
      refine ⟨T', _, rfl, SqT.of upd_same, rfl, _, _, rfl, _, _, rfl, rfl, ?_⟩
      walk_at "g"
      refine ⟨x, y, es[i].1, es[i].2, M, rfl, h3.sx (Sx.same s3), h4.sx (Sx.same s3), h5.sx (Sx.same s3), hM.gr (Gr.same s3), fun H4 s4 => ?_⟩
      walk_at "g"
      exact ⟨⟨_, _, rfl⟩, s2.trans (sT.trans s4)⟩
    · obtain ⟨⟨y3, y4, rfl⟩, s2⟩ := z
      have s3 := s1.trans s2
      have hm3 := s3 _ _ hm
      walk_at "g"
      refine ⟨a, dx, _, rfl, s3 _ _ ha, ?_⟩
      refine ⟨a, l, fv, room, ed, tk, xs, rfl, ⟨dx, s3 _ _ ha, s3 _ _ hl⟩, ?_⟩
      walk_at "g"
      refine ⟨a, dx, _, rfl, s3 _ _ ha, ?_⟩
      refine ⟨a, l, fv, room, ed, tk, xs, rfl, ⟨dx, s3 _ _ ha, s3 _ _ hl⟩, ?_⟩
      walk_at "g"
      rw [decide_eq_true (show V.int ed = V.int ed from rfl)]
      exact q _ s3
end
end D

namespace D
open PySem PySem.Spec PyProof.Rows L2
local macro_rules | `(tactic| walk_at "st") => `(tactic| first | exact SqT.of (by assumption) | exact Or.inl (by assumption) | exact SqT.of upd_same | fail "st")
local macro_rules | `(tactic| walk_at "ixt") => `(tactic| refine ⟨_, _, _, _, rfl, rfl, (by walk_at "st" : SqT _ _ _ _), by rfl, ?_⟩)
local macro_rules | `(tactic| walk_at "sq") => `(tactic| first | exact SqL.of (by assumption) | assumption | exact Or.inl (by assumption) | exact SqL.of upd_same | fail "sq")
local macro_rules | `(tactic| walk_at "ix") => `(tactic| refine ⟨_, _, _, _, rfl, rfl, (by walk_at "sq" : SqL _ _ _ _), by rfl, ?_⟩)
local macro_rules | `(tactic| walk_at "set") => `(tactic| refine ⟨_, _, _, _, rfl, rfl, by first | assumption | exact upd_same, by rfl, ?_⟩)
local macro_rules | `(tactic| walk_at "len") => `(tactic| refine ⟨_, _, rfl, Or.inl (by walk_at "sq" : SqL _ _ _ _), ?_⟩)
local macro_rules | `(tactic| walk_at "g") => `(tactic| repeat (first | refine ⟨_, rfl, ?_⟩ | refine ⟨_, _, rfl, rfl, ?_⟩ | refine ⟨Or.inr (by decide), ?_⟩ | refine ⟨Or.inl (by decide), ?_⟩ | refine ⟨(by decide : (0 : Int) < _), ?_⟩ | refine ⟨(⟨by decide, by decide⟩ : CDiv _ _), ?_⟩ | refine ⟨(⟨by decide, by decide, by decide⟩ : CPow _ _), ?_⟩ | refine Or.inl ⟨_, rfl, ?_⟩ | refine ⟨rfl, ?_⟩ | walk_at "ix" | walk_at "ixt" | walk_at "len" | fail "g"))
local macro_rules | `(tactic| walk_at "if") => `(tactic| refine ite2 (fun e => ?_) (fun e => ?_))
section
variable {P : Program} {w : World} {K : PySem.W.Frag} {mg : Str → Option Value} {base : Heap}
def sp_lstep (K : PySem.W.Frag) : Sp := fun vs H Q _ => ∃ (b : Addr) (M : Ms), vs = [.ref b] ∧ Bag K M H b ∧ Mk M H ∧ Dr K M b H (fun d => ∃ ns : List Int, d = rowD ns) Q
theorem ok_lstep (T : Txt K mg) : FnOk P w K mg base CX0 3 T.f__law_step T.d__law_step ["_law_bag_here"] (sp_lstep K) := by
  have G__law_pick := ok_pick (P := P) (w := w) (base := base) T
  refine T.F__law_step.ok sc__law_step (fun vs H Q E h => ?_) (fun cdv A outer s H vs Q E hr h => ?_)
  · obtain ⟨_, _, rfl, _⟩ := h
    rfl
  · obtain ⟨b, M, rfl, hB, hM, q⟩ := h
    refine ⟨_, (pss_cons (ps_set (i := 1) sc__law_step.nd rfl (Or.inl rfl) (pe_op op_add pe_int (pe_call G__law_pick (hr.mono (by omega)) (by rfl) T.g__law_pick T.F__law_pick.kp T.b__law_pick .nil pass0 (pa_cons (pv 0) (pa_cons pe_int pa_nil)))))
      (pss_cons (ps_if (pt_cmpR op_eq (pe_call G__law_pick (hr.mono (by omega)) (by rfl) T.g__law_pick T.F__law_pick.kp T.b__law_pick .nil pass0 (pa_cons (pv 0) (pa_cons pe_int pa_nil))) pe_int (nomark _)) (pss_one (ps_ret (pe_tup (pa_cons (pv 1) pa_nil)))) pss_nil)
      (pss_one (ps_ret (pe_tup (pa_cons (pv 1) (pa_cons (pe_call G__law_pick (hr.mono (by omega)) (by rfl) T.g__law_pick T.F__law_pick.kp T.b__law_pick .nil pass0 (pa_cons (pv 0) (pa_cons pe_int pa_nil))) (pa_cons (pe_call G__law_pick (hr.mono (by omega)) (by rfl) T.g__law_pick T.F__law_pick.kp T.b__law_pick .nil pass0 (pa_cons (pv 0) (pa_cons pe_int pa_nil))) pa_nil)))))))), ?_⟩
    walk_at "g"
    refine ⟨b, 15, M, rfl, hB, by omega, by omega, fun n1 H1 h0 h1 hA1 hB1 => ?_⟩
    walk_at "g"
    refine ⟨b, 2, M, rfl, hB1, by omega, by omega, fun n2 H2 h2 h3 hA2 hB2 => ?_⟩
    have sx2 : Sx (one b) H H2 := hA1.sx.trans hA2.sx
    have gr2 : Gr H H2 := (At.gr hA1 hB1.there).trans (At.gr hA2 hB2.there)
    walk_at "g"
    walk_at "if"
    · walk_at "g"
      refine ⟨szK rfl, fun p hp => ?_⟩
      exact q _ _ (rowD [1 + n1]) (sx2.trans (Sx.new hp)) (gr2.trans Gr.upd) (hB2.same (same_new hp)) (Rp.newT (hM.gr gr2) hp (RpAll.ints [1 + n1])) ⟨[1 + n1], rfl⟩
    · walk_at "g"
      refine ⟨b, 10, M, rfl, hB2, by omega, by omega, fun n3 H3 h4 h5 hA3 hB3 => ?_⟩
      walk_at "g"
      refine ⟨b, 5, M, rfl, hB3, by omega, by omega, fun n4 H4 h6 h7 hA4 hB4 => ?_⟩
      have sx4 : Sx (one b) H H4 := sx2.trans (hA3.sx.trans hA4.sx)
      have gr4 : Gr H H4 := gr2.trans ((At.gr hA3 hB3.there).trans (At.gr hA4 hB4.there))
      refine ⟨szK rfl, fun p hp => ?_⟩
      exact q _ _ (rowD [1 + n1, n3, n4]) (sx4.trans (Sx.new hp)) (gr4.trans Gr.upd) (hB4.same (same_new hp)) (Rp.newT (hM.gr gr4) hp (RpAll.ints [1 + n1, n3, n4])) ⟨_, rfl⟩
def sp_store (K : PySem.W.Frag) : Sp := fun vs H Q _ => ∃ (b : Addr) (M : Ms), vs = [.ref b] ∧ Bag K M H b ∧ Mk M H ∧ Dr K M b H (fun d => ∃ st : List (List Int), d = ownD st ∧ 1 ≤ st.length ∧ st.length ≤ 3 ∧ ∀ r ∈ st, r.length = 4) Q
theorem ok_store (T : Txt K mg) : FnOk P w K mg base CX0 3 T.f__law_store T.d__law_store ["_law_bag_here"] (sp_store K) := by
  have G__law_pick := ok_pick (P := P) (w := w) (base := base) T
  refine T.F__law_store.ok sc__law_store (fun vs H Q E h => ?_) (fun cdv A outer s H vs Q E hr h => ?_)
  · obtain ⟨_, _, rfl, _⟩ := h
    rfl
  · obtain ⟨b, M, rfl, hB, hM, q⟩ := h
    refine ⟨_, (pss_cons (ps_set (i := 1) sc__law_store.nd rfl (Or.inl rfl) (pe_lst pa_nil))
      (pss_cons (ps_for PassesOwn.never rfl (pi_range1 (by rfl) T.m_range (pa_cons (pe_op op_add pe_int (pe_call G__law_pick (hr.mono (by omega)) (by rfl) T.g__law_pick T.F__law_pick.kp T.b__law_pick .nil pass0 (pa_cons (pv 0) (pa_cons pe_int pa_nil)))) pa_nil)) (pg_name (i := 2) sc__law_store.nd rfl (Or.inl rfl)) (pss_one (ps_expr (pe_bmK2 (K := K) rfl PySem.F.plainAttrs_list PySem.F.slot_list_append PySem.F.type_list_append mt_append (pv 1) (pa_cons (pe_callTy (call_tupleK (K := K) rfl) (by rfl) T.m_tuple (by decide +kernel) (pa_cons (pe_lc (own := [("_law_question", 3)]) (g := gName 3) (tt := tYes) (by rfl) sc__law_store.nd (pi_range1 (by rfl) T.m_range (pa_cons pe_int pa_nil)) (blkOk_by (own := [("_law_question", 3)]) (N := ["_law_bag_here", "_law_out", "_law_edition", "_law_question"]) (sc := defScope s__law_store) (by decide +kernel)) (fun _ _ _ _ _ => (pg_name (i := 3) sc__law_store.nd rfl (Or.inl rfl))) (fun _ _ _ _ _ => pts_nil) (fun _ _ _ _ _ => (pe_op op_add pe_int (pe_call G__law_pick (hr.mono (by omega)) (by rfl) T.g__law_pick T.F__law_pick.kp T.b__law_pick .nil pass0 (pa_cons (pv 0) (pa_cons pe_int pa_nil)))))) pa_nil)) pa_nil)))))
      (pss_one (ps_ret (pe_callTy (call_tupleK (K := K) rfl) (by rfl) T.m_tuple (by decide +kernel) (pa_cons (pv 1) pa_nil)))))), ?_⟩
    walk_at "g"
    refine ⟨szK rfl, fun o ho => ?_⟩
    have ob : o ≠ b := fun z => hB.there (by rw [← z]; exact ho)
    have hB0 : Bag K (also M o) (upd H o (.lst [])) b := (hB.more ho).same (same_new ho)
    have mb := hB.w
    walk_at "g"
    refine ⟨b, 3, also M o, rfl, hB0, by omega, by omega, fun n1 H1 h0 h1 hA1 hB1 => ?_⟩
    have e1 : H1 o = some (.lst []) := (hA1 o ob).trans upd_same
    have sx1 : Sx (one b) H H1 := (Sx.new ho).trans hA1.sx
    have gr1 : Gr H H1 := Gr.upd.trans (At.gr hA1 hB1.there)
    walk_at "g"
    refine ⟨by omega, by omega, ?_⟩
    refine for_range (lo := 0) (n := (1 + n1).toNat) (fun i σ H' => (∃ y2 y3, σ = [some (.ref b), some (.ref o), y2, y3]) ∧ ∃ (xs : List V) (st : List (List Int)), H' o = some (.lst xs) ∧ RpAll (also M o) H' xs (st.map rowD) ∧ st.length = i ∧ (∀ r ∈ st, r.length = 4) ∧ Sx (one b) H H' ∧ Gr H H' ∧ Bag K (also M o) H' b) ⟨⟨_, _, rfl⟩, [], [], e1, .nil, rfl, fun r hr => (nomatch hr), sx1, gr1, hB1⟩ (fun i σ H' hi p => ?_) (fun σ H' p => ?_)
    · obtain ⟨⟨y2, y3, rfl⟩, xs, st, eo, rx, ls, l4, sx, gr, hBi⟩ := p
      have lxs : xs.length = st.length := by have := rx.length; rw [List.length_map] at this; exact this
      rw [Int.zero_add]
      walk_at "g"
      refine ⟨.inl ⟨rfl, _, SqL.of eo⟩, ?_⟩
      walk_at "g"
      refine ⟨by decide, by decide, fun D hD => ?_⟩
      have hw : also M o b := .inl mb
      have Db : D ≠ b := fun z => hBi.there (by rw [← z]; exact hD)
      have Do : D ≠ o := fun z => by rw [z, eo] at hD; cases hD
      have hMo : Mk (also M o) H' := (hM.gr gr).also (ne_none eo)
      refine rng_loop (lo := 0) (n := 4) (fun j H2 => ∃ ns : List Int, H2 D = some (.lst (ns.map V.int)) ∧ ns.length = j ∧ Sx (one b) H' H2 ∧ Gr H' H2 ∧ Bag K (also (also M o) D) H2 b) ⟨[], upd_same, rfl, Sx.new hD, Gr.upd, (hBi.more hD).same (same_new hD)⟩ (fun j H2 hj p => ?_) (fun H2 p => ?_)
      · obtain ⟨ns, eD, ln, sx2, gr2, hB2⟩ := p
        refine ⟨rfl, ?_⟩
        walk_at "g"
        refine ⟨b, 3, also (also M o) D, rfl, hB2, by omega, by omega, fun n3 H3 h2 h3 hA3 hB3 => ?_⟩
        have eD3 := (hA3 D Db).trans eD
        refine ⟨_, _, rfl, rfl, _, eD3, small1000 (by rw [List.length_map]; omega), ns ++ [1 + n3], ?_, by rw [List.length_append, ln]; rfl, fun c u n e => ?_, gr2.trans ((At.gr hA3 hB3.there).trans Gr.upd), hB3.keep (N := one D) (Sx.put rfl) (Ne.symm Db) (fun c z => .inr z)⟩
        · rw [upd_same, List.map_append]
          rfl
        · rw [upd_ne (fun z => by rw [z, hD] at e; cases e)]
          exact hA3.sx c u n (sx2 c u n e)
      obtain ⟨ns, eD, ln, sx2, gr2, hB2⟩ := p
      have hB2' := hB2.less (N := also M o) hw also_le
      have eo2 := sx2 _ _ (show ¬ one b o from ob) eo
      walk_at "g"
      refine ⟨D, _, rfl, .inl ⟨SqL.of eD, fun p hp => ?_⟩⟩
      have po : p ≠ o := fun z => by rw [z, eo2] at hp; cases hp
      have rT : Rp (also M o) (upd H2 p (.tup (ns.map V.int))) (.ref p) (rowD ns) := Rp.newT (hMo.gr gr2) hp (RpAll.ints ns)
      have eo3 : upd H2 p (.tup (ns.map V.int)) o = some (.lst xs) := by rw [upd_ne (Ne.symm po)]; exact eo2
      have s3 : Same H2 (upd H2 p (.tup (ns.map V.int))) := same_new hp
      have hB3 := hB2'.same s3
      generalize upd H2 p (.tup (ns.map V.int)) = H3 at rT eo3 s3 hB3
      refine ⟨o, xs, _, rfl, rfl, eo3, small1000000 (by omega), ?_⟩
      have sP : Sx (also M o) H3 (upd H3 o (.lst (xs ++ [.ref p]))) := Sx.put (.inr rfl)
      have sxM : Sx (also M o) H' H3 := (sx2.le (one_le hw)).trans (Sx.same s3)
      refine ⟨⟨_, _, rfl⟩, xs ++ [.ref p], st ++ [ns], upd_same, ?_, by rw [List.length_append, ls]; rfl, fun r hr => ?_, fun c u n e => ?_, gr.trans (gr2.trans ((Gr.same s3).trans Gr.upd)), hB3.keep (N := one o) (Sx.put rfl) (Ne.symm ob) (fun c z => .inr z)⟩
      · rw [List.map_append]
        exact ((rx.sx sxM).sx sP).append (.cons (rT.sx sP) .nil)
      · rcases List.mem_append.mp hr with z | z
        · exact l4 r z
        · rw [List.mem_singleton.mp z]
          exact ln
      · rw [upd_ne (fun z => by rw [z, ho] at e; cases e)]
        exact s3 _ _ (sx2 c u n (sx c u n e))
    · obtain ⟨⟨y2, y3, rfl⟩, xs, st, eo, rx, ls, l4, sx, gr, hBi⟩ := p
      walk_at "g"
      refine ⟨o, xs, rfl, .inl ⟨SqL.of eo, fun p hp => ?_⟩⟩
      have hB2 := (hBi.less (N := M) mb also_le).same (same_new (o := .tup xs) hp)
      exact q _ _ (ownD st) (sx.trans (Sx.new hp)) (gr.trans Gr.upd) hB2 (Rp.newT (hM.gr gr) hp (rx.less also_le)) ⟨st, rfl, by omega, by omega, l4⟩
end
end D

namespace D
open PySem PySem.Spec PyProof.Rows L2
local macro_rules | `(tactic| walk_at "st") => `(tactic| first | exact SqT.of (by assumption) | exact Or.inl (by assumption) | exact SqT.of upd_same | fail "st")
local macro_rules | `(tactic| walk_at "ixt") => `(tactic| refine ⟨_, _, _, _, rfl, rfl, (by walk_at "st" : SqT _ _ _ _), by rfl, ?_⟩)
local macro_rules | `(tactic| walk_at "sq") => `(tactic| first | exact SqL.of (by assumption) | assumption | exact Or.inl (by assumption) | exact SqL.of upd_same | fail "sq")
local macro_rules | `(tactic| walk_at "ix") => `(tactic| refine ⟨_, _, _, _, rfl, rfl, (by walk_at "sq" : SqL _ _ _ _), by rfl, ?_⟩)
local macro_rules | `(tactic| walk_at "set") => `(tactic| refine ⟨_, _, _, _, rfl, rfl, by first | assumption | exact upd_same, by rfl, ?_⟩)
local macro_rules | `(tactic| walk_at "len") => `(tactic| refine ⟨_, _, rfl, Or.inl (by walk_at "sq" : SqL _ _ _ _), ?_⟩)
local macro_rules | `(tactic| walk_at "g") => `(tactic| repeat (first | refine ⟨_, rfl, ?_⟩ | refine ⟨_, _, rfl, rfl, ?_⟩ | refine ⟨Or.inr (by decide), ?_⟩ | refine ⟨Or.inl (by decide), ?_⟩ | refine ⟨(by decide : (0 : Int) < _), ?_⟩ | refine ⟨(⟨by decide, by decide⟩ : CDiv _ _), ?_⟩ | refine ⟨(⟨by decide, by decide, by decide⟩ : CPow _ _), ?_⟩ | refine Or.inl ⟨_, rfl, ?_⟩ | refine ⟨rfl, ?_⟩ | walk_at "ix" | walk_at "ixt" | walk_at "len" | fail "g"))
local macro_rules | `(tactic| walk_at "if") => `(tactic| refine ite2 (fun e => ?_) (fun e => ?_))
section
variable {P : Program} {w : World} {K : PySem.W.Frag} {mg : Str → Option Value} {base : Heap}
theorem none_gr {H H' : Hp} {p : Addr} (g : Gr H H') (h : H' p = none) : H p = none := by
  cases e : H p with
  | none => rfl
  | some o => exact absurd h (g _ (ne_none e))
def OwnsAt (M : Ms) (H : Hp) (os : List V) : Prop := ∀ x ∈ os, ∃ st : List (List Int), Rp M H x (ownD st) ∧ st.length ≤ 5
theorem OwnsAt.sx {M : Ms} {H H' : Hp} {os : List V} (h : OwnsAt M H os) (s : Sx M H H') : OwnsAt M H' os := fun x hx => by
  obtain ⟨st, r, l⟩ := h x hx
  exact ⟨st, r.sx s, l⟩
def sp_owner (K : PySem.W.Frag) : Sp := fun vs H Q _ => ∃ (b u : Addr) (os : List V) (M : Ms), vs = [.ref b, .ref u] ∧ Bag K M H b ∧ Mk M H ∧ u ≠ b ∧ H u = some (.lst os) ∧ os.length ≤ 1000 ∧ OwnsAt M H os ∧ Dr K M b H (fun d => ∃ st : List (List Int), d = ownD st ∧ st.length ≤ 5) Q
theorem ok_owner (T : Txt K mg) : FnOk P w K mg base CX0 5 T.f__law_owner T.d__law_owner ["_law_bag_here", "_law_owners"] (sp_owner K) := by
  have G__law_pick := ok_pick (P := P) (w := w) (base := base) T
  have G__law_step := ok_lstep (P := P) (w := w) (base := base) T
  refine T.F__law_owner.ok sc__law_owner (fun vs H Q E h => ?_) (fun cdv A outer s H vs Q E hr h => ?_)
  · obtain ⟨_, _, _, _, rfl, _⟩ := h
    rfl
  · obtain ⟨b, u, os, M, rfl, hB, hM, ub, hu, lo, hO, q⟩ := h
    refine ⟨_, (pss_cons (ps_setLc (i := 2) (own := [("_law_step_here", 3)]) (g := gName 3) (tt := tYes) (by rfl) sc__law_owner.nd rfl rfl (sw_true rfl rfl rfl (by decide +kernel)) (pi_range1 (by rfl) T.m_range (pa_cons (pe_call G__law_pick (hr.mono (by omega)) (by rfl) T.g__law_pick T.F__law_pick.kp T.b__law_pick .nil pass0 (pa_cons (pv 0) (pa_cons pe_int pa_nil))) pa_nil)) (blkOk_by (own := [("_law_step_here", 3)]) (N := ["_law_bag_here", "_law_owners", "_law_steps", "_law_step_here"]) (sc := defScope s__law_owner) (by decide +kernel)) (fun _ _ _ _ _ => (pg_name (i := 3) sc__law_owner.nd rfl (Or.inl rfl))) (fun _ _ _ _ _ => pts_nil) (fun _ _ _ _ _ => (pe_call G__law_step (hr.mono (by omega)) (by rfl) T.g__law_step T.F__law_step.kp T.b__law_step .nil pass0 (pa_cons (pv 0) pa_nil))))
      (pss_cons (ps_if (PW.pt (pw_and (pt_truthK (K := K) rfl (pv 1) (by intro _; rfl)) (pw_and1 (pt_cmpR op_eq (pe_call G__law_pick (hr.mono (by omega)) (by rfl) T.g__law_pick T.F__law_pick.kp T.b__law_pick .nil pass0 (pa_cons (pv 0) (pa_cons pe_int pa_nil))) pe_int (nomark _))))) (pss_cons (ps_set (i := 2) sc__law_owner.nd rfl (Or.inl rfl) (pe_callTy (call_listK (K := K) rfl) (by rfl) T.m_list (by decide +kernel) (pa_cons (pe_ix (ix_listK (K := K) rfl) (pv 1) (pe_call G__law_pick (hr.mono (by omega)) (by rfl) T.g__law_pick T.F__law_pick.kp T.b__law_pick .nil pass0 (pa_cons (pv 0) (pa_cons (pe_callB (call_lenK (K := K) rfl) (by rfl) T.m_len PySem.boot_len (pa_cons (pv 1) pa_nil)) pa_nil))) (fun _ _ => rfl)) pa_nil)))
      (pss_cons (ps_if (PW.pt (pw_and (pt_truthK (K := K) rfl (pv 2) (by intro _; rfl)) (pw_and1 (PW.pt (pw_or (pt_cmpR op_eq (pe_callB (call_lenK (K := K) rfl) (by rfl) T.m_len PySem.boot_len (pa_cons (pv 2) pa_nil)) pe_int (nomark _)) (pw_or1 (pt_cmpR op_eq (pe_call G__law_pick (hr.mono (by omega)) (by rfl) T.g__law_pick T.F__law_pick.kp T.b__law_pick .nil pass0 (pa_cons (pv 0) (pa_cons pe_int pa_nil))) pe_int (nomark _)))))))) (pss_one (ps_expr (pe_bm0K2 (K := K) rfl PySem.F.plainAttrs_list PySem.F.slot_list_pop PySem.F.type_list_pop mt_pop (pv 2)))) pss_nil)
      (pss_one (ps_expr (pe_bmK2 (K := K) rfl PySem.F.plainAttrs_list PySem.F.slot_list_append PySem.F.type_list_append mt_append (pv 2) (pa_cons (pe_call G__law_step (hr.mono (by omega)) (by rfl) T.g__law_step T.F__law_step.kp T.b__law_step .nil pass0 (pa_cons (pv 0) pa_nil)) pa_nil)))))) pss_nil)
      (pss_one (ps_ret (pe_callTy (call_tupleK (K := K) rfl) (by rfl) T.m_tuple (by decide +kernel) (pa_cons (pv 2) pa_nil)))))), ?_⟩
    have mb := hB.w
    walk_at "g"
    refine ⟨b, 4, M, rfl, hB, by omega, by omega, fun n1 H1 h0 h1 hA1 hB1 => ?_⟩
    have gr1 : Gr H H1 := At.gr hA1 hB1.there
    have hM1 := hM.gr gr1
    walk_at "g"
    refine ⟨by omega, by omega, fun D hD => ?_⟩
    have Db : D ≠ b := fun z => hB1.there (by rw [← z]; exact hD)
    have hw : also M D b := .inl mb
    refine rng_loop (lo := 0) (n := n1.toNat) (fun j H2 => ∃ (xs : List V) (st : List (List Int)), H2 D = some (.lst xs) ∧ RpAll (also M D) H2 xs (st.map rowD) ∧ st.length = j ∧ Sx (one b) H1 H2 ∧ Gr H1 H2 ∧ Bag K (also M D) H2 b) ⟨[], [], upd_same, .nil, rfl, Sx.new hD, Gr.upd, (hB1.more hD).same (same_new hD)⟩ (fun j H2 hj p => ?_) (fun H2 p => ?_)
    · obtain ⟨xs, st, eD, rx, ls, sx2, gr2, hB2⟩ := p
      have lxs : xs.length = st.length := by have := rx.length; rw [List.length_map] at this; exact this
      refine ⟨rfl, ?_⟩
      walk_at "g"
      refine ⟨b, also M D, rfl, hB2, (hM1.gr gr2).also (ne_none eD), fun v H3 d sx3 gr3 hB3 r3 hd => ?_⟩
      obtain ⟨ns, rfl⟩ := hd
      have eD3 := sx3 _ _ (show ¬ one b D from Db) eD
      have sP : Sx (also M D) H3 (upd H3 D (.lst (xs ++ [v]))) := Sx.put (.inr rfl)
      refine ⟨xs, eD3, small1000 (by omega), xs ++ [v], st ++ [ns], upd_same, ?_, by rw [List.length_append, ls]; rfl, fun c u n e => ?_, gr2.trans (gr3.trans Gr.upd), hB3.keep (N := one D) (Sx.put rfl) (Ne.symm Db) (fun c z => .inr z)⟩
      · rw [List.map_append]
        exact ((rx.sx (sx3.le (one_le hw))).sx sP).append (.cons (r3.sx sP) .nil)
      · rw [upd_ne (fun z => by rw [z, hD] at e; cases e)]
        exact sx3 c u n (sx2 c u n e)
    obtain ⟨xs, st, eD, rx, ls, sx2', gr2', hB2⟩ := p
    have sx2 : Sx (one b) H H2 := hA1.sx.trans sx2'
    have gr2 : Gr H H2 := gr1.trans gr2'
    have hD0 : H D = none := none_gr gr1 hD
    dsimp only [gName]
    with_reducible refine seq_join (fun σ3 H' => ∃ (S : Addr) (y : Option V) (xs : List V) (st : List (List Int)), σ3 = [some (.ref b), some (.ref u), some (.ref S), y] ∧ H S = none ∧ H' S = some (.lst xs) ∧ RpAll (also M S) H' xs (st.map rowD) ∧ st.length ≤ 5 ∧ Sx (one b) H H' ∧ Gr H H' ∧ Bag K (also M S) H' b) (fun hN => ?_) (fun σ H5 c => ?_)
    · have hu2 := sx2 u _ ub hu
      have base0 := hN _ _ ⟨D, none, xs, st, rfl, hD0, eD, rx, by omega, sx2, gr2, hB2⟩
      walk_at "g"
      refine ⟨!os.isEmpty, .inl ⟨_, SqL.of hu2, rfl⟩, ?_⟩
      cases os with
      | nil => exact base0
      | cons o0 ot =>
        walk_at "g"
        refine ⟨b, 3, also M D, rfl, hB2, by omega, by omega, fun w4 H4 d0 d1 hA4 hB4 => ?_⟩
        have sx4 : Sx (one b) H H4 := sx2.trans hA4.sx
        have gr4 := gr2.trans (At.gr hA4 hB4.there)
        have hu4 := (hA4 u ub).trans hu2
        have hB4' := hB4.less (N := M) mb also_le
        walk_at "g"
        walk_at "if"
        · walk_at "g"
          refine ⟨b, _, M, rfl, hB4', by show 0 < ((ot.length + 1 : Nat) : Int); omega, by show ((ot.length + 1 : Nat) : Int) < _; have : (o0 :: ot).length = ot.length + 1 := rfl; omega, fun w5 H5 f0 f1 hA5 hB5 => ?_⟩
          obtain ⟨j, rfl⟩ : ∃ j : Nat, w5 = (j : Int) := ⟨w5.toNat, by omega⟩
          have hj : j < (o0 :: ot).length := by omega
          have sx5 : Sx (one b) H H5 := sx4.trans hA5.sx
          have gr5 := gr4.trans (At.gr hA5 hB5.there)
          have hu5 := (hA5 u ub).trans hu4
          obtain ⟨st', rO, lst⟩ := hO _ (List.getElem_mem hj)
          have rO5 := rO.sx (sx5.le (one_le mb))
          obtain ⟨t, ys, et, nt, ht, ry⟩ := Rp.tupX rO5
          have lys : ys.length = st'.length := by have := ry.length; rw [List.length_map] at this; exact this
          refine ⟨_, _, _, _, rfl, rfl, SqL.of hu5, atI_nat (List.getElem?_eq_getElem hj), ?_⟩
          refine ⟨t, ys, by rw [et], .inr (SqT.of ht), fun l hl => ?_⟩
          have hl0 : H l = none := none_gr gr5 hl
          have lb : l ≠ b := fun z => hB5.there (by rw [← z]; exact hl)
          have s6 : Same H5 (upd H5 l (.lst ys)) := same_new hl
          have e6 : upd H5 l (.lst ys) l = some (.lst ys) := upd_same
          have hB6 : Bag K (also M l) (upd H5 l (.lst ys)) b := (hB5.more hl).same s6
          have ry6 : RpAll (also M l) (upd H5 l (.lst ys)) ys (st'.map rowD) := (ry.fresh hl).sx (Sx.same s6)
          generalize upd H5 l (.lst ys) = H6 at s6 e6 hB6 ry6
          have sx6 : Sx (one b) H H6 := sx5.trans (Sx.same s6)
          have gr6 := gr5.trans (Gr.same s6)
          have hwl : also M l b := .inl mb
          dsimp only [gName]
          with_reducible refine seq_join (fun σ3 H' => ∃ (xs : List V) (st : List (List Int)), σ3 = [some (.ref b), some (.ref u), some (.ref l), none] ∧ H' l = some (.lst xs) ∧ RpAll (also M l) H' xs (st.map rowD) ∧ st.length ≤ 4 ∧ Sx (one b) H H' ∧ Gr H H' ∧ Bag K (also M l) H' b) (fun hN2 => ?_) (fun σ H7 c => ?_)
          · walk_at "g"
            refine ⟨!ys.isEmpty, .inl ⟨_, SqL.of e6, rfl⟩, ?_⟩
            cases hys : ys with
            | nil =>
              rw [hys] at e6 ry6 lys
              exact hN2 _ _ ⟨[], st', rfl, e6, ry6, by have : ([] : List V).length = 0 := rfl; omega, sx6, gr6, hB6⟩
            | cons y0 yt =>
              rw [← hys]
              have ene : (!ys.isEmpty) = true := by rw [hys]; rfl
              rw [if_pos ene]
              walk_at "g"
              by_cases c5 : ys.length = 5
              · rw [decide_eq_true (show V.int (ys.length : Int) = V.int 5 by rw [c5]; rfl)]
                walk_at "g"
                refine ⟨.inl ⟨rfl, _, SqL.of e6⟩, ?_⟩
                have yp : 0 < ys.length := by rw [hys]; exact Nat.zero_lt_succ _
                refine ⟨l, ys, ys[ys.length - 1]'(by omega), rfl, rfl, e6, List.getElem?_eq_getElem _, ?_⟩
                have sPp : Sx (also M l) H6 (upd H6 l (.lst ys.dropLast)) := Sx.put (.inr rfl)
                refine hN2 _ _ ⟨ys.dropLast, st'.dropLast, rfl, upd_same, ?_, by rw [List.length_dropLast]; omega, fun c u' n e => ?_, gr6.trans Gr.upd, hB6.keep (N := one l) (Sx.put rfl) (Ne.symm lb) (fun c z => .inr z)⟩
                · have := RpAll.take (ys.length - 1) (ry6.sx sPp)
                  have e2 : (st'.dropLast).map rowD = (st'.map rowD).take (ys.length - 1) := by rw [List.dropLast_eq_take, List.map_take, lys]
                  rw [List.dropLast_eq_take] at this ⊢
                  rw [e2]
                  exact this
                · rw [upd_ne (fun z => by rw [z, hl0] at e; cases e)]
                  exact sx6 c u' n e
              · rw [decide_eq_false (show ¬ V.int (ys.length : Int) = V.int 5 from fun z => c5 (by injection z with z; omega))]
                walk_at "g"
                refine ⟨b, 2, also M l, rfl, hB6, by omega, by omega, fun w8 H8 i0 i1 hA8 hB8 => ?_⟩
                have e8 := (hA8 l lb).trans e6
                have ry8 := ry6.sx (hA8.sx.le (one_le hwl))
                have sx8 : Sx (one b) H H8 := sx6.trans hA8.sx
                have gr8 := gr6.trans (At.gr hA8 hB8.there)
                walk_at "g"
                walk_at "if"
                · walk_at "g"
                  refine ⟨.inl ⟨rfl, _, SqL.of e8⟩, ?_⟩
                  have yp : 0 < ys.length := by rw [hys]; exact Nat.zero_lt_succ _
                  refine ⟨l, ys, ys[ys.length - 1]'(by omega), rfl, rfl, e8, List.getElem?_eq_getElem _, ?_⟩
                  have sPp : Sx (also M l) H8 (upd H8 l (.lst ys.dropLast)) := Sx.put (.inr rfl)
                  refine hN2 _ _ ⟨ys.dropLast, st'.dropLast, rfl, upd_same, ?_, by rw [List.length_dropLast]; omega, fun c u' n e => ?_, gr8.trans Gr.upd, hB8.keep (N := one l) (Sx.put rfl) (Ne.symm lb) (fun c z => .inr z)⟩
                  · have := RpAll.take (ys.length - 1) (ry8.sx sPp)
                    have e2 : (st'.dropLast).map rowD = (st'.map rowD).take (ys.length - 1) := by rw [List.dropLast_eq_take, List.map_take, lys]
                    rw [List.dropLast_eq_take] at this ⊢
                    rw [e2]
                    exact this
                  · rw [upd_ne (fun z => by rw [z, hl0] at e; cases e)]
                    exact sx8 c u' n e
                · exact hN2 _ _ ⟨ys, st', rfl, e8, ry8, by omega, sx8, gr8, hB8⟩
          · obtain ⟨xs2, st2, rfl, e7, ry7, l4, sx7, gr7, hB7⟩ := c
            walk_at "g"
            refine ⟨.inl ⟨rfl, _, SqL.of e7⟩, ?_⟩
            walk_at "g"
            refine ⟨b, also M l, rfl, hB7, (hM.gr gr7).also (ne_none e7), fun v H8 d sx8 gr8 hB8 r8 hd => ?_⟩
            obtain ⟨ns, rfl⟩ := hd
            have e8 := sx8 _ _ (show ¬ one b l from lb) e7
            have lx2 : xs2.length = st2.length := by have := ry7.length; rw [List.length_map] at this; exact this
            refine ⟨l, xs2, _, rfl, rfl, e8, small1000000 (by omega), ?_⟩
            have sP : Sx (also M l) H8 (upd H8 l (.lst (xs2 ++ [v]))) := Sx.put (.inr rfl)
            refine hN _ _ ⟨l, none, xs2 ++ [v], st2 ++ [ns], rfl, hl0, upd_same, ?_, by rw [List.length_append]; show _ + 1 ≤ 5; omega, fun c u' n e => ?_, gr7.trans (gr8.trans Gr.upd), hB8.keep (N := one l) (Sx.put rfl) (Ne.symm lb) (fun c z => .inr z)⟩
            · rw [List.map_append]
              exact ((ry7.sx (sx8.le (one_le hwl))).sx sP).append (.cons (r8.sx sP) .nil)
            · rw [upd_ne (fun z => by rw [z, hl0] at e; cases e)]
              exact sx8 c u' n (sx7 c u' n e)
        · exact hN _ _ ⟨D, none, xs, st, rfl, hD0, (hA4 D Db).trans eD, rx.sx (hA4.sx.le (one_le hw)), by omega, sx4, gr4, hB4⟩
    · obtain ⟨S, y, xs, st, rfl, hS, eS, rx, l5, sx, gr, hB5⟩ := c
      walk_at "g"
      refine ⟨S, xs, rfl, .inl ⟨SqL.of eS, fun p hp => ?_⟩⟩
      exact q _ _ (ownD st) (sx.trans (Sx.new hp)) (gr.trans Gr.upd) ((hB5.less (N := M) mb also_le).same (same_new hp)) (Rp.newT (hM.gr gr) hp (rx.less also_le)) ⟨st, rfl, l5⟩
end
end D

namespace D
open PySem PySem.Spec PyProof.Rows L2
local macro_rules | `(tactic| walk_at "st") => `(tactic| first | exact SqT.of (by assumption) | exact Or.inl (by assumption) | exact SqT.of upd_same | fail "st")
local macro_rules | `(tactic| walk_at "ixt") => `(tactic| refine ⟨_, _, _, _, rfl, rfl, (by walk_at "st" : SqT _ _ _ _), by rfl, ?_⟩)
local macro_rules | `(tactic| walk_at "sq") => `(tactic| first | exact SqL.of (by assumption) | assumption | exact Or.inl (by assumption) | exact SqL.of upd_same | fail "sq")
local macro_rules | `(tactic| walk_at "ix") => `(tactic| refine ⟨_, _, _, _, rfl, rfl, (by walk_at "sq" : SqL _ _ _ _), by rfl, ?_⟩)
local macro_rules | `(tactic| walk_at "set") => `(tactic| refine ⟨_, _, _, _, rfl, rfl, by first | assumption | exact upd_same, by rfl, ?_⟩)
local macro_rules | `(tactic| walk_at "len") => `(tactic| refine ⟨_, _, rfl, Or.inl (by walk_at "sq" : SqL _ _ _ _), ?_⟩)
local macro_rules | `(tactic| walk_at "g") => `(tactic| repeat (first | refine ⟨_, rfl, ?_⟩ | refine ⟨_, _, rfl, rfl, ?_⟩ | refine ⟨Or.inr (by decide), ?_⟩ | refine ⟨Or.inl (by decide), ?_⟩ | refine ⟨(by decide : (0 : Int) < _), ?_⟩ | refine ⟨(⟨by decide, by decide⟩ : CDiv _ _), ?_⟩ | refine ⟨(⟨by decide, by decide, by decide⟩ : CPow _ _), ?_⟩ | refine Or.inl ⟨_, rfl, ?_⟩ | refine ⟨rfl, ?_⟩ | walk_at "ix" | walk_at "ixt" | walk_at "len" | fail "g"))
local macro_rules | `(tactic| walk_at "if") => `(tactic| refine ite2 (fun e => ?_) (fun e => ?_))
section
variable {P : Program} {w : World} {K : PySem.W.Frag} {mg : Str → Option Value} {base : Heap}
/-- a line, and the law's record of it -/
structure LX where
  a : Addr
  l : Addr
  m : Addr
  f : Addr
  room : Int
  ed : Nat
  tk : Int
  xs : List V
  rs : List V
  es : List (En × List (List Int))
  st : List (List Int)
def LX.as (x : LX) : List Addr := [x.a, x.l, x.m]
def LXok (T : Txt K mg) (M : Ms) (H : Hp) (x : LX) : Prop := LnAt T.C_Line H x.a x.l (.ref x.f) x.room x.ed x.tk x.xs ∧ LmAt M H x.m (.ref x.f) x.room x.ed x.tk x.rs ∧ PairsAt T.C_Entry M H x.xs x.rs x.es ∧ Rp M H (.ref x.f) (ownD x.st) ∧
  (x.ed < x.st.length ∧ x.st.length ≤ 3 ∧ (∀ r ∈ x.st, r.length = 4) ∧ (x.es.length : Int) ≤ x.room ∧ 1 ≤ x.room ∧ x.room ≤ 3) ∧ M x.a ∧ M x.l ∧ M x.m
theorem LnAt.frame {C : Addr} {F : Ms} {H H' : Hp} {a l : Addr} {fv : V} {room ed tk : Int} {vs : List V} (h : LnAt C H a l fv room ed tk vs) (s : Sx F H H') (na : ¬ F a) (nl : ¬ F l) : LnAt C H' a l fv room ed tk vs := by
  obtain ⟨dx, h1, h2⟩ := h
  exact ⟨dx, s _ _ na h1, s _ _ nl h2⟩
theorem LmAt.frame {M F : Ms} {H H' : Hp} {m : Addr} {fv : V} {room ed tk : Int} {rs : List V} (h : LmAt M H m fv room ed tk rs) (s : Sx F H H') (le : ∀ c, F c → M c) (nm : ¬ F m) : LmAt M H' m fv room ed tk rs := by
  obtain ⟨r, nr, h1, h2⟩ := h
  exact ⟨r, nr, s _ _ nm h1, s _ _ (fun z => nr (le _ z)) h2⟩
theorem LmAt.fresh {M : Ms} {H : Hp} {m p : Addr} {fv : V} {room ed tk : Int} {rs : List V} (h : LmAt M H m fv room ed tk rs) (hp : H p = none) : LmAt (also M p) H m fv room ed tk rs := by
  obtain ⟨r, nr, h1, h2⟩ := h
  exact ⟨r, fun z => z.elim nr fun z => (by rw [show r = p from z, hp] at h2; cases h2), h1, h2⟩
section
variable {T : Txt K mg} {M F : Ms} {H H' : Hp} {p : Addr} {x : LX}
theorem LXok.frame (h : LXok T M H x) (s : Sx F H H') (le : ∀ c, F c → M c) (n : ∀ c ∈ x.as, ¬ F c) : LXok T M H' x :=
  ⟨h.1.frame s (n _ (by simp [LX.as])) (n _ (by simp [LX.as])), h.2.1.frame s le (n _ (by simp [LX.as])), h.2.2.1.sx (s.le le), h.2.2.2.1.sx (s.le le), h.2.2.2.2⟩
theorem LXok.fresh (h : LXok T M H x) (hp : H p = none) : LXok T (also M p) H x := ⟨h.1, h.2.1.fresh hp, h.2.2.1.fresh hp, h.2.2.2.1.fresh hp, h.2.2.2.2.1, .inl h.2.2.2.2.2.1, .inl h.2.2.2.2.2.2.1, .inl h.2.2.2.2.2.2.2⟩
theorem LXok.there (h : LXok T M H x) : ∀ c ∈ x.as, H c ≠ none := fun c hc => by
  obtain ⟨⟨dx, h1, h2⟩, ⟨r, nr, h3, h4⟩, _⟩ := h
  simp only [LX.as, List.mem_cons, List.not_mem_nil, or_false] at hc
  rcases hc with rfl | rfl | rfl
  · exact ne_none h1
  · exact ne_none h2
  · exact ne_none h3
end
def footL (b : Addr) (x : LX) : Ms := fun c => c = b ∨ c ∈ x.as
def sp_turned (T : Txt K mg) : Sp := fun vs H Q _ => ∃ (x : LX) (M : Ms), vs = [.ref x.a, .ref x.m] ∧ LXok T M H x ∧ x.as.Nodup ∧ Mk M H ∧
  ∀ H' x', Sx (fun c => c ∈ x.as) H H' → Gr H H' → LXok T M H' x' → x'.a = x.a → x'.l = x.l → x'.m = x.m → Q (.bl true) H'
theorem ok_turned (T : Txt K mg) : FnOk P w K mg base CX0 5 T.f__law_turned T.d__law_turned ["_law_line", "_law_model"] (sp_turned T) := by
  have G_Line_turn := ok_turn (P := P) (w := w) (base := base) T
  refine T.F__law_turned.ok sc__law_turned (fun vs H Q E h => ?_) (fun cdv A outer s H vs Q E hr h => ?_)
  · obtain ⟨_, _, rfl, _⟩ := h
    rfl
  · obtain ⟨⟨a, l, m, f, room, ed, tk, xs, rs, es, st⟩, M, rfl, hX, hnd, hM, q⟩ := h
    obtain ⟨⟨dx, ha, hl⟩, ⟨r, nr, hm, hr'⟩, hP, hF, ⟨b1, b2, b3, b4, b5, b6⟩, ma, ml, mm⟩ := id hX
    dsimp only at ha hl nr hm hr' hP hF b1 b2 b3 b4 b5 b6 ma ml mm
    have nd1 := List.nodup_cons.mp hnd
    have nd2 := List.nodup_cons.mp nd1.2
    have a_l : a ≠ l := fun z => nd1.1 (by rw [z]; simp)
    have a_m : a ≠ m := fun z => nd1.1 (by rw [z]; simp)
    have l_m : l ≠ m := fun z => nd2.1 (by rw [z]; simp)
    obtain ⟨f', fs, ef, nf, hf, rf⟩ := Rp.tupX hF
    obtain rfl : f = f' := by injection ef
    have lf : fs.length = st.length := by have := rf.length; rw [List.length_map] at this; exact this
    refine ⟨_, (pss_cons (ps_set (i := 2) sc__law_turned.nd rfl (Or.inl rfl) (pe_cmpR op_lt (pe_op op_add (pe_ix (ix_listK (K := K) rfl) (pv 1) pe_int (fun _ _ => rfl)) pe_int) (pe_callB (call_lenK (K := K) rfl) (by rfl) T.m_len PySem.boot_len (pa_cons (pe_ix (ix_listK (K := K) rfl) (pv 1) pe_int (fun _ _ => rfl)) pa_nil)) (nomark _)))
      (pss_cons (ps_if (pt_truthK (K := K) rfl (pv 2) (by intro _; rfl)) (pss_one (ps_asg (pe_op op_add (pe_ix (ix_listK (K := K) rfl) (pv 1) pe_int (fun _ _ => rfl)) pe_int) (pg_sub (pv 1) pe_int set_list))) pss_nil)
      (pss_cons (ps_set (i := 3) sc__law_turned.nd rfl (Or.inl rfl) (pe_meth0 (pv 0) T.cl_Line ⟨T.a_Line_turn, T.i_Line_turn, T.F_Line_turn.kp⟩ G_Line_turn (hr.mono (by omega)) T.b_Line_turn .nil pass0))
      (pss_one (ps_ret (pe_and (pe_callB (call_isi1K (K := K) rfl) (by rfl) T.m_isinstance (by decide +kernel) (pa_cons (pv 3) (pa_cons (pe_bltn (v := .ty "bool") (u := .type "bool") (by rfl) T.m_bool (by decide +kernel) rfl) pa_nil))) (pe_one (pe_cmpR op_eq (pv 3) (pv 2) (nomark _))))))))), ?_⟩
    walk_at "g"
    refine ⟨f, _, rfl, .inr (SqT.of hf), ?_⟩
    walk_at "g"
    by_cases c : (ed : Int) + 1 < (fs.length : Int)
    · rw [decide_eq_true c]
      walk_at "g"
      walk_at "set"
      have e1 : upd H m (.lst [.ref r, .int tk, .int ((ed : Int) + 1), .ref f, .int room]) m = some (.lst [.ref r, .int tk, .int ((ed : Int) + 1), .ref f, .int room]) := upd_same
      have s1 : Sx (one m) H (upd H m (.lst [.ref r, .int tk, .int ((ed : Int) + 1), .ref f, .int room])) := Sx.put rfl
      have g1 : Gr H (upd H m (.lst [.ref r, .int tk, .int ((ed : Int) + 1), .ref f, .int room])) := Gr.upd
      obtain ⟨H1, eH1⟩ : ∃ H1, H1 = upd H m (.lst [.ref r, .int tk, .int ((ed : Int) + 1), .ref f, .int room]) := ⟨_, rfl⟩
      rw [← eH1] at e1 s1 g1
      show (fun G : Hp => _) (upd H m (.lst [.ref r, .int tk, .int ((ed : Int) + 1), .ref f, .int room]))
      rw [← eH1]
      have ha1 := s1 _ _ (show ¬ one m a from a_m) ha
      have hl1 := s1 _ _ (show ¬ one m l from l_m) hl
      have hf1 : H1 f = some (.tup fs) := s1 _ _ (fun z => nf (by rw [show f = m from z]; exact mm)) hf
      have hr1 : H1 r = some (.lst rs) := s1 _ _ (fun z => nr (by rw [show r = m from z]; exact mm)) hr'
      walk_at "g"
      refine ⟨a, dx, _, rfl, ha1, rfl, ?_⟩
      walk_at "g"
      refine ⟨a, l, f, fs, room, ed, tk, xs, rfl, ⟨dx, ha1, hl1⟩, SqT.of hf1, fun _ dx' ha' => ?_, fun z => absurd c z⟩
      obtain rfl : dx = dx' := by rw [ha1] at ha'; injection ha' with ha'; injection ha'
      walk_at "g"
      refine ⟨_, _, _, _, true, rfl, .ty _, .base (.bl _), kit_ty (by decide +kernel), ?_⟩
      walk_at "g"
      rw [decide_eq_true (show V.bl true = V.bl (decide ((ed : Int) + 1 < (fs.length : Int))) by rw [decide_eq_true c])]
      have s2 : Sx (one a) H1 (upd H1 a (.ins T.C_Line dx (lnFs (.ref f) (.ref l) room ((ed : Int) + 1) tk))) := Sx.put rfl
      have sT : Sx M H (upd H1 a (.ins T.C_Line dx (lnFs (.ref f) (.ref l) room ((ed : Int) + 1) tk))) := (s1.le (one_le mm)).trans (s2.le (one_le ma))
      refine q _ ⟨a, l, m, f, room, ed + 1, tk, xs, rs, es, st⟩ ((s1.le fun c z => by rw [show c = m from z]; simp [LX.as]).trans (s2.le fun c z => by rw [show c = a from z]; simp [LX.as])) (g1.trans Gr.upd) ⟨⟨dx, ?_, s2 _ _ (show ¬ one a l from Ne.symm a_l) hl1⟩, ⟨r, nr, ?_, s2 _ _ (fun z => nr (by rw [show r = a from z]; exact ma)) hr1⟩, hP.sx sT, Rp.sx sT hF, ⟨by show ed + 1 < st.length; omega, b2, b3, b4, b5, b6⟩, ma, ml, mm⟩ rfl rfl rfl
      · show upd H1 a _ a = some (.ins T.C_Line dx (lnFs (.ref f) (.ref l) room ((ed + 1 : Nat) : Int) tk))
        rw [show ((ed + 1 : Nat) : Int) = (ed : Int) + 1 by omega]
        exact upd_same
      · show upd H1 a _ m = some (.lst [.ref r, .int tk, .int ((ed + 1 : Nat) : Int), .ref f, .int room])
        rw [show ((ed + 1 : Nat) : Int) = (ed : Int) + 1 by omega, upd_ne (Ne.symm a_m)]
        exact e1
    · rw [decide_eq_false c]
      walk_at "g"
      refine ⟨a, dx, _, rfl, ha, rfl, ?_⟩
      walk_at "g"
      refine ⟨a, l, f, fs, room, ed, tk, xs, rfl, ⟨dx, ha, hl⟩, SqT.of hf, fun z => absurd z c, fun _ => ?_⟩
      walk_at "g"
      refine ⟨_, _, _, _, true, rfl, .ty _, .base (.bl _), kit_ty (by decide +kernel), ?_⟩
      walk_at "g"
      rw [decide_eq_true (show V.bl false = V.bl (decide ((ed : Int) + 1 < (fs.length : Int))) by rw [decide_eq_false c])]
      exact q H ⟨a, l, m, f, room, ed, tk, xs, rs, es, st⟩ (Sx.same (Same.refl _)) (Gr.same (Same.refl _)) hX rfl rfl rfl
end
end D

namespace D
open PySem PySem.Spec PyProof.Rows L2
local macro_rules | `(tactic| walk_at "st") => `(tactic| first | exact SqT.of (by assumption) | exact Or.inl (by assumption) | exact SqT.of upd_same | fail "st")
local macro_rules | `(tactic| walk_at "ixt") => `(tactic| refine ⟨_, _, _, _, rfl, rfl, (by walk_at "st" : SqT _ _ _ _), by rfl, ?_⟩)
local macro_rules | `(tactic| walk_at "sq") => `(tactic| first | exact SqL.of (by assumption) | assumption | exact Or.inl (by assumption) | exact SqL.of upd_same | fail "sq")
local macro_rules | `(tactic| walk_at "ix") => `(tactic| refine ⟨_, _, _, _, rfl, rfl, (by walk_at "sq" : SqL _ _ _ _), by rfl, ?_⟩)
local macro_rules | `(tactic| walk_at "set") => `(tactic| refine ⟨_, _, _, _, rfl, rfl, by first | assumption | exact upd_same, by rfl, ?_⟩)
local macro_rules | `(tactic| walk_at "len") => `(tactic| refine ⟨_, _, rfl, Or.inl (by walk_at "sq" : SqL _ _ _ _), ?_⟩)
local macro_rules | `(tactic| walk_at "g") => `(tactic| repeat (first | refine ⟨_, rfl, ?_⟩ | refine ⟨_, _, rfl, rfl, ?_⟩ | refine ⟨Or.inr (by decide), ?_⟩ | refine ⟨Or.inl (by decide), ?_⟩ | refine ⟨(by decide : (0 : Int) < _), ?_⟩ | refine ⟨(⟨by decide, by decide⟩ : CDiv _ _), ?_⟩ | refine ⟨(⟨by decide, by decide, by decide⟩ : CPow _ _), ?_⟩ | refine Or.inl ⟨_, rfl, ?_⟩ | refine ⟨rfl, ?_⟩ | walk_at "ix" | walk_at "ixt" | walk_at "len" | fail "g"))
local macro_rules | `(tactic| walk_at "if") => `(tactic| refine ite2 (fun e => ?_) (fun e => ?_))
section
variable {P : Program} {w : World} {K : PySem.W.Frag} {mg : Str → Option Value} {base : Heap}
section
variable {C : Addr} {M : Ms} {H : Hp} {xs rs : List V} {es : List (En × List (List Int))} {x r : V} {p : En × List (List Int)}
theorem PairsAt.snoc (h : PairsAt C M H xs rs es) (h3 : EnAt C M H x p.1) (h4 : RwAt M H r p.1) (h5 : Rp M H p.1.ov (ownD p.2)) : PairsAt C M H (xs ++ [x]) (rs ++ [r]) (es ++ [p]) := by
  refine ⟨by simp [h.1], by simp [h.2.1], fun i q hq => ?_⟩
  by_cases c : i < es.length
  · rw [List.getElem?_append_left c] at hq
    rw [List.getElem?_append_left (by rw [h.1]; exact c), List.getElem?_append_left (by rw [h.2.1]; exact c)]
    exact h.2.2 i q hq
  · rw [List.getElem?_append_right (by omega)] at hq
    rw [List.getElem?_append_right (by rw [h.1]; omega), List.getElem?_append_right (by rw [h.2.1]; omega), h.1, h.2.1]
    cases k : i - es.length with
    | zero => rw [k] at hq; cases hq; exact ⟨x, r, rfl, rfl, h3, h4, h5⟩
    | succ n => rw [k] at hq; simp at hq
theorem PairsAt.erase (h : PairsAt C M H xs rs es) (n : Nat) : PairsAt C M H (xs.eraseIdx n) (rs.eraseIdx n) (es.eraseIdx n) := by
  refine ⟨by rw [List.length_eraseIdx, List.length_eraseIdx, h.1], by rw [List.length_eraseIdx, List.length_eraseIdx, h.2.1], fun i q hq => ?_⟩
  rw [List.getElem?_eraseIdx] at hq ⊢
  rw [List.getElem?_eraseIdx]
  split at hq
  · rename_i c
    rw [if_pos c, if_pos c]
    exact h.2.2 i q hq
  · rename_i c
    rw [if_neg c, if_neg c]
    exact h.2.2 (i + 1) q hq
end
theorem cut_neg (zs : List V) (k : Int) (hk : 1 ≤ k) (h : (zs.length : Int) ≤ k + 1) : cutV zs (some (-k)) none = if (zs.length : Int) > k then zs.eraseIdx 0 else zs := by
  unfold cutV
  have e : HT.sIx zs.length 0 (some (-k)) = ((-k) + (zs.length : Int)).toNat := by
    show (if (-k) < 0 then ((-k) + (zs.length : Int)).toNat else _) = _
    rw [if_pos (by omega)]
  rw [e, HT.sIx_none]
  by_cases c : (zs.length : Int) > k
  · rw [if_pos c, show ((-k) + (zs.length : Int)).toNat = 1 by omega, List.take_of_length_le (by rw [List.length_drop]; exact Nat.le_refl _)]
    cases zs <;> rfl
  · rw [if_neg c, show ((-k) + (zs.length : Int)).toNat = 0 by omega, List.drop_zero, Nat.sub_zero, List.take_length]
def sp_sent (T : Txt K mg) : Sp := fun vs H Q _ => ∃ (b ou wu : Addr) (x : LX) (os : List V) (ws : List Str) (M : Ms), vs = [.ref b, .ref x.a, .ref x.m, .ref ou, .ref wu] ∧ Bag K M H b ∧ LXok T M H x ∧ x.as.Nodup ∧ b ∉ x.as ∧ Mk M H ∧
  ¬ M ou ∧ H ou = some (.lst os) ∧ OwnsAt M H os ∧ 1 ≤ os.length ∧ os.length ≤ 1000 ∧ ¬ M wu ∧ H wu = some (.lst (ws.map V.str)) ∧ 1 ≤ ws.length ∧ ws.length ≤ 1000 ∧
  ∀ H' x', Sx (footL b x) H H' → Gr H H' → Bag K M H' b → LXok T M H' x' → x'.a = x.a → x'.l = x.l → x'.m = x.m → Q (.bl true) H'
theorem ok_sent (T : Txt K mg) : FnOk P w K mg base CX0 6 T.f__law_sent T.d__law_sent ["_law_bag_here", "_law_line", "_law_model", "_law_owners", "_law_words"] (sp_sent T) := by
  have G__law_pick := ok_pick (P := P) (w := w) (base := base) T
  have G_Line_send := ok_send (P := P) (w := w) (base := base) T
  have G__law_same_entry := ok_same (P := P) (w := w) (base := base) T
  refine T.F__law_sent.ok sc__law_sent (fun vs H Q E h => ?_) (fun cdv A outer s H vs Q E hr h => ?_)
  · obtain ⟨_, _, _, _, _, _, _, rfl, _⟩ := h
    rfl
  · obtain ⟨b, ou, wu, ⟨a, l, m, f, room, ed, tk, xs, rs, es, st⟩, os, ws, M, rfl, hB, hX, hnd, hbn, hM, nou, hou, hO, o1, o2, nwu, hwu, w1, w2, q⟩ := h
    obtain ⟨⟨dx, ha, hl⟩, ⟨r, nr, hm, hr'⟩, hP, hF, ⟨b1, b2, b3, b4, b5, b6⟩, ma, ml, mm⟩ := id hX
    dsimp only at ha hl nr hm hr' hP hF b1 b2 b3 b4 b5 b6 ma ml mm
    have nd1 := List.nodup_cons.mp hnd
    have nd2 := List.nodup_cons.mp nd1.2
    have a_l : a ≠ l := fun z => nd1.1 (by rw [z]; simp)
    have a_m : a ≠ m := fun z => nd1.1 (by rw [z]; simp)
    have l_m : l ≠ m := fun z => nd2.1 (by rw [z]; simp)
    have b_a : b ≠ a := fun z => hbn (by rw [z]; simp [LX.as])
    have b_l : b ≠ l := fun z => hbn (by rw [z]; simp [LX.as])
    have b_m : b ≠ m := fun z => hbn (by rw [z]; simp [LX.as])
    have mb := hB.w
    have nb : ∀ {c : Addr}, ¬ M c → ¬ one b c := fun n z => n (by rw [show _ = b from z]; exact mb)
    obtain ⟨lx, lr, _⟩ := id hP
    refine ⟨_, (pss_cons (ps_set (i := 5) sc__law_sent.nd rfl (Or.inl rfl) (pe_ix (ix_listK (K := K) rfl) (pv 3) (pe_call G__law_pick (hr.mono (by omega)) (by rfl) T.g__law_pick T.F__law_pick.kp T.b__law_pick .nil pass0 (pa_cons (pv 0) (pa_cons (pe_callB (call_lenK (K := K) rfl) (by rfl) T.m_len PySem.boot_len (pa_cons (pv 3) pa_nil)) pa_nil))) (fun _ _ => rfl)))
      (pss_cons (ps_set (i := 6) sc__law_sent.nd rfl (Or.inl rfl) (pe_ix (ix_listK (K := K) rfl) (pv 4) (pe_call G__law_pick (hr.mono (by omega)) (by rfl) T.g__law_pick T.F__law_pick.kp T.b__law_pick .nil pass0 (pa_cons (pv 0) (pa_cons (pe_callB (call_lenK (K := K) rfl) (by rfl) T.m_len PySem.boot_len (pa_cons (pv 4) pa_nil)) pa_nil))) (fun _ _ => rfl)))
      (pss_cons (ps_set (i := 7) sc__law_sent.nd rfl (Or.inl rfl) (pe_ix (ix_listK (K := K) rfl) (pe_lst (pa_cons (pe_call G__law_pick (hr.mono (by omega)) (by rfl) T.g__law_pick T.F__law_pick.kp T.b__law_pick .nil pass0 (pa_cons (pv 0) (pa_cons pe_int pa_nil))) (pa_cons (pe_call G__law_pick (hr.mono (by omega)) (by rfl) T.g__law_pick T.F__law_pick.kp T.b__law_pick .nil pass0 (pa_cons (pv 0) (pa_cons (pe_op op_pow pe_int pe_int) pa_nil))) pa_nil))) (pe_op op_fdiv (pe_call G__law_pick (hr.mono (by omega)) (by rfl) T.g__law_pick T.F__law_pick.kp T.b__law_pick .nil pass0 (pa_cons (pv 0) (pa_cons pe_int pa_nil))) pe_int) (fun _ _ => rfl)))
      (pss_cons (ps_set (i := 8) sc__law_sent.nd rfl (Or.inl rfl) (pe_call G__law_pick (hr.mono (by omega)) (by rfl) T.g__law_pick T.F__law_pick.kp T.b__law_pick .nil pass0 (pa_cons (pv 0) (pa_cons pe_int pa_nil))))
      (pss_cons (ps_set (i := 9) sc__law_sent.nd rfl (Or.inl rfl) (pe_tup (pa_cons (pv 5) (pa_cons (pv 6) (pa_cons (pv 7) (pa_cons (pe_ix (ix_listK (K := K) rfl) (pv 2) pe_int (fun _ _ => rfl)) (pa_cons (pv 8) (pa_cons (pe_ix (ix_tupK (K := K) rfl) (pe_ix (ix_tupK (K := K) rfl) (pe_ix (ix_listK (K := K) rfl) (pv 2) pe_int (fun _ _ => rfl)) (pe_ix (ix_listK (K := K) rfl) (pv 2) pe_int (fun _ _ => rfl)) (fun _ _ => rfl)) (pv 8) (fun _ _ => rfl)) pa_nil))))))))
      (pss_cons (ps_asg (pe_op op_add (pe_ix (ix_listK (K := K) rfl) (pv 2) pe_int (fun _ _ => rfl)) pe_int) (pg_sub (pv 2) pe_int set_list))
      (pss_cons (ps_asg (pe_slice (sl_listK (K := K) rfl) (pe_op op_cat (pe_ix (ix_listK (K := K) rfl) (pv 2) pe_int (fun _ _ => rfl)) (pe_lst (pa_cons (pv 9) pa_nil))) (po_some (pe_un un_neg (pe_ix (ix_listK (K := K) rfl) (pv 2) pe_int (fun _ _ => rfl)))) po_none) (pg_sub (pv 2) pe_int set_list))
      (pss_one (ps_ret (pe_call G__law_same_entry (hr.mono (by omega)) (by rfl) T.g__law_same_entry T.F__law_same_entry.kp T.b__law_same_entry .nil pass0 (pa_cons (pe_meth (pv 1) T.cl_Line ⟨T.a_Line_send, T.i_Line_send, T.F_Line_send.kp⟩ G_Line_send (hr.mono (by omega)) T.b_Line_send .nil pass0 (pa_cons (pv 5) (pa_cons (pv 6) (pa_cons (pv 7) (pa_cons (pv 8) pa_nil))))) (pa_cons (pv 9) pa_nil)))))))))))), ?_⟩
    walk_at "g"
    refine ⟨b, _, M, rfl, hB, by omega, by omega, fun w1' H1 c0 c1 hA1 hB1 => ?_⟩
    obtain ⟨i1, rfl⟩ : ∃ j : Nat, w1' = (j : Int) := ⟨w1'.toNat, by omega⟩
    have hi1 : i1 < os.length := by omega
    have hou1 := hA1.sx _ _ (nb nou) hou
    have hwu1 := hA1.sx _ _ (nb nwu) hwu
    walk_at "g"
    refine ⟨_, _, _, _, rfl, rfl, SqL.of hou1, atI_nat (List.getElem?_eq_getElem hi1), ?_⟩
    have lws : (ws.map V.str).length = ws.length := List.length_map _
    walk_at "g"
    refine ⟨b, _, M, rfl, hB1, by omega, by omega, fun w2' H2 d0 d1 hA2 hB2 => ?_⟩
    obtain ⟨i2, rfl⟩ : ∃ j : Nat, w2' = (j : Int) := ⟨w2'.toNat, by omega⟩
    have hi2 : i2 < ws.length := by omega
    have hwu2 := hA2.sx _ _ (nb nwu) hwu1
    walk_at "g"
    refine ⟨_, _, _, _, rfl, rfl, SqL.of hwu2, (show atI (ws.map V.str) (i2 : Int) = some (.str ws[i2]) from atI_nat (by rw [List.getElem?_map, List.getElem?_eq_getElem hi2]; rfl)), ?_⟩
    walk_at "g"
    refine ⟨b, 4, M, rfl, hB2, by omega, by omega, fun w3 H3 e0 e1 hA3 hB3 => ?_⟩
    walk_at "g"
    refine ⟨b, _, M, rfl, hB3, by decide, by decide, fun w4 H4 e2 e3 hA4 hB4 => ?_⟩
    walk_at "g"
    refine ⟨szK rfl, fun p4 hp4 => ?_⟩
    have s4 : Same H4 (upd H4 p4 (.lst [.int w3, .int w4])) := same_new hp4
    have e4 : upd H4 p4 (.lst [.int w3, .int w4]) p4 = some (.lst [.int w3, .int w4]) := upd_same
    have hB4' := hB4.same s4
    have p4b : p4 ≠ b := fun z => hB4.there (by rw [← z]; exact hp4)
    generalize upd H4 p4 (.lst [.int w3, .int w4]) = H5 at s4 e4 hB4'
    walk_at "g"
    refine ⟨b, 5, M, rfl, hB4', by omega, by omega, fun w6 H6 f0 f1 hA6 hB6 => ?_⟩
    have e6 := (hA6 p4 p4b).trans e4
    walk_at "g"
    obtain ⟨who, hwho⟩ : ∃ who, atI [V.int w3, .int w4] (w6 / 4) = some (V.int who) := by
      have hc : w6 / 4 = 0 ∨ w6 / 4 = 1 := by omega
      rcases hc with h | h <;> (rw [h]; exact ⟨_, rfl⟩)
    refine ⟨_, _, _, _, rfl, rfl, SqL.of e6, hwho, ?_⟩
    walk_at "g"
    refine ⟨b, 4, M, rfl, hB6, by omega, by omega, fun w7 H7 g0 g1 hA7 hB7 => ?_⟩
    obtain ⟨qn, rfl⟩ : ∃ j : Nat, w7 = (j : Int) := ⟨w7.toNat, by omega⟩
    have sb : Sx (one b) H H7 := hA1.sx.trans (hA2.sx.trans (hA3.sx.trans (hA4.sx.trans ((Sx.same s4).trans (hA6.sx.trans hA7.sx)))))
    have gb : Gr H H7 := (At.gr hA1 hB1.there).trans ((At.gr hA2 hB2.there).trans ((At.gr hA3 hB3.there).trans ((At.gr hA4 hB4.there).trans ((Gr.same s4).trans ((At.gr hA6 hB6.there).trans (At.gr hA7 hB7.there))))))
    have hX7 := hX.frame sb (one_le mb) (fun c hc z => hbn (by rw [← show c = b from z]; exact hc))
    obtain ⟨⟨dx7, ha7, hl7⟩, ⟨r7, nr7, hm7, hr7⟩, hP7, hF7, _⟩ := id hX7
    dsimp only at ha7 hl7 nr7 hm7 hr7 hP7 hF7
    obtain ⟨st1, rO, lst1⟩ := hO _ (List.getElem_mem hi1)
    have rO7 := rO.sx (sb.le (one_le mb))
    obtain ⟨f', fs, ef, nf, hf, rf⟩ := Rp.tupX hF7
    obtain rfl : f = f' := by injection ef
    have hed : st[ed]? = some st[ed] := List.getElem?_eq_getElem b1
    obtain ⟨y, hy, ry⟩ := rf.getD (i := ed) (d := rowD st[ed]) (by rw [List.getElem?_map, hed]; rfl)
    obtain ⟨t1, ys, rfl, nt1, ht1, rys⟩ := Rp.tupX (show Rp M H7 y (.tuple (st[ed].map PyData.int)) from ry)
    have ey := rys.ofInts
    subst ey
    have l4 := b3 st[ed] (List.getElem_mem b1)
    have hq4 : qn < st[ed].length := by omega
    walk_at "g"
    refine ⟨_, _, _, _, rfl, rfl, SqT.of hf, atI_nat hy, ?_⟩
    walk_at "g"
    refine ⟨_, _, _, _, rfl, rfl, SqT.of ht1, (show atI (st[ed].map V.int) (qn : Int) = some (.int st[ed][qn]) from atI_nat (by rw [List.getElem?_map, List.getElem?_eq_getElem hq4]; rfl)), ?_⟩
    walk_at "g"
    refine ⟨szK rfl, fun pt hpt => ?_⟩
    obtain ⟨en, een⟩ : ∃ en : En, en = ⟨os[i1], ws[i2], who, tk, (qn : Int), st[ed][qn]⟩ := ⟨_, rfl⟩
    obtain ⟨H8, eH8⟩ : ∃ H8, H8 = upd H7 pt (.tup [os[i1], .str ws[i2], .int who, .int tk, .int (qn : Int), .int st[ed][qn]]) := ⟨_, rfl⟩
    have s8 : Same H7 H8 := by rw [eH8]; exact same_new hpt
    have e8 : H8 pt = some (.tup [en.ov, .str en.word, .int en.who, .int en.ticket, .int en.question, .int en.answer]) := by rw [eH8, een]; exact upd_same
    have npt : ¬ M pt := (hM.gr gb).out hpt
    show (fun (x : V) (H1 : Hp) => _) (V.ref pt) (upd H7 pt (.tup [os[i1], .str ws[i2], .int who, .int tk, .int (qn : Int), .int st[ed][qn]]))
    rw [← eH8]
    have hX8 := hX7.frame (F := fun _ => False) (Sx.same s8) (fun _ z => z.elim) (fun _ _ z => z)
    have hm8 := s8 _ _ hm7
    have hr8 := s8 _ _ hr7
    walk_at "g"
    walk_at "set"
    obtain ⟨H9, eH9⟩ : ∃ H9, H9 = upd H8 m (.lst [.ref r7, .int (tk + 1), .int ed, .ref f, .int room]) := ⟨_, rfl⟩
    have s9 : Sx (one m) H8 H9 := by rw [eH9]; exact Sx.put rfl
    have g9 : Gr H8 H9 := by rw [eH9]; exact Gr.upd
    have hm9 : H9 m = some (.lst [.ref r7, .int (tk + 1), .int ed, .ref f, .int room]) := by rw [eH9]; exact upd_same
    show (fun G : Hp => _) (upd H8 m (.lst [.ref r7, .int (tk + 1), .int ed, .ref f, .int room]))
    rw [← eH9]
    have r7m : r7 ≠ m := fun z => nr7 (by rw [z]; exact mm)
    have hr9 := s9 _ _ (show ¬ one m r7 from r7m) hr8
    walk_at "g"
    refine ⟨szK rfl, fun p9 hp9 => ?_⟩
    have t1 : Same H9 (upd H9 p9 (.lst [.ref pt])) := same_new hp9
    have u1 : upd H9 p9 (.lst [.ref pt]) p9 = some (.lst [.ref pt]) := upd_same
    generalize upd H9 p9 (.lst [.ref pt]) = G1 at t1 u1
    refine ⟨r7, p9, _, _, rfl, rfl, t1 _ _ hr9, u1, by rw [sizeLine_eq]; show rs.length + 1 ≤ _; omega, fun p10 hp10 => ?_⟩
    have t2 : Same G1 (upd G1 p10 (.lst (rs ++ [.ref pt]))) := same_new hp10
    have u2 : upd G1 p10 (.lst (rs ++ [.ref pt])) p10 = some (.lst (rs ++ [.ref pt])) := upd_same
    generalize upd G1 p10 (.lst (rs ++ [.ref pt])) = G2 at t2 u2
    have t12 := t1.trans t2
    have hmG := t12 _ _ hm9
    walk_at "g"
    refine ⟨p10, _, rfl, SqL.of u2, fun p11 hp11 => ?_⟩
    have lrs : ((rs ++ [V.ref pt]).length : Int) ≤ room + 1 := by rw [List.length_append]; show ((rs.length + 1 : Nat) : Int) ≤ _; omega
    have ecut : cutV (rs ++ [V.ref pt]) (some (-room)) none = if ((rs ++ [V.ref pt]).length : Int) > room then (rs ++ [V.ref pt]).eraseIdx 0 else rs ++ [V.ref pt] := cut_neg _ _ b5 lrs
    obtain ⟨rs2, ers2⟩ : ∃ z, z = cutV (rs ++ [V.ref pt]) (some (-room)) none := ⟨_, rfl⟩
    obtain ⟨G3, eG3⟩ : ∃ G3, G3 = upd G2 p11 (.lst (cutV (rs ++ [V.ref pt]) (some (-room)) none)) := ⟨_, rfl⟩
    have t3 : Same G2 G3 := by rw [eG3]; exact same_new hp11
    have u3 : G3 p11 = some (.lst rs2) := by rw [eG3, ers2]; exact upd_same
    show (fun G : Hp => _) (upd G2 p11 (.lst (cutV (rs ++ [V.ref pt]) (some (-room)) none)))
    rw [← eG3]
    have hm3 := t3 _ _ hmG
    walk_at "g"
    walk_at "set"
    obtain ⟨G4, eG4⟩ : ∃ G4, G4 = upd G3 m (.lst [.ref p11, .int (tk + 1), .int ed, .ref f, .int room]) := ⟨_, rfl⟩
    have s4' : Sx (one m) G3 G4 := by rw [eG4]; exact Sx.put rfl
    have g4' : Gr G3 G4 := by rw [eG4]; exact Gr.upd
    have hm4 : G4 m = some (.lst [.ref p11, .int (tk + 1), .int ed, .ref f, .int room]) := by rw [eG4]; exact upd_same
    show (fun G : Hp => _) (upd G3 m (.lst [.ref p11, .int (tk + 1), .int ed, .ref f, .int room]))
    rw [← eG4]
    have sm : Sx (one m) H8 G4 := s9.trans ((Sx.same (t12.trans t3)).trans s4')
    have gm : Gr H8 G4 := g9.trans ((Gr.same (t12.trans t3)).trans g4')
    have sM : Sx M H7 G4 := (Sx.same s8).trans (sm.le (one_le mm))
    have ha4 := sm _ _ (show ¬ one m a from a_m) (s8 _ _ ha7)
    have hl4 := sm _ _ (show ¬ one m l from l_m) (s8 _ _ hl7)
    have hMG := ((hM.gr gb).gr (Gr.same s8)).gr gm
    have np11 : ¬ M p11 := fun z => by
      have := (((hM.gr gb).gr (Gr.same s8)).gr (g9.trans (Gr.same t12))).out hp11
      exact this z
    have u4 : G4 p11 = some (.lst rs2) := s4' _ _ (fun z => np11 (by rw [show p11 = m from z]; exact mm)) u3
    have e84 := sm _ _ (fun z => npt (by rw [show pt = m from z]; exact mm)) e8
    walk_at "g"
    refine ⟨a, dx7, _, rfl, ha4, rfl, ?_⟩
    walk_at "g"
    refine ⟨a, l, .ref f, os[i1], ws[i2], who, (qn : Int), st[ed][qn], room, ed, tk, xs, st, M, rfl, ⟨dx7, ha4, hl4⟩, Rp.sx sM hF7, ma, ml, a_l, hMG, by omega, ⟨ed, qn, st[ed], rfl, hed, rfl, List.getElem?_eq_getElem hq4⟩, fun H' x sx gx hE hL => ?_⟩
    have nal : ∀ c, also (one a) l c → M c := fun c z => z.elim (fun z => by rw [show c = a from z]; exact ma) (fun z => by rw [show c = l from z]; exact ml)
    have sxM : Sx M G4 H' := sx.le nal
    have hE' : EnAt T.C_Entry M H' x en := by rw [een]; exact hE
    have hRw : RwAt M H' (.ref pt) en := ⟨pt, rfl, npt, sxM _ _ npt e84⟩
    have hRo : Rp M H' en.ov (ownD st1) := by rw [een]; exact (rO7.sx sM).sx sxM
    walk_at "g"
    refine ⟨x, .ref pt, en, st1, M, rfl, hE', hRw, hRo, hMG.gr gx, fun H'' s'' => ?_⟩
    have fb : ∀ c, one b c → footL b ⟨a, l, m, f, room, ed, tk, xs, rs, es, st⟩ c := fun c z => .inl z
    have fm : ∀ c, one m c → footL b ⟨a, l, m, f, room, ed, tk, xs, rs, es, st⟩ c := fun c z => .inr (by rw [show c = m from z]; simp [LX.as])
    have fal : ∀ c, also (one a) l c → footL b ⟨a, l, m, f, room, ed, tk, xs, rs, es, st⟩ c := fun c z => .inr (by
      rcases z with z | z
      · rw [show c = a from z]; simp [LX.as]
      · rw [show c = l from z]; simp [LX.as])
    have hPs : PairsAt T.C_Entry M H'' (xs ++ [x]) (rs ++ [.ref pt]) (es ++ [(en, st1)]) := (((hP7.sx sM).sx sxM).snoc (p := (en, st1)) hE' hRw hRo).sx (Sx.same s'')
    have sxF : Sx M H7 H'' := sM.trans (sxM.trans (Sx.same s''))
    have hBF : Bag K M H'' b := (((hB7.same s8).keep sm (show ¬ one m b from b_m) (one_le mm)).keep sx (fun z => z.elim b_a b_l) nal).same s''
    have hm5 : H'' m = some (.lst [.ref p11, .int (tk + 1), .int ed, .ref f, .int room]) := s'' _ _ (sx _ _ (fun z => z.elim (Ne.symm a_m) (Ne.symm l_m)) hm4)
    have hp5 : H'' p11 = some (.lst rs2) := s'' _ _ (sxM _ _ np11 u4)
    obtain ⟨dxF, haF, hlF⟩ := hL
    have lrs1 : ((rs ++ [V.ref pt]).length : Int) = (es.length : Int) + 1 := by rw [List.length_append, lr]; rfl
    have sFull : Sx (footL b ⟨a, l, m, f, room, ed, tk, xs, rs, es, st⟩) H H'' := (sb.le fb).trans ((Sx.same s8).trans ((sm.le fm).trans ((sx.le fal).trans (Sx.same s''))))
    have gFull : Gr H H'' := gb.trans ((Gr.same s8).trans (gm.trans (gx.trans (Gr.same s''))))
    rw [lx] at hlF
    rw [lrs1] at ecut
    by_cases c : (es.length : Int) + 1 > room
    · rw [if_pos c] at hlF ecut
      refine q H'' ⟨a, l, m, f, room, ed, tk + 1, (xs ++ [x]).eraseIdx 0, rs2, (es ++ [(en, st1)]).eraseIdx 0, st⟩ sFull gFull hBF ⟨⟨dxF, s'' _ _ haF, s'' _ _ hlF⟩, ⟨p11, np11, hm5, hp5⟩, ?_, Rp.sx sxF hF7, ⟨b1, b2, b3, ?_, b5, b6⟩, ma, ml, mm⟩ rfl rfl rfl
      · show PairsAt _ _ _ _ rs2 _
        rw [ers2, ecut]
        exact hPs.erase 0
      · show (((es ++ [(en, st1)]).eraseIdx 0).length : Int) ≤ room
        rw [List.length_eraseIdx, if_pos (by rw [List.length_append]; exact Nat.zero_lt_succ _), List.length_append]
        show ((es.length + 1 - 1 : Nat) : Int) ≤ room
        omega
    · rw [if_neg c] at hlF ecut
      refine q H'' ⟨a, l, m, f, room, ed, tk + 1, xs ++ [x], rs2, es ++ [(en, st1)], st⟩ sFull gFull hBF ⟨⟨dxF, s'' _ _ haF, s'' _ _ hlF⟩, ⟨p11, np11, hm5, hp5⟩, ?_, Rp.sx sxF hF7, ⟨b1, b2, b3, ?_, b5, b6⟩, ma, ml, mm⟩ rfl rfl rfl
      · show PairsAt _ _ _ _ rs2 _
        rw [ers2, ecut]
        exact hPs
      · show ((es ++ [(en, st1)]).length : Int) ≤ room
        rw [List.length_append]
        show ((es.length + 1 : Nat) : Int) ≤ room
        omega
end
end D

namespace D
open PySem PySem.Spec PyProof.Rows L2
local macro_rules | `(tactic| walk_at "st") => `(tactic| first | exact SqT.of (by assumption) | exact Or.inl (by assumption) | exact SqT.of upd_same | fail "st")
local macro_rules | `(tactic| walk_at "ixt") => `(tactic| refine ⟨_, _, _, _, rfl, rfl, (by walk_at "st" : SqT _ _ _ _), by rfl, ?_⟩)
local macro_rules | `(tactic| walk_at "sq") => `(tactic| first | exact SqL.of (by assumption) | assumption | exact Or.inl (by assumption) | exact SqL.of upd_same | fail "sq")
local macro_rules | `(tactic| walk_at "ix") => `(tactic| refine ⟨_, _, _, _, rfl, rfl, (by walk_at "sq" : SqL _ _ _ _), by rfl, ?_⟩)
local macro_rules | `(tactic| walk_at "set") => `(tactic| refine ⟨_, _, _, _, rfl, rfl, by first | assumption | exact upd_same, by rfl, ?_⟩)
local macro_rules | `(tactic| walk_at "len") => `(tactic| refine ⟨_, _, rfl, Or.inl (by walk_at "sq" : SqL _ _ _ _), ?_⟩)
local macro_rules | `(tactic| walk_at "g") => `(tactic| repeat (first | refine ⟨_, rfl, ?_⟩ | refine ⟨_, _, rfl, rfl, ?_⟩ | refine ⟨Or.inr (by decide), ?_⟩ | refine ⟨Or.inl (by decide), ?_⟩ | refine ⟨(by decide : (0 : Int) < _), ?_⟩ | refine ⟨(⟨by decide, by decide⟩ : CDiv _ _), ?_⟩ | refine ⟨(⟨by decide, by decide, by decide⟩ : CPow _ _), ?_⟩ | refine Or.inl ⟨_, rfl, ?_⟩ | refine ⟨rfl, ?_⟩ | walk_at "ix" | walk_at "ixt" | walk_at "len" | fail "g"))
local macro_rules | `(tactic| walk_at "if") => `(tactic| refine ite2 (fun e => ?_) (fun e => ?_))
section
variable {P : Program} {w : World} {K : PySem.W.Frag} {mg : Str → Option Value} {base : Heap}
theorem okh_number (T : Txt K mg) : L2H.FnH P w K mg base CX0 1 T.f__law_number T.d__law_number ["_law_thing"] sp_number := by
  refine Fun.okH T.F__law_number sc__law_number (fun vs H Q E h => ?_) (fun cdv A outer s H vs Q E p hr h => ?_)
  · obtain ⟨_, rfl, _⟩ := h
    rfl
  · obtain ⟨i, rfl, q⟩ := h
    refine ⟨_, (pss_one (ps_ret (pe_and (pe_callB (call_isi1K (K := K) rfl) (by rfl) T.m_isinstance (by decide +kernel) (pa_cons (pv 0) (pa_cons (pe_bltn (v := .ty "int") (u := .type "int") (by rfl) T.m_int (by decide +kernel) rfl) pa_nil))) (pe_one (pe_not (pe_callB (call_isi1K (K := K) rfl) (by rfl) T.m_isinstance (by decide +kernel) (pa_cons (pv 0) (pa_cons (pe_bltn (v := .ty "bool") (u := .type "bool") (by rfl) T.m_bool (by decide +kernel) rfl) pa_nil)))))))), ?_⟩
    walk_at "g"
    refine ⟨_, _, _, _, true, rfl, .ty _, .base (.int _), kit_ty (by decide +kernel), ?_⟩
    walk_at "g"
    walk_at "g"
    refine ⟨_, _, _, _, false, rfl, .ty _, .base (.int _), kit_ty (by decide +kernel), ?_⟩
    walk_at "g"
    exact q
theorem ok_takemissN (T : Txt K mg) : FnOk P w K mg base (L2N.CX P w) 3 T.f_Line_take T.d_Line_take ["self", "number"] (sp_takemiss T.C_Line T.C_NoAnswer) := by
  have G_is_whole := ok_is_whole (P := P) (w := w) (base := base) T
  have G_NoAnswer___init__ := ok_noanswer (P := P) (w := w) (base := base) T
  refine Fun.okXN T.F_Line_take sc_Line_take (fun vs H Q E h => ?_) (fun cdv A outer s H vs Q E hr h => ?_)
  · obtain ⟨_, _, _, _, _, _, _, _, rfl, _⟩ := h
    rfl
  · obtain ⟨a, l, fv, room, ed, tk, n, es, rfl, ⟨dx, ha, hl⟩, hn, q⟩ := h
    refine ⟨_, (pss_cons (ps_if (PW.pt (pw_or (pt_not (pt_val (pe_call G_is_whole (hr.mono (by omega)) (by rfl) T.g_is_whole T.F_is_whole.kp T.b_is_whole .nil pass0 (pa_cons (pv 1) pa_nil)))) (pw_or1 (pt_not (pt_chain op_le op_lt pe_int (pv 1) (pe_callB (call_lenK (K := K) rfl) (by rfl) T.m_len PySem.boot_len (pa_cons (pe_fldK (K := K) rfl (pv 0) rfl) pa_nil))))))) (pss_one (L2N.ps_raise rfl (L2N.takes_of rfl rfl rfl rfl) (pmk_oexN T.ox_NoAnswer T.iC_NoAnswer T.tI_NoAnswer G_NoAnswer___init__ (hr.mono (by omega)) T.b_NoAnswer___init__ .nil pass0 (by rfl) T.g_NoAnswer (pa_cons (pv 1) pa_nil)))) pss_nil)
      (pss_one (ps_ret (pe_bmK2 (K := K) rfl PySem.F.plainAttrs_list PySem.F.slot_list_pop PySem.F.type_list_pop mt_popAt (pe_fldK (K := K) rfl (pv 0) rfl) (pa_cons (pv 1) pa_nil))))), ?_⟩
    walk_at "g"
    by_cases c : (0 : Int) ≤ n
    · have c2 : ¬ n < (es.length : Int) := by omega
      rw [decide_eq_true c, if_pos rfl]
      walk_at "g"
      refine ⟨a, _, dx, _, _, rfl, ha, T.cl_Line, T.nA_Line__entries, rfl, ?_⟩
      walk_at "g"
      rw [decide_eq_false c2]
      walk_at "g"
      exact mk_err1 T.ox_NoAnswer T.nf_NoAnswer_number q
    · rw [decide_eq_false c, if_neg Bool.false_ne_true]
      walk_at "g"
      exact mk_err1 T.ox_NoAnswer T.nf_NoAnswer_number q
/-- the class of a caught error -/
theorem exm_own {K : PySem.W.Frag} {D C : Addr} {b : Bool} (be : PySem.W.subIn K (.ref C) (.type "BaseException") = some true) (hd : PySem.W.hasDictIn K C = true) (ty : PySem.W.typeIn K (.ref C) = some (.type "type")) (h : PySem.W.subIn K (.ref D) (.ref C) = some b) : PySem.W.exmOne K (.ref D) (.ref C) = some b := by
  obtain ⟨cd, hc, _⟩ := PySem.W.any_some hd
  unfold PySem.W.exmOne
  rw [if_pos (by rw [be]; rfl)]
  show (if ((PySem.W.clsIn K C).isSome && PySem.W.typeIn K (.ref C) == some (.type "type")) = true then PySem.W.subIn K (.ref D) (.ref C) else none) = some b
  rw [if_pos (by rw [hc, ty]; rfl), h]
def sp_refused (C : Addr) : Sp := fun vs H Q _ => ∃ (a l : Addr) (fv : V) (room ed tk n : Int) (es : List V), vs = [.ref a, .int n] ∧ LnAt C H a l fv room ed tk es ∧ (n < 0 ∨ (es.length : Int) ≤ n) ∧ ∀ H', Same H H' → Q (.bl true) H'
theorem ok_refused (T : Txt K mg) : FnOk P w K mg base CX0 6 T.f__law_refused T.d__law_refused ["_law_line", "_law_number_here"] (sp_refused T.C_Line) := by
  have G_Line_take := ok_takemissN (P := P) (w := w) (base := base) T
  have H__law_number := okh_number (P := P) (w := w) (base := base) T
  refine T.F__law_refused.ok sc__law_refused (fun vs H Q E h => ?_) (fun cdv A outer s H vs Q E hr h => ?_)
  · obtain ⟨_, _, _, _, _, _, _, _, rfl, _⟩ := h
    rfl
  · obtain ⟨a, l, fv, room, ed, tk, n, es, rfl, ⟨dx, ha, hl⟩, hn, q⟩ := h
    refine ⟨_, (pss_cons (L2N.ps_try_as (i := 2) rfl rfl sc__law_refused.nd rfl rfl ⟨rfl, by decide, .inl T.g_NoAnswer⟩ takes0N (fun W pn xe tk _ => (pss_one (ps_expr (pe_methS (pv 0) T.cl_Line ⟨T.a_Line_take, T.i_Line_take, T.F_Line_take.kp⟩ G_Line_take (hr.mono (by omega)) T.b_Line_take (fun σ => L2N.passAt tk σ) (pa_cons (pv 1) pa_nil))))) (fun a oe cls d pn hz hf => (pss_cons (ps_if (PW.pt (pw_or (pt_val (pe_callB (call_isX hz.zc hf) (by rfl) T.m_isinstance (by decide +kernel) (pa_cons (pv 2) (pa_cons (pe_glob (v := .ref T.C_BadFence) rfl T.g_BadFence rfl) pa_nil)))) (pw_or (pt_not (pt_val (pe_callB (call_isX hz.zc hf) (by rfl) T.m_isinstance (by decide +kernel) (pa_cons (pv 2) (pa_cons (pe_glob (v := .ref T.C_ScreenError) rfl T.g_ScreenError rfl) pa_nil))))) (pw_or1 (pt_not (pt_val (pe_callB (call_isX hz.zc hf) (by rfl) T.m_isinstance (by decide +kernel) (pa_cons (pv 2) (pa_cons (pe_bltn (v := .ty "ValueError") (u := .type "ValueError") (by rfl) T.m_ValueError (by decide +kernel) rfl) pa_nil))))))))) (pss_one (ps_ret pe_bl)) pss_nil)
      (pss_one (ps_ret (pe_and (L2H.pe_callH (E := fun _ => L2.E0) H__law_number (room_suite hr (by omega) _) (hot_suite hz hf) (by rfl) T.g__law_number T.F__law_number.kp T.b__law_number passH (pa_cons (pe_xf T.xf_NoAnswer T.nf_NoAnswer_number hz.zc hf (pv 2)) pa_nil)) (pe_one (pe_cmpR op_eq (pe_xf T.xf_NoAnswer T.nf_NoAnswer_number hz.zc hf (pv 2)) (pv 1) (nomark _)))))))))
      (pss_one (ps_ret pe_bl))), ?_⟩
    walk_at "g"
    refine ⟨a, dx, _, rfl, ha, rfl, ?_⟩
    walk_at "g"
    refine ⟨a, l, fv, room, ed, tk, n, es, rfl, ⟨dx, ha, hl⟩, hn, fun d hd => ?_⟩
    refine ⟨true, exm_own T.be_NoAnswer T.hd_NoAnswer T.ty_NoAnswer T.ss_NoAnswer, fun _ ex hex => ?_, fun z => by cases z⟩
    have sd : Same H (upd H d (.xd [(sNumber, .int n)])) := same_new hd
    have ed' : upd H d (.xd [(sNumber, .int n)]) d = some (.xd [(sNumber, .int n)]) := upd_same
    generalize upd H d (.xd [(sNumber, .int n)]) = H1 at sd ed' hex
    walk_at "g"
    refine ⟨T.C_NoAnswer, d, _, .ref T.C_BadFence, .ref T.C_BadFence, false, rfl, rfl, T.is_NoAnswer, ed', rfl, fun u r => r, kit_err T.hd_BadFence T.ty_BadFence T.ne_NoAnswer_BadFence T.s_NoAnswer_BadFence, ?_⟩
    walk_at "g"
    refine ⟨T.C_NoAnswer, d, _, .ref T.C_ScreenError, .ref T.C_ScreenError, true, rfl, rfl, T.is_NoAnswer, ed', rfl, fun u r => r, kit_err T.hd_ScreenError T.ty_ScreenError T.ne_NoAnswer_ScreenError T.s_NoAnswer_ScreenError, ?_⟩
    walk_at "g"
    refine ⟨T.C_NoAnswer, d, _, .ty "ValueError", .type "ValueError", true, rfl, rfl, T.is_NoAnswer, ed', rfl, fun u r => r, kit_ty2 (by decide +kernel) T.vb_NoAnswer, ?_⟩
    walk_at "g"
    refine ⟨d, _, _, rfl, ed', rfl, ?_⟩
    walk_at "g"
    refine ⟨d, _, _, rfl, ed', rfl, ?_⟩
    walk_at "g"
    rw [decide_eq_true (show V.int n = V.int n from rfl)]
    exact q _ sd
end
end D

namespace D
open PySem PySem.Spec PyProof.Rows L2
local macro_rules | `(tactic| walk_at "st") => `(tactic| first | exact SqT.of (by assumption) | exact Or.inl (by assumption) | exact SqT.of upd_same | fail "st")
local macro_rules | `(tactic| walk_at "ixt") => `(tactic| refine ⟨_, _, _, _, rfl, rfl, (by walk_at "st" : SqT _ _ _ _), by rfl, ?_⟩)
local macro_rules | `(tactic| walk_at "sq") => `(tactic| first | exact SqL.of (by assumption) | assumption | exact Or.inl (by assumption) | exact SqL.of upd_same | fail "sq")
local macro_rules | `(tactic| walk_at "ix") => `(tactic| refine ⟨_, _, _, _, rfl, rfl, (by walk_at "sq" : SqL _ _ _ _), by rfl, ?_⟩)
local macro_rules | `(tactic| walk_at "set") => `(tactic| refine ⟨_, _, _, _, rfl, rfl, by first | assumption | exact upd_same, by rfl, ?_⟩)
local macro_rules | `(tactic| walk_at "len") => `(tactic| refine ⟨_, _, rfl, Or.inl (by walk_at "sq" : SqL _ _ _ _), ?_⟩)
local macro_rules | `(tactic| walk_at "g") => `(tactic| repeat (first | refine ⟨_, rfl, ?_⟩ | refine ⟨_, _, rfl, rfl, ?_⟩ | refine ⟨Or.inr (by decide), ?_⟩ | refine ⟨Or.inl (by decide), ?_⟩ | refine ⟨(by decide : (0 : Int) < _), ?_⟩ | refine ⟨(⟨by decide, by decide⟩ : CDiv _ _), ?_⟩ | refine ⟨(⟨by decide, by decide, by decide⟩ : CPow _ _), ?_⟩ | refine Or.inl ⟨_, rfl, ?_⟩ | refine ⟨rfl, ?_⟩ | walk_at "ix" | walk_at "ixt" | walk_at "len" | fail "g"))
local macro_rules | `(tactic| walk_at "if") => `(tactic| refine ite2 (fun e => ?_) (fun e => ?_))
section
variable {P : Program} {w : World} {K : PySem.W.Frag} {mg : Str → Option Value} {base : Heap}
theorem cut_lo (xs : List V) (n : Nat) : cutV xs (some (n : Int)) none = xs.drop n := by
  unfold cutV
  rw [HT.sIx_nat, HT.sIx_none]
  by_cases h : n ≤ xs.length
  · rw [Nat.min_eq_left h]
    exact List.take_of_length_le (by rw [List.length_drop]; exact Nat.le_refl _)
  · rw [Nat.min_eq_right (by omega), List.drop_eq_nil_of_le (Nat.le_refl _), List.drop_eq_nil_of_le (by omega)]
    simp
def sp_taken (T : Txt K mg) : Sp := fun vs H Q _ => ∃ (b : Addr) (x : LX) (M : Ms), vs = [.ref b, .ref x.a, .ref x.m] ∧ Bag K M H b ∧ LXok T M H x ∧ x.as.Nodup ∧ b ∉ x.as ∧ Mk M H ∧
  ∀ H' x', Sx (footL b x) H H' → Gr H H' → Bag K M H' b → LXok T M H' x' → x'.a = x.a → x'.l = x.l → x'.m = x.m → Q (.bl true) H'
theorem ok_taken (T : Txt K mg) : FnOk P w K mg base CX0 7 T.f__law_taken T.d__law_taken ["_law_bag_here", "_law_line", "_law_model"] (sp_taken T) := by
  have G__law_pick := ok_pick (P := P) (w := w) (base := base) T
  have G_Line_take := ok_take (P := P) (w := w) (base := base) T
  have G__law_refused := ok_refused (P := P) (w := w) (base := base) T
  have G__law_same_entry := ok_same (P := P) (w := w) (base := base) T
  refine T.F__law_taken.ok sc__law_taken (fun vs H Q E h => ?_) (fun cdv A outer s H vs Q E hr h => ?_)
  · obtain ⟨_, _, _, rfl, _⟩ := h
    rfl
  · obtain ⟨b, ⟨a, l, m, f, room, ed, tk, xs, rs, es, st⟩, M, rfl, hB, hX, hnd, hbn, hM, q⟩ := h
    obtain ⟨⟨dx, ha, hl⟩, ⟨r, nr, hm, hr'⟩, hP, hF, ⟨b1, b2, b3, b4, b5, b6⟩, ma, ml, mm⟩ := id hX
    dsimp only at ha hl nr hm hr' hP hF b1 b2 b3 b4 b5 b6 ma ml mm
    simp only [LX.as, List.nodup_cons, List.mem_cons, List.not_mem_nil, or_false, not_or, List.nodup_nil, and_true, not_false_eq_true] at hnd hbn
    obtain ⟨⟨a_l, a_m⟩, l_m⟩ := hnd
    obtain ⟨b_a, b_l, b_m⟩ := hbn
    have mb := hB.w
    obtain ⟨lx, lr, _⟩ := id hP
    refine ⟨_, (pss_cons (ps_set (i := 3) sc__law_taken.nd rfl (Or.inl rfl) (pe_op op_sub (pe_call G__law_pick (hr.mono (by omega)) (by rfl) T.g__law_pick T.F__law_pick.kp T.b__law_pick .nil pass0 (pa_cons (pv 0) (pa_cons (pe_op op_add (pe_callB (call_lenK (K := K) rfl) (by rfl) T.m_len PySem.boot_len (pa_cons (pe_ix (ix_listK (K := K) rfl) (pv 2) pe_int (fun _ _ => rfl)) pa_nil)) pe_int) pa_nil))) pe_int))
      (pss_cons (ps_if (pt_cmpR op_eq (pe_call G__law_pick (hr.mono (by omega)) (by rfl) T.g__law_pick T.F__law_pick.kp T.b__law_pick .nil pass0 (pa_cons (pv 0) (pa_cons pe_int pa_nil))) pe_int (nomark _)) (pss_one (ps_set (i := 3) sc__law_taken.nd rfl (Or.inl rfl) (pe_op op_add (pe_callB (call_lenK (K := K) rfl) (by rfl) T.m_len PySem.boot_len (pa_cons (pe_ix (ix_listK (K := K) rfl) (pv 2) pe_int (fun _ _ => rfl)) pa_nil)) (pe_call G__law_pick (hr.mono (by omega)) (by rfl) T.g__law_pick T.F__law_pick.kp T.b__law_pick .nil pass0 (pa_cons (pv 0) (pa_cons (pe_op op_pow pe_int pe_int) pa_nil)))))) pss_nil)
      (pss_cons (ps_if (PW.pt (pw_or (pt_cmpR op_lt (pv 3) pe_int (nomark _)) (pw_or1 (pt_cmpR op_ge (pv 3) (pe_callB (call_lenK (K := K) rfl) (by rfl) T.m_len PySem.boot_len (pa_cons (pe_ix (ix_listK (K := K) rfl) (pv 2) pe_int (fun _ _ => rfl)) pa_nil)) (nomark _))))) (pss_one (ps_ret (pe_call G__law_refused (hr.mono (by omega)) (by rfl) T.g__law_refused T.F__law_refused.kp T.b__law_refused .nil pass0 (pa_cons (pv 1) (pa_cons (pv 3) pa_nil))))) pss_nil)
      (pss_cons (ps_set (i := 4) sc__law_taken.nd rfl (Or.inl rfl) (pe_ix (ix_listK (K := K) rfl) (pe_ix (ix_listK (K := K) rfl) (pv 2) pe_int (fun _ _ => rfl)) (pv 3) (fun _ _ => rfl)))
      (pss_cons (ps_asg (pe_op op_cat (pe_slice (sl_listK (K := K) rfl) (pe_ix (ix_listK (K := K) rfl) (pv 2) pe_int (fun _ _ => rfl)) po_none (po_some (pv 3))) (pe_slice (sl_listK (K := K) rfl) (pe_ix (ix_listK (K := K) rfl) (pv 2) pe_int (fun _ _ => rfl)) (po_some (pe_op op_add (pv 3) pe_int)) po_none)) (pg_sub (pv 2) pe_int set_list))
      (pss_one (ps_ret (pe_call G__law_same_entry (hr.mono (by omega)) (by rfl) T.g__law_same_entry T.F__law_same_entry.kp T.b__law_same_entry .nil pass0 (pa_cons (pe_meth (pv 1) T.cl_Line ⟨T.a_Line_take, T.i_Line_take, T.F_Line_take.kp⟩ G_Line_take (hr.mono (by omega)) T.b_Line_take .nil pass0 (pa_cons (pv 3) pa_nil)) (pa_cons (pv 4) pa_nil)))))))))), ?_⟩
    walk_at "g"
    refine ⟨b, _, M, rfl, hB, by omega, by omega, fun w1 H1 c0 c1 hA1 hB1 => ?_⟩
    refine ⟨_, _, rfl, rfl, ?_⟩
    dsimp only [gName]
    with_reducible refine seq_join (fun σ3 H' => ∃ n : Int, σ3 = [some (.ref b), some (.ref a), some (.ref m), some (.int n), none] ∧ At b H H' ∧ Bag K M H' b) (fun hN => ?_) (fun σ H2 c => ?_)
    · walk_at "g"
      refine ⟨b, 9, M, rfl, hB1, by omega, by omega, fun w2 H2 d0 d1 hA2 hB2 => ?_⟩
      walk_at "g"
      walk_at "if"
      · walk_at "g"
        have A2 := hA1.trans hA2
        have hm2 := (A2 m (Ne.symm b_m)).trans hm
        have hr2 := (A2 r (fun z => nr (by rw [z]; exact mb))).trans hr'
        walk_at "g"
        refine ⟨b, _, M, rfl, hB2, by decide, by decide, fun w3 H3 e0 e1 hA3 hB3 => ?_⟩
        refine ⟨_, _, rfl, rfl, ?_⟩
        exact hN _ _ ⟨_, rfl, A2.trans hA3, hB3⟩
      · exact hN _ _ ⟨_, rfl, hA1.trans hA2, hB2⟩
    · obtain ⟨n, rfl, hA2, hB2⟩ := c
      have nbr : r ≠ b := fun z => nr (by rw [z]; exact mb)
      have hm2 := (hA2 m (Ne.symm b_m)).trans hm
      have hr2 := (hA2 r nbr).trans hr'
      have ha2 := (hA2 a (Ne.symm b_a)).trans ha
      have hl2 := (hA2 l (Ne.symm b_l)).trans hl
      have sb : Sx (one b) H H2 := hA2.sx
      have gb : Gr H H2 := At.gr hA2 hB2.there
      have hX2 := hX.frame sb (one_le mb) (fun c hc z => by simp [LX.as] at hc; rcases hc with rfl | rfl | rfl <;> simp [one] at z <;> simp_all)
      have fb : ∀ c, one b c → footL b ⟨a, l, m, f, room, ed, tk, xs, rs, es, st⟩ c := fun c z => .inl z
      have ref : ∀ {H'}, Same H2 H' → Q (.bl true) H' := fun {H'} s' => q H' ⟨a, l, m, f, room, ed, tk, xs, rs, es, st⟩ ((sb.le fb).trans (Sx.same s')) (gb.trans (Gr.same s')) (hB2.same s') (hX2.frame (F := fun _ => False) (Sx.same s') (fun _ z => z.elim) (fun _ _ z => z)) rfl rfl rfl
      walk_at "g"
      walk_at "if"
      · rename_i c
        have c' := of_decide_eq_true c
        walk_at "g"
        refine ⟨a, l, .ref f, room, ed, tk, n, xs, rfl, ⟨dx, ha2, hl2⟩, by omega, fun H' s' => ?_⟩
        walk_at "g"
        exact ref s'
      · rename_i c
        have c' : ¬ n < 0 := fun z => c (decide_eq_true z)
        walk_at "g"
        walk_at "if"
        · rename_i d
          have d' := of_decide_eq_true d
          walk_at "g"
          refine ⟨a, l, .ref f, room, ed, tk, n, xs, rfl, ⟨dx, ha2, hl2⟩, by omega, fun H' s' => ?_⟩
          walk_at "g"
          exact ref s'
        · rename_i d
          have d' : ¬ ((rs.length : Int) ≤ n) := fun z => d (decide_eq_true z)
          obtain ⟨j, rfl⟩ : ∃ j : Nat, n = (j : Int) := ⟨n.toNat, by omega⟩
          have hj : j < es.length := by omega
          have hP2 := hX2.2.2.1
          obtain ⟨x, y, hx, hy, hE, hR, hO⟩ := hP2.2.2 j _ (List.getElem?_eq_getElem hj)
          dsimp only at hx hy
          walk_at "g"
          refine ⟨_, _, _, _, rfl, rfl, SqL.of hr2, atI_nat hy, ?_⟩
          walk_at "g"
          refine ⟨r, _, rfl, SqL.of hr2, fun p1 hp1 => ?_⟩
          rw [cut_hi]
          have s1 : Same H2 (upd H2 p1 (.lst (rs.take j))) := same_new hp1
          have e1 : upd H2 p1 (.lst (rs.take j)) p1 = some (.lst (rs.take j)) := upd_same
          generalize upd H2 p1 (.lst (rs.take j)) = G1 at s1 e1
          have hm3 := s1 _ _ hm2
          have hr3 := s1 _ _ hr2
          walk_at "g"
          refine ⟨r, _, rfl, SqL.of hr3, fun p2 hp2 => ?_⟩
          rw [show ((j : Int) + 1) = ((j + 1 : Nat) : Int) by omega, cut_lo]
          have s2 : Same G1 (upd G1 p2 (.lst (rs.drop (j + 1)))) := same_new hp2
          have e2 : upd G1 p2 (.lst (rs.drop (j + 1))) p2 = some (.lst (rs.drop (j + 1))) := upd_same
          generalize upd G1 p2 (.lst (rs.drop (j + 1))) = G2 at s2 e2
          refine ⟨p1, p2, _, _, rfl, rfl, s2 _ _ e1, e2, by rw [sizeLine_eq, List.length_take, List.length_drop]; omega, fun p3 hp3 => ?_⟩
          rw [← List.eraseIdx_eq_take_drop_succ]
          have s3 : Same G2 (upd G2 p3 (.lst (rs.eraseIdx j))) := same_new hp3
          have e3 : upd G2 p3 (.lst (rs.eraseIdx j)) p3 = some (.lst (rs.eraseIdx j)) := upd_same
          generalize upd G2 p3 (.lst (rs.eraseIdx j)) = G3 at s3 e3
          have s123 := s1.trans (s2.trans s3)
          have hm4 := s123 _ _ hm2
          have hM4 : Mk M G3 := hM.gr (gb.trans (Gr.same s123))
          have np3 : ¬ M p3 := fun z => by
            have := (hM.gr (gb.trans (Gr.same (s1.trans s2)))).out hp3
            exact this z
          walk_at "g"
          walk_at "set"
          obtain ⟨G4, eG4⟩ : ∃ G4, G4 = upd G3 m (.lst [.ref p3, .int tk, .int ed, .ref f, .int room]) := ⟨_, rfl⟩
          have s4 : Sx (one m) G3 G4 := by rw [eG4]; exact Sx.put rfl
          have g4 : Gr G3 G4 := by rw [eG4]; exact Gr.upd
          have hmG : G4 m = some (.lst [.ref p3, .int tk, .int ed, .ref f, .int room]) := by rw [eG4]; exact upd_same
          show (fun G : Hp => _) (upd G3 m (.lst [.ref p3, .int tk, .int ed, .ref f, .int room]))
          rw [← eG4]
          have nm : ∀ {c : Addr}, ¬ M c → ¬ one m c := fun n z => n (by rw [show _ = m from z]; exact mm)
          have ha4 := s4 _ _ (show ¬ one m a from a_m) (s123 _ _ ha2)
          have hl4 := s4 _ _ (show ¬ one m l from l_m) (s123 _ _ hl2)
          have u4 := s4 _ _ (nm np3) e3
          have sM : Sx M H2 G4 := (Sx.same s123).trans (s4.le (one_le mm))
          walk_at "g"
          refine ⟨a, dx, _, rfl, ha4, rfl, ?_⟩
          walk_at "g"
          refine ⟨a, l, .ref f, x, room, ed, tk, j, xs, rfl, ⟨dx, ha4, hl4⟩, hx, by omega, ?_⟩
          have s5 : Sx (one l) G4 (upd G4 l (.lst (xs.eraseIdx j))) := Sx.put rfl
          have e5 : upd G4 l (.lst (xs.eraseIdx j)) l = some (.lst (xs.eraseIdx j)) := upd_same
          have g5 : Gr G4 (upd G4 l (.lst (xs.eraseIdx j))) := Gr.upd
          generalize upd G4 l (.lst (xs.eraseIdx j)) = G5 at s5 e5 g5
          have nl : ∀ {c : Addr}, ¬ M c → ¬ one l c := fun n z => n (by rw [show _ = l from z]; exact ml)
          have sM5 : Sx M H2 G5 := sM.trans (s5.le (one_le ml))
          have gM5 : Gr H2 G5 := (Gr.same s123).trans (g4.trans g5)
          walk_at "g"
          refine ⟨x, y, es[j].1, es[j].2, M, rfl, hE.sx sM5, hR.sx sM5, hO.sx sM5, hM.gr (gb.trans gM5), fun H' s' => ?_⟩
          have sF : Sx M H2 H' := sM5.trans (Sx.same s')
          have s4' : Sx (footL b ⟨a, l, m, f, room, ed, tk, xs, rs, es, st⟩) G3 G4 := s4.le fun c z => .inr (by rw [show c = m from z]; simp [LX.as])
          have s5' : Sx (footL b ⟨a, l, m, f, room, ed, tk, xs, rs, es, st⟩) G4 G5 := s5.le fun c z => .inr (by rw [show c = l from z]; simp [LX.as])
          refine q H' ⟨a, l, m, f, room, ed, tk, xs.eraseIdx j, rs.eraseIdx j, es.eraseIdx j, st⟩ ((sb.le fb).trans ((Sx.same s123).trans (s4'.trans (s5'.trans (Sx.same s'))))) (gb.trans (gM5.trans (Gr.same s'))) ((((hB2.same s123).keep s4 b_m (one_le mm)).keep s5 b_l (one_le ml)).same s') ⟨⟨dx, s' _ _ (s5 _ _ a_l ha4), s' _ _ e5⟩, ⟨p3, np3, s' _ _ (s5 _ _ (Ne.symm l_m) hmG), s' _ _ (s5 _ _ (nl np3) u4)⟩, (hP2.erase j).sx sF, Rp.sx sF hX2.2.2.2.1, ⟨b1, b2, b3, ?_, b5, b6⟩, ma, ml, mm⟩ rfl rfl rfl
          show ((es.eraseIdx j).length : Int) ≤ room
          rw [List.length_eraseIdx, if_pos hj]
          omega
def sp_newmodel (K : PySem.W.Frag) : Sp := fun vs H Q _ => ∃ (b : Addr) (M : Ms), vs = [.ref b] ∧ Bag K M H b ∧ Mk M H ∧
  ∀ H' m r f st room, H m = none → H r = none → m ≠ r → Sx (one b) H H' → Gr H H' → Bag K (also M m) H' b → Mk (also M m) H' → Rp (also M m) H' (.ref f) (ownD st) → H' r = some (.lst []) → H' m = some (.lst [.ref r, .int 0, .int 0, .ref f, .int room]) → 1 ≤ st.length → st.length ≤ 3 → (∀ r ∈ st, r.length = 4) → 1 ≤ room → room ≤ 3 → Q (.ref m) H'
theorem ok_newmodel (T : Txt K mg) : FnOk P w K mg base CX0 4 T.f__law_new_model T.d__law_new_model ["_law_bag_here"] (sp_newmodel K) := by
  have G__law_pick := ok_pick (P := P) (w := w) (base := base) T
  have G__law_store := ok_store (P := P) (w := w) (base := base) T
  refine T.F__law_new_model.ok sc__law_new_model (fun vs H Q E h => ?_) (fun cdv A outer s H vs Q E hr h => ?_)
  · obtain ⟨_, _, rfl, _⟩ := h
    rfl
  · obtain ⟨b, M, rfl, hB, hM, q⟩ := h
    refine ⟨_, (pss_one (ps_ret (pe_lst (pa_cons (pe_lst pa_nil) (pa_cons pe_int (pa_cons pe_int (pa_cons (pe_call G__law_store (hr.mono (by omega)) (by rfl) T.g__law_store T.F__law_store.kp T.b__law_store .nil pass0 (pa_cons (pv 0) pa_nil)) (pa_cons (pe_op op_add pe_int (pe_call G__law_pick (hr.mono (by omega)) (by rfl) T.g__law_pick T.F__law_pick.kp T.b__law_pick .nil pass0 (pa_cons (pv 0) (pa_cons pe_int pa_nil)))) pa_nil)))))))), ?_⟩
    walk_at "g"
    refine ⟨szK rfl, fun r hr => ?_⟩
    have rb : r ≠ b := fun z => hB.there (by rw [← z]; exact hr)
    have s1 : Same H (upd H r (.lst [])) := same_new hr
    have e1 : upd H r (.lst []) r = some (.lst []) := upd_same
    generalize upd H r (.lst []) = H1 at s1 e1
    walk_at "g"
    refine ⟨b, M, rfl, hB.same s1, hM.gr (Gr.same s1), fun v H2 d s2 g2 hB2 rv hd => ?_⟩
    obtain ⟨st, rfl, l1, l3, l4⟩ := hd
    obtain ⟨f, fs, rfl, nf, hf, rf⟩ := Rp.tupX rv
    walk_at "g"
    refine ⟨b, 3, M, rfl, hB2, by omega, by omega, fun n H3 c0 c1 hA3 hB3 => ?_⟩
    walk_at "g"
    refine ⟨szK rfl, fun m hm => ?_⟩
    have e3 : H3 r = some (.lst []) := hA3.sx _ _ rb (s2 _ _ rb e1)
    have gr : Gr H H3 := (Gr.same s1).trans (g2.trans (At.gr hA3 hB3.there))
    have mr : m ≠ r := fun z => by rw [z, e3] at hm; cases hm
    refine q _ m r f st (1 + n) (none_gr gr hm) hr mr ((Sx.same s1).trans (s2.trans (hA3.sx.trans (Sx.new hm)))) (gr.trans Gr.upd) ((hB3.more hm).same (same_new hm)) (((hM.gr gr).gr Gr.upd).also upd_there) (((rv.sx (hA3.sx.le (one_le hB.w))).fresh hm).sx (Sx.new hm)) ?_ upd_same l1 l3 l4 (by omega) (by omega)
    rw [upd_ne (Ne.symm mr)]
    exact e3
end
end D

namespace D
open PySem PySem.Spec PyProof.Rows L2
local macro_rules | `(tactic| walk_at "st") => `(tactic| first | exact SqT.of (by assumption) | exact Or.inl (by assumption) | exact SqT.of upd_same | fail "st")
local macro_rules | `(tactic| walk_at "ixt") => `(tactic| refine ⟨_, _, _, _, rfl, rfl, (by walk_at "st" : SqT _ _ _ _), by rfl, ?_⟩)
local macro_rules | `(tactic| walk_at "sq") => `(tactic| first | exact SqL.of (by assumption) | assumption | exact Or.inl (by assumption) | exact SqL.of upd_same | fail "sq")
local macro_rules | `(tactic| walk_at "ix") => `(tactic| refine ⟨_, _, _, _, rfl, rfl, (by walk_at "sq" : SqL _ _ _ _), by rfl, ?_⟩)
local macro_rules | `(tactic| walk_at "set") => `(tactic| refine ⟨_, _, _, _, rfl, rfl, by first | assumption | exact upd_same, by rfl, ?_⟩)
local macro_rules | `(tactic| walk_at "len") => `(tactic| refine ⟨_, _, rfl, Or.inl (by walk_at "sq" : SqL _ _ _ _), ?_⟩)
local macro_rules | `(tactic| walk_at "g") => `(tactic| repeat (first | refine ⟨_, rfl, ?_⟩ | refine ⟨_, _, rfl, rfl, ?_⟩ | refine ⟨Or.inr (by decide), ?_⟩ | refine ⟨Or.inl (by decide), ?_⟩ | refine ⟨(by decide : (0 : Int) < _), ?_⟩ | refine ⟨(⟨by decide, by decide⟩ : CDiv _ _), ?_⟩ | refine ⟨(⟨by decide, by decide, by decide⟩ : CPow _ _), ?_⟩ | refine Or.inl ⟨_, rfl, ?_⟩ | refine ⟨rfl, ?_⟩ | walk_at "ix" | walk_at "ixt" | walk_at "len" | fail "g"))
local macro_rules | `(tactic| walk_at "if") => `(tactic| refine ite2 (fun e => ?_) (fun e => ?_))
section
variable {P : Program} {w : World} {K : PySem.W.Frag} {mg : Str → Option Value} {base : Heap}
def sp_deed (T : Txt K mg) : Sp := fun vs H Q _ => ∃ (b ou wu : Addr) (x : LX) (os : List V) (ws : List Str) (M : Ms), vs = [.ref b, .ref x.a, .ref x.m, .ref ou, .ref wu] ∧ Bag K M H b ∧ LXok T M H x ∧ x.as.Nodup ∧ b ∉ x.as ∧ Mk M H ∧
  ¬ M ou ∧ H ou = some (.lst os) ∧ OwnsAt M H os ∧ 1 ≤ os.length ∧ os.length ≤ 1000 ∧ ¬ M wu ∧ H wu = some (.lst (ws.map V.str)) ∧ 1 ≤ ws.length ∧ ws.length ≤ 1000 ∧
  ∀ H' x', Sx (footL b x) H H' → Gr H H' → Bag K M H' b → LXok T M H' x' → x'.a = x.a → x'.l = x.l → x'.m = x.m → Q (.bl true) H'
theorem OwnsAt.mk {M : Ms} {H H' : Hp} {os : List V} (h : OwnsAt M H os) (s : Sx M H H') : OwnsAt M H' os := h.sx s
theorem ok_deed (T : Txt K mg) : FnOk P w K mg base CX0 8 T.f__law_deed T.d__law_deed ["_law_bag_here", "_law_line", "_law_model", "_law_owners", "_law_words"] (sp_deed T) := by
  have G__law_pick := ok_pick (P := P) (w := w) (base := base) T
  have G__law_sent := ok_sent (P := P) (w := w) (base := base) T
  have G__law_taken := ok_taken (P := P) (w := w) (base := base) T
  have G__law_turned := ok_turned (P := P) (w := w) (base := base) T
  have G_Line_entries := ok_entries (P := P) (w := w) (base := base) T
  refine T.F__law_deed.ok sc__law_deed (fun vs H Q E h => ?_) (fun cdv A outer s H vs Q E hr h => ?_)
  · obtain ⟨_, _, _, _, _, _, _, rfl, _⟩ := h
    rfl
  · obtain ⟨b, ou, wu, x, os, ws, M, rfl, hB, hX, hnd, hbn, hM, nou, hou, hO, o1, o2, nwu, hwu, w1, w2, q⟩ := h
    refine ⟨_, (pss_cons (ps_set (i := 5) sc__law_deed.nd rfl (Or.inl rfl) (pe_call G__law_pick (hr.mono (by omega)) (by rfl) T.g__law_pick T.F__law_pick.kp T.b__law_pick .nil pass0 (pa_cons (pv 0) (pa_cons pe_int pa_nil))))
      (pss_cons (ps_if (pt_cmpR op_lt (pv 5) pe_int (nomark _)) (pss_one (ps_ret (pe_call G__law_sent (hr.mono (by omega)) (by rfl) T.g__law_sent T.F__law_sent.kp T.b__law_sent .nil pass0 (pa_cons (pv 0) (pa_cons (pv 1) (pa_cons (pv 2) (pa_cons (pv 3) (pa_cons (pv 4) pa_nil)))))))) pss_nil)
      (pss_cons (ps_if (pt_cmpR op_lt (pv 5) pe_int (nomark _)) (pss_one (ps_ret (pe_call G__law_taken (hr.mono (by omega)) (by rfl) T.g__law_taken T.F__law_taken.kp T.b__law_taken .nil pass0 (pa_cons (pv 0) (pa_cons (pv 1) (pa_cons (pv 2) pa_nil)))))) pss_nil)
      (pss_cons (ps_if (pt_cmpR op_lt (pv 5) pe_int (nomark _)) (pss_one (ps_ret (pe_call G__law_turned (hr.mono (by omega)) (by rfl) T.g__law_turned T.F__law_turned.kp T.b__law_turned .nil pass0 (pa_cons (pv 1) (pa_cons (pv 2) pa_nil))))) pss_nil)
      (pss_cons (ps_set (i := 6) sc__law_deed.nd rfl (Or.inl rfl) (pe_meth0 (pv 1) T.cl_Line ⟨T.a_Line_entries, T.i_Line_entries, T.F_Line_entries.kp⟩ G_Line_entries (hr.mono (by omega)) T.b_Line_entries .nil pass0))
      (pss_cons (ps_if (pt_not (pt_val (pe_callB (call_isi1K (K := K) rfl) (by rfl) T.m_isinstance (by decide +kernel) (pa_cons (pv 6) (pa_cons (pe_bltn (v := .ty "list") (u := .type "list") (by rfl) T.m_list (by decide +kernel) rfl) pa_nil))))) (pss_one (ps_ret pe_bl)) pss_nil)
      (pss_cons (ps_expr (pe_bm0K2 (K := K) rfl PySem.F.plainAttrs_list PySem.F.slot_list_clear PySem.F.type_list_clear mt_clear (pv 6)))
      (pss_one (ps_ret pe_bl))))))))), ?_⟩
    walk_at "g"
    refine ⟨b, 8, M, rfl, hB, by omega, by omega, fun n H1 c0 c1 hA1 hB1 => ?_⟩
    have mb := hB.w
    have sb : Sx (one b) H H1 := hA1.sx
    have sM : Sx M H H1 := sb.le (one_le mb)
    have gb : Gr H H1 := At.gr hA1 hB1.there
    have hX1 := hX.frame sb (one_le mb) (fun c hc z => hbn (by rw [← show c = b from z]; exact hc))
    have fb : ∀ c, one b c → footL b x c := fun c z => .inl z
    have q1 : ∀ H' x', Sx (footL b x) H1 H' → Gr H1 H' → Bag K M H' b → LXok T M H' x' → x'.a = x.a → x'.l = x.l → x'.m = x.m → Q (.bl true) H' := fun H' x' s g => q H' x' ((sb.le fb).trans s) (gb.trans g)
    walk_at "g"
    walk_at "if"
    · walk_at "g"
      refine ⟨b, ou, wu, x, os, ws, M, rfl, hB1, hX1, hnd, hbn, hM.gr gb, nou, sM _ _ nou hou, hO.sx sM, o1, o2, nwu, sM _ _ nwu hwu, w1, w2, ?_⟩
      intro H' x' a1 a2 a3 a4 a5 a6 a7
      walk_at "g"
      exact q1 H' x' a1 a2 a3 a4 a5 a6 a7
    walk_at "g"
    walk_at "if"
    · walk_at "g"
      refine ⟨b, x, M, rfl, hB1, hX1, hnd, hbn, hM.gr gb, ?_⟩
      intro H' x' a1 a2 a3 a4 a5 a6 a7
      walk_at "g"
      exact q1 H' x' a1 a2 a3 a4 a5 a6 a7
    walk_at "g"
    walk_at "if"
    · walk_at "g"
      refine ⟨x, M, rfl, hX1, hnd, hM.gr gb, ?_⟩
      intro H' x' a1 a2 a4 a5 a6 a7
      walk_at "g"
      refine q1 H' x' (a1.le fun c z => .inr z) a2 (hB1.keep a1 hbn fun c z => ?_) a4 a5 a6 a7
      simp only [LX.as, List.mem_cons, List.not_mem_nil, or_false] at z
      rcases z with rfl | rfl | rfl
      · exact hX.2.2.2.2.2.1
      · exact hX.2.2.2.2.2.2.1
      · exact hX.2.2.2.2.2.2.2
    obtain ⟨dx, ha, hl⟩ := hX1.1
    walk_at "g"
    refine ⟨x.a, dx, _, rfl, ha, rfl, ?_⟩
    walk_at "g"
    refine ⟨x.a, x.l, .ref x.f, x.room, x.ed, x.tk, x.xs, rfl, ⟨dx, ha, hl⟩, fun p hp => ?_⟩
    have s1 : Same H1 (upd H1 p (.lst x.xs)) := same_new hp
    have e1 : upd H1 p (.lst x.xs) p = some (.lst x.xs) := upd_same
    generalize upd H1 p (.lst x.xs) = H2 at s1 e1
    walk_at "g"
    refine ⟨_, _, _, _, true, rfl, .ty _, .base (.lst e1), kit_ty (by decide +kernel), ?_⟩
    walk_at "g"
    refine ⟨.inl ⟨rfl, _, SqL.of e1⟩, ?_⟩
    walk_at "g"
    refine ⟨p, _, rfl, rfl, e1, ?_⟩
    walk_at "g"
    have s2 : Same H1 (upd H2 p (.lst [])) := same_put s1 hp
    exact q1 _ x (Sx.same s2) (Gr.same s2) (hB1.same s2) (hX1.frame (F := fun _ => False) (Sx.same s2) (fun _ z => z.elim) (fun _ _ z => z)) rfl rfl rfl
end
end D

namespace D
open PySem PySem.Spec PyProof.Rows L2
local macro_rules | `(tactic| walk_at "st") => `(tactic| first | exact SqT.of (by assumption) | exact Or.inl (by assumption) | exact SqT.of upd_same | fail "st")
local macro_rules | `(tactic| walk_at "ixt") => `(tactic| refine ⟨_, _, _, _, rfl, rfl, (by walk_at "st" : SqT _ _ _ _), by rfl, ?_⟩)
local macro_rules | `(tactic| walk_at "sq") => `(tactic| first | exact SqL.of (by assumption) | assumption | exact Or.inl (by assumption) | exact SqL.of upd_same | fail "sq")
local macro_rules | `(tactic| walk_at "ix") => `(tactic| refine ⟨_, _, _, _, rfl, rfl, (by walk_at "sq" : SqL _ _ _ _), by rfl, ?_⟩)
local macro_rules | `(tactic| walk_at "set") => `(tactic| refine ⟨_, _, _, _, rfl, rfl, by first | assumption | exact upd_same, by rfl, ?_⟩)
local macro_rules | `(tactic| walk_at "len") => `(tactic| refine ⟨_, _, rfl, Or.inl (by walk_at "sq" : SqL _ _ _ _), ?_⟩)
local macro_rules | `(tactic| walk_at "g") => `(tactic| repeat (first | refine ⟨_, rfl, ?_⟩ | refine ⟨_, _, rfl, rfl, ?_⟩ | refine ⟨Or.inr (by decide), ?_⟩ | refine ⟨Or.inl (by decide), ?_⟩ | refine ⟨(by decide : (0 : Int) < _), ?_⟩ | refine ⟨(⟨by decide, by decide⟩ : CDiv _ _), ?_⟩ | refine ⟨(⟨by decide, by decide, by decide⟩ : CPow _ _), ?_⟩ | refine Or.inl ⟨_, rfl, ?_⟩ | refine ⟨rfl, ?_⟩ | walk_at "ix" | walk_at "ixt" | walk_at "len" | fail "g"))
local macro_rules | `(tactic| walk_at "if") => `(tactic| refine ite2 (fun e => ?_) (fun e => ?_))
section
variable {P : Program} {w : World} {K : PySem.W.Frag} {mg : Str → Option Value} {base : Heap}
section
variable {T : Txt K mg} {M F e : Ms} {H H' : Hp} {p : Addr} {s s' : LX} {ps : List LX} {i : Nat} {l : List Addr}
def alsoL (M : Ms) : List Addr → Ms
  | [] => M
  | p :: r => alsoL (also M p) r
theorem alsoL_iff : ∀ {l : List Addr} {M : Ms} {c : Addr}, alsoL M l c ↔ M c ∨ c ∈ l
  | [], _, _ => by simp [alsoL]
  | p :: r, M, c => by
    show alsoL (also M p) r c ↔ _
    rw [alsoL_iff (l := r)]
    simp only [also, List.mem_cons]
    constructor
    · rintro ((z | z) | z)
      · exact .inl z
      · exact .inr (.inl z)
      · exact .inr (.inr z)
    · rintro (z | z | z)
      · exact .inl (.inl z)
      · exact .inl (.inr z)
      · exact .inr z
theorem LXok.freshL : ∀ {l : List Addr} {M : Ms}, LXok T M H s → (∀ p ∈ l, H p = none) → LXok T (alsoL M l) H s
  | [], _, h, _ => h
  | p :: r, _, h, z => LXok.freshL (l := r) (h.fresh (z p List.mem_cons_self)) fun q hq => z q (List.mem_cons_of_mem _ hq)
theorem Rp.freshL {v : V} {d : PyData} : ∀ {l : List Addr} {M : Ms}, Rp M H v d → (∀ p ∈ l, H p = none) → Rp (alsoL M l) H v d
  | [], _, h, _ => h
  | p :: r, _, h, z => Rp.freshL (l := r) (h.fresh (z p List.mem_cons_self)) fun q hq => z q (List.mem_cons_of_mem _ hq)
theorem OwnsAt.freshL {os : List V} (h : OwnsAt M H os) (z : ∀ p ∈ l, H p = none) : OwnsAt (alsoL M l) H os := fun x hx => by
  obtain ⟨st, r, k⟩ := h x hx
  exact ⟨st, Rp.freshL r z, k⟩
theorem OwnsAt.less {N : Ms} {os : List V} (h : OwnsAt M H os) (f : ∀ a, N a → M a) : OwnsAt N H os := fun x hx => by
  obtain ⟨st, r, k⟩ := h x hx
  exact ⟨st, r.less f, k⟩
theorem Bag.moreL {b : Addr} : ∀ {l : List Addr} {M : Ms}, Bag K M H b → (∀ p ∈ l, H p = none) → Bag K (alsoL M l) H b
  | [], _, h, _ => h
  | p :: r, _, h, z => Bag.moreL (l := r) (h.more (z p List.mem_cons_self)) fun q hq => z q (List.mem_cons_of_mem _ hq)
theorem LXok.mem (h : LXok T M H s) : ∀ c ∈ s.as, M c := fun c hc => by
  simp only [LX.as, List.mem_cons, List.not_mem_nil, or_false] at hc
  rcases hc with rfl | rfl | rfl
  · exact h.2.2.2.2.2.1
  · exact h.2.2.2.2.2.2.1
  · exact h.2.2.2.2.2.2.2
structure WL (T : Txt K mg) (M : Ms) (H : Hp) (e : Ms) (ps : List LX) : Prop where
  ok : ∀ (j : Nat) (s : LX), ps[j]? = some s → LXok T M H s ∧ s.as.Nodup ∧ ∀ c ∈ s.as, ¬ e c
  apart : ∀ (j k : Nat) (s t : LX), ps[j]? = some s → ps[k]? = some t → j ≠ k → ∀ c ∈ s.as, c ∉ t.as
  le : ∀ c, e c → M c
theorem WL.same (h : WL T M H e ps) (sm : Same H H') : WL T M H' e ps := ⟨fun j s hj => ⟨(h.ok j s hj).1.frame (F := fun _ => False) (Sx.same sm) (fun _ z => z.elim) (fun _ _ z => z), (h.ok j s hj).2⟩, h.apart, h.le⟩
theorem WL.frame (h : WL T M H e ps) (sx : Sx F H H') (hF : ∀ c, F c → e c) : WL T M H' e ps := ⟨fun j s hj => ⟨(h.ok j s hj).1.frame sx (fun c z => h.le c (hF c z)) (fun c hc z => (h.ok j s hj).2.2 c hc (hF c z)), (h.ok j s hj).2⟩, h.apart, h.le⟩
theorem WL.freshL (h : WL T M H e ps) (hl : ∀ p ∈ l, H p = none) : WL T (alsoL M l) H e ps := ⟨fun j s hj => ⟨(h.ok j s hj).1.freshL hl, (h.ok j s hj).2⟩, h.apart, fun c z => alsoL_iff.mpr (.inl (h.le c z))⟩
/-- one line is changed -/
theorem WL.upd (h : WL T M H e ps) (hi : ps[i]? = some s) (sx : Sx F H H') (hF : ∀ c, F c → e c ∨ c ∈ s.as) (ok' : LXok T M H' s') (as' : s'.as = s.as) : WL T M H' e (ps.set i s') := by
  have li : i < ps.length := (List.getElem?_eq_some_iff.mp hi).1
  have old := h.ok i s hi
  have at' : ∀ {j : Nat} {t : LX}, (ps.set i s')[j]? = some t → (j = i ∧ t = s') ∨ (j ≠ i ∧ ps[j]? = some t) := fun {j t} hj => by
    by_cases c : j = i
    · subst c
      rw [List.getElem?_set_self li] at hj
      cases hj
      exact .inl ⟨rfl, rfl⟩
    · rw [List.getElem?_set_ne (Ne.symm c)] at hj
      exact .inr ⟨c, hj⟩
  refine ⟨fun j t hj => ?_, fun j k t u hj hk hne c hc z => ?_, h.le⟩
  · rcases at' hj with ⟨rfl, rfl⟩ | ⟨c, hj⟩
    · exact ⟨ok', by rw [as']; exact old.2.1, fun d hd => old.2.2 d (by rw [← as']; exact hd)⟩
    · have o := h.ok j t hj
      refine ⟨o.1.frame sx (fun c z => (hF c z).elim (h.le c) (old.1.mem c)) (fun d hd z => ?_), o.2⟩
      rcases hF d z with y | y
      · exact o.2.2 d hd y
      · exact h.apart j i t s hj hi c d hd y
  · rcases at' hj with ⟨e1, rfl⟩ | ⟨c1, hj1⟩ <;> rcases at' hk with ⟨e2, rfl⟩ | ⟨c2, hk1⟩
    · omega
    · exact h.apart i k s u hi hk1 (by omega) c (by rw [← as']; exact hc) z
    · exact h.apart j i t s hj1 hi (by omega) c hc (by rw [← as']; exact z)
    · exact h.apart j k t u hj1 hk1 hne c hc z
/-- one more line -/
theorem WL.add (h : WL T M H e ps) (ok' : LXok T M H s') (ne' : ∀ c ∈ s'.as, ¬ e c) (new : ∀ (j : Nat) (t : LX), ps[j]? = some t → ∀ c ∈ t.as, c ∉ s'.as) (nd' : s'.as.Nodup) : WL T M H e (ps ++ [s']) := by
  have at' : ∀ {j : Nat} {t : LX}, (ps ++ [s'])[j]? = some t → ps[j]? = some t ∧ j < ps.length ∨ t = s' ∧ j = ps.length := fun {j t} hj => by
    by_cases c : j < ps.length
    · rw [List.getElem?_append_left c] at hj
      exact .inl ⟨hj, c⟩
    · rw [List.getElem?_append_right (by omega)] at hj
      cases k : j - ps.length with
      | zero => rw [k] at hj; cases hj; exact .inr ⟨rfl, by omega⟩
      | succ n => rw [k] at hj; simp at hj
  refine ⟨fun j t hj => ?_, fun j k t u hj hk hne c hc z => ?_, h.le⟩
  · rcases at' hj with ⟨hj, _⟩ | ⟨rfl, _⟩
    · exact h.ok j t hj
    · exact ⟨ok', nd', ne'⟩
  · rcases at' hj with ⟨hj1, l1⟩ | ⟨e1, l1⟩ <;> rcases at' hk with ⟨hk1, l2⟩ | ⟨e2, l2⟩
    · exact h.apart j k t u hj1 hk1 hne c hc z
    · subst e2
      exact new j t hj1 c hc z
    · subst e1
      exact new k u hk1 c z hc
    · omega
end
end
end D

namespace D
open PySem PySem.Spec PyProof.Rows L2
local macro_rules | `(tactic| walk_at "st") => `(tactic| first | exact SqT.of (by assumption) | exact Or.inl (by assumption) | exact SqT.of upd_same | fail "st")
local macro_rules | `(tactic| walk_at "ixt") => `(tactic| refine ⟨_, _, _, _, rfl, rfl, (by walk_at "st" : SqT _ _ _ _), by rfl, ?_⟩)
local macro_rules | `(tactic| walk_at "sq") => `(tactic| first | exact SqL.of (by assumption) | assumption | exact Or.inl (by assumption) | exact SqL.of upd_same | fail "sq")
local macro_rules | `(tactic| walk_at "ix") => `(tactic| refine ⟨_, _, _, _, rfl, rfl, (by walk_at "sq" : SqL _ _ _ _), by rfl, ?_⟩)
local macro_rules | `(tactic| walk_at "set") => `(tactic| refine ⟨_, _, _, _, rfl, rfl, by first | assumption | exact upd_same, by rfl, ?_⟩)
local macro_rules | `(tactic| walk_at "len") => `(tactic| refine ⟨_, _, rfl, Or.inl (by walk_at "sq" : SqL _ _ _ _), ?_⟩)
local macro_rules | `(tactic| walk_at "g") => `(tactic| repeat (first | refine ⟨_, rfl, ?_⟩ | refine ⟨_, _, rfl, rfl, ?_⟩ | refine ⟨Or.inr (by decide), ?_⟩ | refine ⟨Or.inl (by decide), ?_⟩ | refine ⟨(by decide : (0 : Int) < _), ?_⟩ | refine ⟨(⟨by decide, by decide⟩ : CDiv _ _), ?_⟩ | refine ⟨(⟨by decide, by decide, by decide⟩ : CPow _ _), ?_⟩ | refine Or.inl ⟨_, rfl, ?_⟩ | refine ⟨rfl, ?_⟩ | walk_at "ix" | walk_at "ixt" | walk_at "len" | fail "g"))
local macro_rules | `(tactic| walk_at "if") => `(tactic| refine ite2 (fun e => ?_) (fun e => ?_))
section
variable {P : Program} {w : World} {K : PySem.W.Frag} {mg : Str → Option Value} {base : Heap}
theorem set_at {α : Type} {l : List α} {i : Nat} {x : α} (h : l[i]? = some x) : l.set i x = l := by
  apply List.ext_getElem?
  intro k
  grind
def sp_law (K : PySem.W.Frag) : Sp := fun vs H Q _ => ∃ (a : Addr) (ns : List Int), vs = [.ref a] ∧ SqL K H a (ns.map V.int) ∧ ns.length ≤ 63 ∧ ∀ H', Q (.bl true) H'
theorem ok_law (T : Txt K mg) : FnOk P w K mg base CX0 9 T.f_law T.d_law ["_law_script"] (sp_law K) := by
  have G__law_bag := ok_bag (P := P) (w := w) (base := base) T
  have G__law_pick := ok_pick (P := P) (w := w) (base := base) T
  have G__law_new_name := ok_newname (P := P) (w := w) (base := base) T
  have G__law_owner := ok_owner (P := P) (w := w) (base := base) T
  have G__law_new_model := ok_newmodel (P := P) (w := w) (base := base) T
  have G_Line___init__ := ok_linit (P := P) (w := w) (base := base) T
  have G_Line_take := ok_take (P := P) (w := w) (base := base) T
  have G_Line_copy := ok_copy (P := P) (w := w) (base := base) T
  have G_Line_entries := ok_entries (P := P) (w := w) (base := base) T
  have G__law_deed := ok_deed (P := P) (w := w) (base := base) T
  have G__law_same_line := ok_sameline (P := P) (w := w) (base := base) T
  have G__law_same_entry := ok_same (P := P) (w := w) (base := base) T
  have G__law_refused := ok_refused (P := P) (w := w) (base := base) T
  refine T.F_law.ok sc_law (fun vs H Q E h => ?_) (fun cdv A outer s H vs Q E hr h => ?_)
  · obtain ⟨_, _, rfl, _⟩ := h
    rfl
  · obtain ⟨a, ns, rfl, hS, hl, q⟩ := h
    refine ⟨_, (pss_cons (ps_set (i := 1) sc_law.nd rfl (Or.inl rfl) (pe_call G__law_bag (hr.mono (by omega)) (by rfl) T.g__law_bag T.F__law_bag.kp T.b__law_bag .nil pass0 (pa_cons (pv 0) pa_nil)))
      (pss_cons (ps_set (i := 2) sc_law.nd rfl (Or.inl rfl) (pe_lst pa_nil))
      (pss_cons (ps_set (i := 3) sc_law.nd rfl (Or.inl rfl) (pe_lst (pa_cons (pe_tup pa_nil) pa_nil)))
      (pss_cons (ps_for PassesOwn.never rfl (pi_range1 (by rfl) T.m_range (pa_cons (pe_op op_add pe_int (pe_call G__law_pick (hr.mono (by omega)) (by rfl) T.g__law_pick T.F__law_pick.kp T.b__law_pick .nil pass0 (pa_cons (pv 1) (pa_cons pe_int pa_nil)))) pa_nil)) (pg_name (i := 4) sc_law.nd rfl (Or.inl rfl)) (pss_cons (ps_expr (pe_call G__law_new_name (hr.mono (by omega)) (by rfl) T.g__law_new_name T.F__law_new_name.kp T.b__law_new_name .nil pass0 (pa_cons (pv 1) (pa_cons (pv 2) pa_nil))))
      (pss_one (ps_expr (pe_bmK2 (K := K) rfl PySem.F.plainAttrs_list PySem.F.slot_list_append PySem.F.type_list_append mt_append (pv 3) (pa_cons (pe_call G__law_owner (hr.mono (by omega)) (by rfl) T.g__law_owner T.F__law_owner.kp T.b__law_owner .nil pass0 (pa_cons (pv 1) (pa_cons (pv 3) pa_nil))) pa_nil))))))
      (pss_cons (ps_set (i := 5) sc_law.nd rfl (Or.inl rfl) (pe_lst (pa_cons (pe_call G__law_new_model (hr.mono (by omega)) (by rfl) T.g__law_new_model T.F__law_new_model.kp T.b__law_new_model .nil pass0 (pa_cons (pv 1) pa_nil)) (pa_cons (pe_call G__law_new_model (hr.mono (by omega)) (by rfl) T.g__law_new_model T.F__law_new_model.kp T.b__law_new_model .nil pass0 (pa_cons (pv 1) pa_nil)) pa_nil))))
      (pss_cons (ps_setLc (i := 7) (own := [("_law_model", 6)]) (g := gName 6) (tt := tYes) (by rfl) sc_law.nd rfl rfl (sw_true rfl rfl rfl (by decide +kernel)) (pi_listK (K := K) rfl (pv 5)) (blkOk_by (own := [("_law_model", 6)]) (N := ["_law_script", "_law_bag_here", "_law_words", "_law_owners", "_law_step_here", "_law_models", "_law_model", "_law_lines", "_law_turn", "_law_at", "_law_line", "_law_row"]) (sc := defScope s_law) (by decide +kernel)) (fun _ _ _ _ _ => (pg_name (i := 6) sc_law.nd rfl (Or.inl rfl))) (fun _ _ _ _ _ => pts_nil) (fun _ _ _ _ _ => (pe_make ⟨T.mk_Line, T.a_Line___init__, T.i_Line___init__, T.kc_Line⟩ G_Line___init__ (hr.mono (by omega)) (by rfl) T.g_Line T.b_Line___init__ .nil pass0 (pa_cons (pe_ix (ix_listK (K := K) rfl) (pv 6) pe_int (fun _ _ => rfl)) (pa_cons (pe_ix (ix_listK (K := K) rfl) (pv 6) pe_int (fun _ _ => rfl)) pa_nil)))))
      (pss_cons (ps_for PassesOwn.never rfl (pi_range1 (by rfl) T.m_range (pa_cons (pe_op op_add pe_int (pe_call G__law_pick (hr.mono (by omega)) (by rfl) T.g__law_pick T.F__law_pick.kp T.b__law_pick .nil pass0 (pa_cons (pv 1) (pa_cons pe_int pa_nil)))) pa_nil)) (pg_name (i := 8) sc_law.nd rfl (Or.inl rfl)) (pss_cons (ps_set (i := 9) sc_law.nd rfl (Or.inl rfl) (pe_call G__law_pick (hr.mono (by omega)) (by rfl) T.g__law_pick T.F__law_pick.kp T.b__law_pick .nil pass0 (pa_cons (pv 1) (pa_cons (pe_callB (call_lenK (K := K) rfl) (by rfl) T.m_len PySem.boot_len (pa_cons (pv 7) pa_nil)) pa_nil))))
      (pss_cons (ps_if (PW.pt (pw_or (pt_not (pt_val (pe_call G__law_deed (hr.mono (by omega)) (by rfl) T.g__law_deed T.F__law_deed.kp T.b__law_deed .nil pass0 (pa_cons (pv 1) (pa_cons (pe_ix (ix_listK (K := K) rfl) (pv 7) (pv 9) (fun _ _ => rfl)) (pa_cons (pe_ix (ix_listK (K := K) rfl) (pv 5) (pv 9) (fun _ _ => rfl)) (pa_cons (pv 3) (pa_cons (pv 2) pa_nil)))))))) (pw_or1 (pt_not (pt_val (pe_call G__law_same_line (hr.mono (by omega)) (by rfl) T.g__law_same_line T.F__law_same_line.kp T.b__law_same_line .nil pass0 (pa_cons (pe_ix (ix_listK (K := K) rfl) (pv 7) (pv 9) (fun _ _ => rfl)) (pa_cons (pe_ix (ix_listK (K := K) rfl) (pv 5) (pv 9) (fun _ _ => rfl)) pa_nil)))))))) (pss_one (ps_ret pe_bl)) pss_nil)
      (pss_one (ps_if (PW.pt (pw_and (pt_cmpR op_lt (pe_callB (call_lenK (K := K) rfl) (by rfl) T.m_len PySem.boot_len (pa_cons (pv 7) pa_nil)) pe_int (nomark _)) (pw_and1 (pt_cmpR op_eq (pe_call G__law_pick (hr.mono (by omega)) (by rfl) T.g__law_pick T.F__law_pick.kp T.b__law_pick .nil pass0 (pa_cons (pv 1) (pa_cons pe_int pa_nil))) pe_int (nomark _))))) (pss_cons (ps_expr (pe_bmK2 (K := K) rfl PySem.F.plainAttrs_list PySem.F.slot_list_append PySem.F.type_list_append mt_append (pv 7) (pa_cons (pe_meth0 (pe_ix (ix_listK (K := K) rfl) (pv 7) (pv 9) (fun _ _ => rfl)) T.cl_Line ⟨T.a_Line_copy, T.i_Line_copy, T.F_Line_copy.kp⟩ G_Line_copy (hr.mono (by omega)) T.b_Line_copy .nil pass0) pa_nil)))
      (pss_one (ps_expr (pe_bmK2 (K := K) rfl PySem.F.plainAttrs_list PySem.F.slot_list_append PySem.F.type_list_append mt_append (pv 5) (pa_cons (pe_callTy (call_listK (K := K) rfl) (by rfl) T.m_list (by decide +kernel) (pa_cons (pe_ix (ix_listK (K := K) rfl) (pv 5) (pv 9) (fun _ _ => rfl)) pa_nil)) pa_nil))))) pss_nil)))))
      (pss_cons (ps_for PassesOwn.never rfl (pi_zipK (K := K) rfl (by rfl) T.m_zip (pa_cons (pv 7) (pa_cons (pv 5) pa_nil))) (pg_tupK (K := K) rfl rfl (pgs_cons (pg_name (i := 10) sc_law.nd rfl (Or.inl rfl)) (pgs_cons (pg_name (i := 6) sc_law.nd rfl (Or.inl rfl)) pgs_nil))) (pss_cons (ps_if (PW.pt (pw_or (pt_not (pt_val (pe_call G__law_same_line (hr.mono (by omega)) (by rfl) T.g__law_same_line T.F__law_same_line.kp T.b__law_same_line .nil pass0 (pa_cons (pv 10) (pa_cons (pv 6) pa_nil))))) (pw_or1 (pt_not (pt_val (pe_call G__law_refused (hr.mono (by omega)) (by rfl) T.g__law_refused T.F__law_refused.kp T.b__law_refused .nil pass0 (pa_cons (pv 10) (pa_cons (pe_callB (call_lenK (K := K) rfl) (by rfl) T.m_len PySem.boot_len (pa_cons (pe_ix (ix_listK (K := K) rfl) (pv 6) pe_int (fun _ _ => rfl)) pa_nil)) pa_nil)))))))) (pss_one (ps_ret pe_bl)) pss_nil)
      (pss_cons (ps_for PassesOwn.never rfl (pi_listK (K := K) rfl (pe_ix (ix_listK (K := K) rfl) (pv 6) pe_int (fun _ _ => rfl))) (pg_name (i := 11) sc_law.nd rfl (Or.inl rfl)) (pss_one (ps_if (pt_not (pt_val (pe_call G__law_same_entry (hr.mono (by omega)) (by rfl) T.g__law_same_entry T.F__law_same_entry.kp T.b__law_same_entry .nil pass0 (pa_cons (pe_meth (pv 10) T.cl_Line ⟨T.a_Line_take, T.i_Line_take, T.F_Line_take.kp⟩ G_Line_take (hr.mono (by omega)) T.b_Line_take .nil pass0 (pa_cons pe_int pa_nil)) (pa_cons (pv 11) pa_nil))))) (pss_one (ps_ret pe_bl)) pss_nil)))
      (pss_one (ps_if (PW.pt (pw_or (pt_not (pt_val (pe_call G__law_refused (hr.mono (by omega)) (by rfl) T.g__law_refused T.F__law_refused.kp T.b__law_refused .nil pass0 (pa_cons (pv 10) (pa_cons pe_int pa_nil))))) (pw_or1 (pt_cmpR (op_neDK (K := K) rfl hr.units) (pe_meth0 (pv 10) T.cl_Line ⟨T.a_Line_entries, T.i_Line_entries, T.F_Line_entries.kp⟩ G_Line_entries (hr.mono (by omega)) T.b_Line_entries .nil pass0) (pe_lst pa_nil) (nomark _))))) (pss_one (ps_ret pe_bl)) pss_nil)))))
      (pss_one (ps_ret pe_bl)))))))))), ?_⟩
    walk_at "g"
    refine ⟨a, ns, rfl, hS, hl, fun b H1 s1 nb hB1 => ?_⟩
    walk_at "g"
    refine ⟨szK rfl, fun wu hwu => ?_⟩
    have wub : wu ≠ b := fun z => hB1.there (by rw [← z]; exact hwu)
    have ew1 : upd H1 wu (.lst []) wu = some (.lst []) := upd_same
    have hB2 : Bag K (also (one b) wu) (upd H1 wu (.lst [])) b := (hB1.more hwu).same (same_new hwu)
    have hM2 : Mk (also (one b) wu) (upd H1 wu (.lst [])) := fun c z => by
      rcases z with z | z
      · rw [show c = b from z]; exact hB2.there
      · rw [show c = wu from z]; exact upd_there
    generalize upd H1 wu (.lst []) = H2 at ew1 hB2 hM2
    walk_at "g"
    refine ⟨szK rfl, fun p0 hp0 => ?_⟩
    have ep0 : upd H2 p0 (.tup []) p0 = some (.tup []) := upd_same
    have sp0 : Same H2 (upd H2 p0 (.tup [])) := same_new hp0
    have np0 : ¬ also (one b) wu p0 := hM2.out hp0
    generalize upd H2 p0 (.tup []) = H3 at ep0 sp0
    walk_at "g"
    refine ⟨szK rfl, fun ou hou => ?_⟩
    have oub : ou ≠ b := fun z => hB2.there (sp0.free (by rw [← z]; exact hou))
    have ouw : ou ≠ wu := fun z => by rw [z, sp0 _ _ ew1] at hou; cases hou
    have oup : ou ≠ p0 := fun z => by rw [z, ep0] at hou; cases hou
    have eo4 : upd H3 ou (.lst [.ref p0]) ou = some (.lst [.ref p0]) := upd_same
    have so4 : Same H3 (upd H3 ou (.lst [.ref p0])) := same_new hou
    have hB4 : Bag K (also (also (one b) wu) ou) (upd H3 ou (.lst [.ref p0])) b := ((hB2.same sp0).more hou).same (same_new hou)
    generalize upd H3 ou (.lst [.ref p0]) = H4 at eo4 so4 hB4
    have hM4 : Mk (also (also (one b) wu) ou) H4 := (hM2.gr (Gr.same (sp0.trans so4))).also (ne_none eo4)
    have ew4 := so4 _ _ (sp0 _ _ ew1)
    have hO4 : OwnsAt (also (also (one b) wu) ou) H4 [.ref p0] := fun x hx => by
      rw [List.mem_singleton.mp hx]
      exact ⟨[], Rp.tup (fun z => z.elim np0 fun z => oup z.symm) (.inl (so4 _ _ ep0)) .nil, Nat.zero_le _⟩
    clear hS hl hB1 hB2 hM2 nb s1
    walk_at "g"
    refine ⟨b, 3, _, rfl, hB4, by omega, by omega, fun n5 H5 c0 c1 hA5 hB5 => ?_⟩
    have hM5 := hM4.gr (At.gr hA5 hB5.there)
    have hO5 := hO4.sx (hA5.sx.le (one_le hB4.w))
    have ew5 := (hA5 wu wub).trans ew4
    have eo5 := (hA5 ou oub).trans eo4
    walk_at "g"
    refine ⟨by omega, by omega, ?_⟩
    refine for_range (lo := 0) (n := (1 + n5).toNat) (fun i σ H' => (∃ y4 y5 y6 y7 y8 y9 y10 y11, σ = [some (.ref a), some (.ref b), some (.ref wu), some (.ref ou), y4, y5, y6, y7, y8, y9, y10, y11]) ∧ ∃ (ws : List Str) (os : List V), H' wu = some (.lst (ws.map V.str)) ∧ ws.length = i ∧ (∀ w ∈ ws, okN w) ∧ H' ou = some (.lst os) ∧ os.length = i + 1 ∧ OwnsAt (also (also (one b) wu) ou) H' os ∧ Bag K (also (also (one b) wu) ou) H' b ∧ Mk (also (also (one b) wu) ou) H') ⟨⟨_, _, _, _, _, _, _, _, rfl⟩, [], [.ref p0], ew5, rfl, fun w hw => (nomatch hw), eo5, rfl, hO5, hB5, hM5⟩ (fun i σ H' hi p => ?_) (fun σ H6 p => ?_)
    · obtain ⟨⟨y4, y5, y6, y7, y8, y9, y10, y11, rfl⟩, ws, os, ew, lw, okw, eo, lo, hO, hB, hM⟩ := p
      walk_at "g"
      refine ⟨b, wu, ws, _, rfl, hB, hM, .inl (.inr rfl), wub, ew, by omega, okw, fun H6 z s6 g6 hB6 ew6 okz nz => ?_⟩
      have s6M : Sx (also (also (one b) wu) ou) H' H6 := s6.le fun c z => .inl z
      have eo6 := s6 _ _ (fun z => z.elim oub ouw) eo
      have hO6 := hO.sx s6M
      have hM6 := hM.gr g6
      walk_at "g"
      refine ⟨.inl ⟨rfl, _, SqL.of eo6⟩, ?_⟩
      walk_at "g"
      refine ⟨b, ou, os, _, rfl, hB6, hM6, oub, eo6, by omega, hO6, fun v H7 d s7 g7 hB7 r7 hd => ?_⟩
      obtain ⟨st, rfl, l5⟩ := hd
      have s7M : Sx (also (also (one b) wu) ou) H6 H7 := s7.le (one_le hB6.w)
      have ew7 := s7 _ _ wub ew6
      have eo7 := s7 _ _ oub eo6
      have hO7 := hO6.sx s7M
      walk_at "g"
      refine ⟨ou, os, _, rfl, rfl, eo7, small1000000 (by omega), ?_⟩
      have s8 : Sx (one ou) H7 (upd H7 ou (.lst (os ++ [v]))) := Sx.put rfl
      have g8 : Gr H7 (upd H7 ou (.lst (os ++ [v]))) := Gr.upd
      have eo8 : upd H7 ou (.lst (os ++ [v])) ou = some (.lst (os ++ [v])) := upd_same
      generalize upd H7 ou (.lst (os ++ [v])) = H8 at s8 g8 eo8
      have s8M : Sx (also (also (one b) wu) ou) H7 H8 := s8.le (one_le (.inr rfl))
      walk_at "g"
      refine ⟨⟨_, _, _, _, _, _, _, _, rfl⟩, ws ++ [z], os ++ [v], s8 _ _ (Ne.symm ouw) ew7, by rw [List.length_append, lw]; rfl, fun y hy => ?_, eo8, by rw [List.length_append, lo]; rfl, fun y hy => ?_, hB7.keep s8 (Ne.symm oub) (one_le (.inr rfl)), (hM6.gr g7).gr g8⟩
      · rcases List.mem_append.mp hy with z | z
        · exact okw y z
        · rw [List.mem_singleton.mp z]; exact okz
      · rcases List.mem_append.mp hy with z | z
        · exact hO7.sx s8M y z
        · rw [List.mem_singleton.mp z]; exact ⟨st, r7.sx s8M, l5⟩
    · obtain ⟨⟨y4, y5, y6, y7, y8, y9, y10, y11, rfl⟩, ws, os, ew, lw, okw, eo, lo, hO, hB, hM⟩ := p
      have hO := hO.less (N := one b) fun c z => .inl (.inl z)
      have hB := hB.less (N := one b) rfl fun c z => .inl (.inl z)
      have hM : Mk (one b) H6 := fun c z => hM c (.inl (.inl z))
      clear hB4 hB5 hM4 hM5 hO4 hO5 ew4 ew5 eo4 eo5
      have l3 : ws.length ≤ 3 := by omega
      walk_at "g"
      refine ⟨b, _, rfl, hB, hM, fun H7 m1 r1 f1 st1 k1 fm1 fr1 mr1 s7 g7 hB7 hM7 rf1 er1 em1 st1a st1b st1c k1a k1b => ?_⟩
      walk_at "g"
      refine ⟨b, _, rfl, hB7, hM7, fun H8 m2 r2 f2 st2 k2 fm2 fr2 mr2 s8 g8 hB8 hM8 rf2 er2 em2 st2a st2b st2c k2a k2b => ?_⟩
      walk_at "g"
      refine ⟨szK rfl, fun mo hmo => ?_⟩
      have emo : upd H8 mo (.lst [.ref m1, .ref m2]) mo = some (.lst [.ref m1, .ref m2]) := upd_same
      have smo : Same H8 (upd H8 mo (.lst [.ref m1, .ref m2])) := same_new hmo
      generalize upd H8 mo (.lst [.ref m1, .ref m2]) = H9 at emo smo
      walk_at "g"
      refine ⟨⟨_, SqL.of emo⟩, fun D hD => ?_⟩
      have m1b : m1 ≠ b := fun z => hB.there (by rw [← z]; exact fm1)
      have r1b : r1 ≠ b := fun z => hB.there (by rw [← z]; exact fr1)
      have m2b : m2 ≠ b := fun z => hB7.there (by rw [← z]; exact fm2)
      have r2b : r2 ≠ b := fun z => hB7.there (by rw [← z]; exact fr2)
      have em18 := s8 _ _ (show ¬ one b m1 from m1b) em1
      have er18 := s8 _ _ (show ¬ one b r1 from r1b) er1
      have em19 := smo _ _ em18
      have er19 := smo _ _ er18
      have em29 := smo _ _ em2
      have er29 := smo _ _ er2
      obtain ⟨f1', fs1, z1, nf1, hf1, -⟩ := Rp.tupX rf1
      obtain rfl : f1 = f1' := by injection z1
      obtain ⟨f2', fs2, z2, nf2, hf2, -⟩ := Rp.tupX rf2
      obtain rfl : f2 = f2' := by injection z2
      have f1b : f1 ≠ b := fun z => nf1 (.inl z)
      have hf19 := smo _ _ (s8 _ _ (show ¬ one b f1 from f1b) hf1)
      have hf29 := smo _ _ hf2
      obtain ⟨ys, eys⟩ : ∃ ys : List LX, ys = [⟨0, 0, m1, f1, k1, 0, 0, [], [], [], st1⟩, ⟨0, 0, m2, f2, k2, 0, 0, [], [], [], st2⟩] := ⟨_, rfl⟩
      have hys : ∀ (i : Nat) (y : LX), ys[i]? = some y → ∃ r fs, H9 y.m = some (.lst [.ref r, .int 0, .int 0, .ref y.f, .int y.room]) ∧ H9 y.f = some (.tup fs) := fun i y hy => by
        rw [eys] at hy
        match i, hy with
        | 0, hy => cases hy; exact ⟨_, _, em19, hf19⟩
        | 1, hy => cases hy; exact ⟨_, _, em29, hf29⟩
      have eml : [V.ref m1, .ref m2] = ys.map fun y => V.ref y.m := by rw [eys]; rfl
      have lys : ys.length = 2 := by rw [eys]; rfl
      rw [eml] at emo
      refine list_loop (xs := ys.map fun y => V.ref y.m) (fun i H' => Same H9 H' ∧ ∃ qs : List (Addr × Addr), H' D = some (.lst (qs.map fun p => V.ref p.1)) ∧ qs.length = i ∧ (∀ (j : Nat) (p : Addr × Addr), qs[j]? = some p → ∃ y, ys[j]? = some y ∧ LnAt T.C_Line H' p.1 p.2 (.ref y.f) y.room 0 0 []) ∧ (D :: (qs.map fun p => [p.1, p.2]).flatten).Nodup ∧ ∀ c ∈ (qs.map fun p => [p.1, p.2]).flatten, H9 c = none ∧ H' c ≠ none) ⟨same_new hD, [], upd_same, rfl, fun j p h => by simp at h, by simp, fun c hc => by simp at hc⟩ (fun i H' _ p => SqL.of (p.1 _ _ emo)) (fun i x H' hx p => ?_) (fun H10 p => ?_)
      · obtain ⟨sm, qs, eD, lq, hq, nd, hfr⟩ := p
        refine ⟨rfl, ?_⟩
        rw [List.getElem?_map] at hx
        obtain ⟨y, hy, rfl⟩ := Option.map_eq_some_iff.mp hx
        obtain ⟨r, fs, em, ef⟩ := hys i y hy
        have em' := sm _ _ em
        have ef' := sm _ _ ef
        walk_at "g"
        intro xe de hxe hde hne
        have hx2 : upd H' de (.own xe) xe = none := by rw [upd_ne (fun z => hne z.symm)]; exact hxe
        have t1 : Same H' (upd (upd H' de (.own xe)) xe (.ins T.C_Line de [])) := (same_new hde).trans (same_new hx2)
        have e1 : upd (upd H' de (.own xe)) xe (.ins T.C_Line de []) xe = some (.ins T.C_Line de []) := upd_same
        generalize upd (upd H' de (.own xe)) xe (.ins T.C_Line de []) = G1 at t1 e1
        refine ⟨xe, de, y.f, fs, y.room, rfl, e1, .inl (t1 _ _ ef'), fun l hl => ?_⟩
        have lx : l ≠ xe := fun z => by rw [z, e1] at hl; cases hl
        have hl' := t1.free hl
        have t2 : Same H' (upd (upd G1 l (.lst [])) xe (.ins T.C_Line de (lnFs (.ref y.f) (.ref l) y.room 0 0))) := same_put (t1.trans (same_new hl)) hxe
        have e2 : upd (upd G1 l (.lst [])) xe (.ins T.C_Line de (lnFs (.ref y.f) (.ref l) y.room 0 0)) xe = some (.ins T.C_Line de (lnFs (.ref y.f) (.ref l) y.room 0 0)) := upd_same
        have e3 : upd (upd G1 l (.lst [])) xe (.ins T.C_Line de (lnFs (.ref y.f) (.ref l) y.room 0 0)) l = some (.lst []) := by rw [upd_ne lx]; exact upd_same
        refine ⟨rfl, ?_⟩
        generalize upd (upd G1 l (.lst [])) xe (.ins T.C_Line de (lnFs (.ref y.f) (.ref l) y.room 0 0)) = G2 at t2 e2 e3
        have xD : xe ≠ D := fun z => by rw [z, eD] at hxe; cases hxe
        have lD : l ≠ D := fun z => by rw [z, eD] at hl'; cases hl'
        have li : i < 2 := by rw [← lys]; exact (List.getElem?_eq_some_iff.mp hy).1
        refine ⟨_, t2 _ _ eD, by rw [List.length_map]; exact small1000 (by omega), same_put (sm.trans t2) hD, qs ++ [(xe, l)], by rw [upd_same, List.map_append]; rfl, by rw [List.length_append, lq]; rfl, fun j p hp => ?_, ?_, fun c hc => ?_⟩
        · have sD : Sx (one D) G2 (upd G2 D (.lst ((qs.map fun p => V.ref p.1) ++ [.ref xe]))) := Sx.put rfl
          by_cases c : j < qs.length
          · rw [List.getElem?_append_left c] at hp
            obtain ⟨y', hy', hL⟩ := hq j p hp
            have hm : p ∈ qs := List.mem_of_getElem? hp
            have h1 : p.1 ∈ (qs.map fun p => [p.1, p.2]).flatten := List.mem_flatten.mpr ⟨_, List.mem_map_of_mem hm, by simp⟩
            have h2 : p.2 ∈ (qs.map fun p => [p.1, p.2]).flatten := List.mem_flatten.mpr ⟨_, List.mem_map_of_mem hm, by simp⟩
            have nd' := (List.nodup_cons.mp nd).1
            exact ⟨y', hy', (hL.frame (F := fun _ => False) (Sx.same t2) (fun z => z) (fun z => z)).frame sD (fun z => nd' (by rw [← show p.1 = D from z]; exact h1)) (fun z => nd' (by rw [← show p.2 = D from z]; exact h2))⟩
          · rw [List.getElem?_append_right (by omega)] at hp
            cases k : j - qs.length with
            | zero =>
              rw [k] at hp
              cases hp
              obtain rfl : j = i := by omega
              exact ⟨y, hy, LnAt.frame ⟨de, e2, e3⟩ sD xD lD⟩
            | succ n => rw [k] at hp; simp at hp
        · have n1 : ∀ c ∈ (qs.map fun p => [p.1, p.2]).flatten, c ≠ xe ∧ c ≠ l := fun c hc => ⟨fun z => (hfr c hc).2 (by rw [z]; exact hxe), fun z => (hfr c hc).2 (by rw [z]; exact hl')⟩
          rw [List.map_append, List.flatten_append]
          simp only [List.map_cons, List.map_nil, List.flatten_cons, List.flatten_nil, List.append_nil, List.nodup_cons, List.nodup_append, List.mem_append, List.mem_cons, List.not_mem_nil, or_false, List.nodup_nil, not_false_eq_true, and_true] at nd ⊢
          refine ⟨?_, nd.2, Ne.symm lx, fun c hc d hd => ?_⟩
          · rintro (z | z | z)
            · exact nd.1 z
            · exact xD z.symm
            · exact lD z.symm
          · rcases hd with rfl | rfl
            · exact (n1 c hc).1
            · exact (n1 c hc).2
        · rw [List.map_append, List.flatten_append] at hc
          rcases List.mem_append.mp hc with z | z
          · exact ⟨(hfr c z).1, Gr.upd _ (Gr.same t2 _ (hfr c z).2)⟩
          · simp at z
            rcases z with rfl | rfl
            · exact ⟨sm.free hxe, Gr.upd _ (ne_none e2)⟩
            · exact ⟨sm.free hl', Gr.upd _ (ne_none e3)⟩
      · obtain ⟨sm, qs, eD, lq, hq, nd, hfr⟩ := p
        rw [List.length_map, lys] at lq
        obtain ⟨⟨a1, l1⟩, ⟨a2, l2⟩, rfl⟩ : ∃ p1 p2, qs = [p1, p2] := by
          match qs, lq with
          | [p1, p2], _ => exact ⟨p1, p2, rfl⟩
        obtain ⟨y1, hy1, hL1⟩ := hq 0 _ rfl
        obtain ⟨y2, hy2, hL2⟩ := hq 1 _ rfl
        rw [eys] at hy1 hy2
        cases hy1
        cases hy2
        simp only [List.map_cons, List.map_nil, List.flatten_cons, List.flatten_nil, List.append_nil, List.cons_append, List.nil_append, List.nodup_cons, List.mem_cons, List.not_mem_nil, or_false, not_or, not_false_eq_true, and_true, List.nodup_nil] at nd
        obtain ⟨⟨Da1, Dl1, Da2, Dl2⟩, ⟨al1, aa, al12⟩, ⟨l1a2, ll⟩, al2⟩ := nd
        have frq : ∀ c ∈ [a1, l1, a2, l2], H9 c = none := fun c hc => (hfr c (by simpa using hc)).1
        have na1 := frq a1 (by simp)
        have nl1 := frq l1 (by simp)
        have na2 := frq a2 (by simp)
        have nl2 := frq l2 (by simp)
        have ne9 : ∀ {c d : Addr} {o : HO}, H9 c = none → H9 d = some o → c ≠ d := fun n e z => by rw [z, e] at n; cases n
        have ebx := hB.there
        have eb9 : H9 b ≠ none := Gr.same smo _ (hB8.there)
        have ne9' : ∀ {c : Addr}, H9 c = none → c ≠ b := fun n z => eb9 (by rw [← z]; exact n)
        have ew9 := smo _ _ (s8 _ _ (show ¬ one b wu from wub) (s7 _ _ (show ¬ one b wu from wub) ew))
        have eo9 := smo _ _ (s8 _ _ (show ¬ one b ou from oub) (s7 _ _ (show ¬ one b ou from oub) eo))
        have m12 : m1 ≠ m2 := fun z => by rw [← z, em1] at fm2; cases fm2
        have mom1 : mo ≠ m1 := fun z => by rw [z, em18] at hmo; cases hmo
        have mom2 : mo ≠ m2 := fun z => by rw [z, em2] at hmo; cases hmo
        have mob : mo ≠ b := fun z => hB8.there (by rw [← z]; exact hmo)
        -- what may be written
        have gr78 : Gr H6 H8 := g7.trans g8
        have no6 : ∀ {c : Addr}, H9 c = none → H6 c = none := fun n => none_gr (gr78.trans (Gr.same smo)) n
        have frO : ∀ p ∈ [m1, m2, mo, D, a1, l1, a2, l2], H6 p = none := fun p hp => by
          simp only [List.mem_cons, List.not_mem_nil, or_false] at hp
          rcases hp with rfl | rfl | rfl | rfl | rfl | rfl | rfl | rfl
          · exact fm1
          · exact none_gr g7 fm2
          · exact none_gr gr78 hmo
          · exact no6 hD
          · exact no6 na1
          · exact no6 nl1
          · exact no6 na2
          · exact no6 nl2
        have fr7 : ∀ p ∈ [m2, mo, D, a1, l1, a2, l2], H7 p = none := fun p hp => by
          have no7 : ∀ {c : Addr}, H9 c = none → H7 c = none := fun n => none_gr (g8.trans (Gr.same smo)) n
          simp only [List.mem_cons, List.not_mem_nil, or_false] at hp
          rcases hp with rfl | rfl | rfl | rfl | rfl | rfl | rfl
          · exact fm2
          · exact none_gr g8 hmo
          · exact no7 hD
          · exact no7 na1
          · exact no7 nl1
          · exact no7 na2
          · exact no7 nl2
        have fr8 : ∀ p ∈ [mo, D, a1, l1, a2, l2], H8 p = none := fun p hp => by
          have no8 : ∀ {c : Addr}, H9 c = none → H8 c = none := fun n => none_gr (Gr.same smo) n
          simp only [List.mem_cons, List.not_mem_nil, or_false] at hp
          rcases hp with rfl | rfl | rfl | rfl | rfl | rfl
          · exact hmo
          · exact no8 hD
          · exact no8 na1
          · exact no8 nl1
          · exact no8 na2
          · exact no8 nl2
        obtain ⟨N, eN⟩ : ∃ N : Ms, N = alsoL (one b) [m1, m2, mo, D, a1, l1, a2, l2] := ⟨_, rfl⟩
        have Nb : N b := by rw [eN]; exact alsoL_iff.mpr (.inl rfl)
        have Nin : ∀ c ∈ [m1, m2, mo, D, a1, l1, a2, l2], N c := fun c hc => by rw [eN]; exact alsoL_iff.mpr (.inr hc)
        have s9 : Sx (one b) H6 H10 := s7.trans (s8.trans (Sx.same (smo.trans sm)))
        have g9 : Gr H6 H10 := gr78.trans (Gr.same (smo.trans sm))
        have hB10 : Bag K N H10 b := by
          have h := Bag.moreL (l := [mo, D, a1, l1, a2, l2]) hB8 fr8
          have h2 := (h.same smo).same sm
          refine h2.less Nb fun c z => ?_
          rw [eN] at z
          have := alsoL_iff.mp z
          refine alsoL_iff.mpr ?_
          simp only [List.mem_cons, List.not_mem_nil, or_false, also] at this ⊢
          grind
        have hO10 : OwnsAt N H10 os := by
          have h := hO.freshL (l := [m1, m2, mo, D, a1, l1, a2, l2]) frO
          rw [← eN] at h
          exact h.sx (s9.le (one_le Nb))
        have hM10 : Mk N H10 := fun c z => by
          rw [eN] at z
          rcases alsoL_iff.mp z with z | z
          · rw [show c = b from z]; exact hB10.there
          · have so := (smo.trans sm)
            simp only [List.mem_cons, List.not_mem_nil, or_false] at z
            obtain ⟨dx1, k1', k2'⟩ := hL1
            obtain ⟨dx2, k3', k4'⟩ := hL2
            rcases z with rfl | rfl | rfl | rfl | rfl | rfl | rfl | rfl
            · exact ne_none (sm _ _ em19)
            · exact ne_none (sm _ _ em29)
            · exact ne_none (sm _ _ emo)
            · exact ne_none eD
            · exact ne_none k1'
            · exact ne_none k2'
            · exact ne_none k3'
            · exact ne_none k4'
        have rF1 : Rp N H10 (.ref f1) (ownD st1) := by
          have h := Rp.freshL (l := [m2, mo, D, a1, l1, a2, l2]) rf1 fr7
          have e : N = alsoL (also (one b) m1) [m2, mo, D, a1, l1, a2, l2] := by rw [eN]; rfl
          rw [← e] at h
          exact h.sx ((s8.trans (Sx.same (smo.trans sm))).le (one_le Nb))
        have rF2 : Rp N H10 (.ref f2) (ownD st2) := by
          have h := Rp.freshL (l := [mo, D, a1, l1, a2, l2]) rf2 fr8
          have e : N = alsoL (also (also (one b) m1) m2) [mo, D, a1, l1, a2, l2] := by rw [eN]; rfl
          rw [← e] at h
          exact h.sx (Sx.same (smo.trans sm))
        have nN : ∀ {c : Addr}, c ≠ b → c ≠ m1 → c ≠ m2 → c ≠ mo → c ≠ D → c ≠ a1 → c ≠ l1 → c ≠ a2 → c ≠ l2 → ¬ N c := fun h0 h1 h2 h3 h4 h5 h6 h7 h8 z => by
          rw [eN] at z
          rcases alsoL_iff.mp z with z | z
          · exact h0 z
          · simp only [List.mem_cons, List.not_mem_nil, or_false] at z
            grind
        have nNe : ∀ {c : Addr} {o : HO}, H8 c = some o → c ≠ b → c ≠ m1 → c ≠ m2 → ¬ N c := fun e h0 h1 h2 => by
          have e9 := smo _ _ e
          refine nN h0 h1 h2 (fun z => ?_) (fun z => ne9 hD e9 z.symm) (fun z => ne9 na1 e9 z.symm) (fun z => ne9 nl1 e9 z.symm) (fun z => ne9 na2 e9 z.symm) (fun z => ne9 nl2 e9 z.symm)
          rw [z, hmo] at e
          cases e
        have r1m2 : r1 ≠ m2 := fun z => by rw [← z, er1] at fm2; cases fm2
        have r2m1 : r2 ≠ m1 := fun z => by rw [z, em1] at fr2; cases fr2
        have ew7 := s7 _ _ (show ¬ one b wu from wub) ew
        have eo7 := s7 _ _ (show ¬ one b ou from oub) eo
        have nwu : ¬ N wu := nNe (s8 _ _ (show ¬ one b wu from wub) ew7) wub (fun z => by rw [← z, ew] at fm1; cases fm1) (fun z => by rw [← z, ew7] at fm2; cases fm2)
        have nou : ¬ N ou := nNe (s8 _ _ (show ¬ one b ou from oub) eo7) oub (fun z => by rw [← z, eo] at fm1; cases fm1) (fun z => by rw [← z, eo7] at fm2; cases fm2)
        have nr1 : ¬ N r1 := nNe er18 r1b (Ne.symm mr1) r1m2
        have nr2 : ¬ N r2 := nNe er2 r2b r2m1 (Ne.symm mr2)
        have ok1 : LXok T N H10 ⟨a1, l1, m1, f1, k1, 0, 0, [], [], [], st1⟩ := ⟨hL1, ⟨r1, nr1, sm _ _ em19, sm _ _ er19⟩, ⟨rfl, rfl, fun i p h => by simp at h⟩, rF1, ⟨by show 0 < st1.length; omega, st1b, st1c, by show (0 : Int) ≤ k1; omega, k1a, k1b⟩, Nin _ (by simp), Nin _ (by simp), Nin _ (by simp)⟩
        have ok2 : LXok T N H10 ⟨a2, l2, m2, f2, k2, 0, 0, [], [], [], st2⟩ := ⟨hL2, ⟨r2, nr2, sm _ _ em29, sm _ _ er29⟩, ⟨rfl, rfl, fun i p h => by simp at h⟩, rF2, ⟨by show 0 < st2.length; omega, st2b, st2c, by show (0 : Int) ≤ k2; omega, k2a, k2b⟩, Nin _ (by simp), Nin _ (by simp), Nin _ (by simp)⟩
        clear hys eys hq hfr frq fr7 fr8 frO nNe nN ne9 ne9' rf1 rf2 hB7 hB8 hM7 hM8 hO hM
        obtain ⟨e, ee⟩ : ∃ e : Ms, e = fun c => c = b ∨ c = D ∨ c = mo := ⟨_, rfl⟩
        have eys' : (ys.map fun y => V.ref y.m) = [V.ref m1, .ref m2] := eml.symm
        have W0 : WL T N H10 e [⟨a1, l1, m1, f1, k1, 0, 0, [], [], [], st1⟩, ⟨a2, l2, m2, f2, k2, 0, 0, [], [], [], st2⟩] := by
          have h9 : ∀ c, H9 c = none → c ≠ b ∧ c ≠ mo ∧ c ≠ m1 ∧ c ≠ m2 := fun c n => ⟨fun z => eb9 (by rw [← z]; exact n), fun z => (by rw [z, emo] at n; cases n), fun z => (by rw [z, em19] at n; cases n), fun z => (by rw [z, em29] at n; cases n)⟩
          have := h9 a1 na1
          have := h9 a2 na2
          have := h9 l1 nl1
          have := h9 l2 nl2
          have := h9 D hD
          refine ⟨fun j s hj => ?_, fun j k s t hj hk hne c hc z => ?_, fun c z => ?_⟩
          · match j, hj with
            | 0, hj =>
              cases hj
              refine ⟨ok1, by simp [LX.as]; grind, fun c hc => ?_⟩
              simp only [LX.as, List.mem_cons, List.not_mem_nil, or_false] at hc
              rw [ee]
              grind
            | 1, hj =>
              cases hj
              refine ⟨ok2, by simp [LX.as]; grind, fun c hc => ?_⟩
              simp only [LX.as, List.mem_cons, List.not_mem_nil, or_false] at hc
              rw [ee]
              grind
          · match j, k, hj, hk with
            | 0, 0, _, _ => exact hne rfl
            | 1, 1, _, _ => exact hne rfl
            | 0, 1, hj, hk =>
              cases hj
              cases hk
              simp only [LX.as, List.mem_cons, List.not_mem_nil, or_false] at hc z
              grind
            | 1, 0, hj, hk =>
              cases hj
              cases hk
              simp only [LX.as, List.mem_cons, List.not_mem_nil, or_false] at hc z
              grind
          · rw [ee] at z
            rcases z with rfl | rfl | rfl
            · exact Nb
            · exact Nin _ (by simp)
            · exact Nin _ (by simp)
        have Dmo : D ≠ mo := fun z => by rw [z, emo] at hD; cases hD
        have Db : D ≠ b := fun z => eb9 (by rw [← z]; exact hD)
        have emo10 := sm _ _ emo
        have ew10 := sm _ _ ew9
        have eo10 := sm _ _ eo9
        rw [← eml] at emo10
        clear ok1 ok2 hL1 hL2 rF1 rF2 em1 em2 em18 em19 em29 er1 er2 er18 er19 er29 hf1 hf2 hf19 hf29 emo ew9 eo9 ew7 eo7 ew eo hwu hou ew1 ep0 hp0
        walk_at "g"
        refine ⟨b, 26, N, rfl, hB10, by omega, by omega, fun n11 H11 c5 c6 hA11 hB11 => ?_⟩
        have s11 : Sx (one b) H10 H11 := hA11.sx
        walk_at "g"
        refine ⟨by omega, by omega, ?_⟩
        have eb' : ∀ c, one b c → e c := fun c z => by rw [ee]; exact .inl z
        refine for_range (lo := 0) (n := (5 + n11).toNat) (fun i σ H' => (∃ y8 y9, σ = [some (.ref a), some (.ref b), some (.ref wu), some (.ref ou), y4, some (.ref mo), y6, some (.ref D), y8, y9, y10, y11]) ∧ ∃ (M : Ms) (ps : List LX), Bag K M H' b ∧ Mk M H' ∧ WL T M H' e ps ∧ H' D = some (.lst (ps.map fun s => V.ref s.a)) ∧ H' mo = some (.lst (ps.map fun s => V.ref s.m)) ∧ 2 ≤ ps.length ∧ ps.length ≤ 4 ∧ ¬ M ou ∧ H' ou = some (.lst os) ∧ OwnsAt M H' os ∧ ¬ M wu ∧ H' wu = some (.lst (ws.map V.str)))
          ⟨⟨_, _, rfl⟩, N, _, hB11, hM10.gr (At.gr hA11 hB11.there), W0.frame s11 eb', s11 _ _ Db eD, s11 _ _ mob emo10, Nat.le_refl 2, (show 2 ≤ 4 from by decide), nou, s11 _ _ oub eo10, hO10.sx (s11.le (one_le Nb)), nwu, s11 _ _ wub ew10⟩ (fun i σ H' hi p => ?_) (fun σ H12 p => ?_)
        · obtain ⟨⟨y8, y9, rfl⟩, M, ps, hBi, hMi, hW, eDi, emi, lp2, lp4, nou', eoi, hOi, nwu', ewi⟩ := p
          have mbi := hBi.w
          walk_at "g"
          refine ⟨b, _, M, rfl, hBi, by rw [List.length_map]; omega, by rw [List.length_map]; omega, fun n13 H13 d0 d1 hA13 hB13 => ?_⟩
          rw [List.length_map] at d1
          obtain ⟨j, rfl⟩ : ∃ j : Nat, n13 = (j : Int) := ⟨n13.toNat, by omega⟩
          have hj : j < ps.length := by omega
          obtain ⟨s, hs⟩ : ∃ s, ps[j]? = some s := ⟨_, List.getElem?_eq_getElem hj⟩
          have s13 : Sx (one b) H' H13 := hA13.sx
          have g13 : Gr H' H13 := At.gr hA13 hB13.there
          have eD13 := s13 _ _ (show ¬ one b D from Db) eDi
          have em13 := s13 _ _ (show ¬ one b mo from mob) emi
          have hW13 := hW.frame s13 eb'
          obtain ⟨hok, hnd, hne⟩ := hW13.ok j s hs
          have hxa : (ps.map fun s => V.ref s.a)[j]? = some (.ref s.a) := by rw [List.getElem?_map, hs]; rfl
          have hxm : (ps.map fun s => V.ref s.m)[j]? = some (.ref s.m) := by rw [List.getElem?_map, hs]; rfl
          have sM13 : Sx M H' H13 := s13.le (one_le mbi)
          have hM13 := hMi.gr g13
          walk_at "g"
          refine ⟨_, _, _, _, rfl, rfl, SqL.of eD13, atI_nat hxa, ?_⟩
          walk_at "g"
          refine ⟨_, _, _, _, rfl, rfl, SqL.of em13, atI_nat hxm, ?_⟩
          walk_at "g"
          refine ⟨b, ou, wu, s, os, ws, M, rfl, hB13, hok, hnd, fun z => hne _ z (by rw [ee]; exact .inl rfl), hM13, nou', sM13 _ _ nou' eoi, hOi.sx sM13, by omega, by omega, nwu', sM13 _ _ nwu' ewi, by omega, by omega, fun H14 s' s14 g14 hB14 ok14 q1 q2 q3 => ?_⟩
          have as' : s'.as = s.as := by unfold LX.as; rw [q1, q2, q3]
          have hF14 : ∀ c, footL b s c → e c ∨ c ∈ s.as := fun c z => z.imp (fun z => by rw [ee]; exact .inl z) id
          have hW14 := hW13.upd hs s14 hF14 ok14 as'
          have nD : ¬ footL b s D := fun z => z.elim Db fun z => hne _ z (by rw [ee]; exact .inr (.inl rfl))
          have nmo : ¬ footL b s mo := fun z => z.elim mob fun z => hne _ z (by rw [ee]; exact .inr (.inr rfl))
          have eD14 := s14 _ _ nD eD13
          have em14 := s14 _ _ nmo em13
          have ema : (ps.map fun s => V.ref s.a) = (ps.set j s').map fun s => V.ref s.a := by
            rw [List.map_set, q1]
            exact (set_at hxa).symm
          have emm : (ps.map fun s => V.ref s.m) = (ps.set j s').map fun s => V.ref s.m := by
            rw [List.map_set, q3]
            exact (set_at hxm).symm
          rw [ema] at eD14
          rw [emm] at em14
          have lset : (ps.set j s').length = ps.length := List.length_set
          have hs' : (ps.set j s')[j]? = some s' := List.getElem?_set_self hj
          have sM14 : Sx M H' H14 := sM13.trans (s14.le fun c z => z.elim (fun z => by rw [z]; exact mbi) (hok.mem c))
          have hM14 := hM13.gr g14
          generalize ps.set j s' = qs at hW14 eD14 em14 lset hs'
          have hxa' : (qs.map fun s => V.ref s.a)[j]? = some (.ref s'.a) := by rw [List.getElem?_map, hs']; rfl
          have hxm' : (qs.map fun s => V.ref s.m)[j]? = some (.ref s'.m) := by rw [List.getElem?_map, hs']; rfl
          walk_at "g"
          refine ⟨_, _, _, _, rfl, rfl, SqL.of eD14, atI_nat hxa', ?_⟩
          walk_at "g"
          refine ⟨_, _, _, _, rfl, rfl, SqL.of em14, atI_nat hxm', ?_⟩
          have les' : s'.es.length ≤ 1000 := by
            have := ok14.2.2.2.2.1
            omega
          refine ⟨s'.a, s'.l, s'.m, .ref s'.f, s'.room, s'.ed, s'.tk, s'.xs, s'.rs, s'.es, M, rfl, ok14.1, ok14.2.1, ok14.2.2.1, les', hM14, fun H15 s15 => ?_⟩
          have hW15 := hW14.same s15
          have hB15 := hB14.same s15
          have eD15 := s15 _ _ eD14
          have em15 := s15 _ _ em14
          have hM15 := hM14.gr (Gr.same s15)
          have sM15 := sM14.trans (Sx.same s15)
          have nou15 := s15 _ _ (s14 _ _ (fun z => nou' (z.elim (fun z => by rw [z]; exact mbi) (hok.mem _))) (sM13 _ _ nou' eoi))
          have nwu15 := s15 _ _ (s14 _ _ (fun z => nwu' (z.elim (fun z => by rw [z]; exact mbi) (hok.mem _))) (sM13 _ _ nwu' ewi))
          have hO15 := hOi.sx sM15
          walk_at "g"
          walk_at "if"
          · rename_i cl
            have cl' := of_decide_eq_true cl
            rw [List.length_map] at cl'
            walk_at "g"
            refine ⟨b, 8, M, rfl, hB15, by omega, by omega, fun n16 H16 f0 f1 hA16 hB16 => ?_⟩
            have s16 : Sx (one b) H15 H16 := hA16.sx
            have g16 : Gr H15 H16 := At.gr hA16 hB16.there
            have hW16 := hW15.frame s16 eb'
            have eD16 := s16 _ _ (show ¬ one b D from Db) eD15
            have em16 := s16 _ _ (show ¬ one b mo from mob) em15
            have sM16 : Sx M H15 H16 := s16.le (one_le mbi)
            have hM16 := hM15.gr g16
            have eo16 := s16 _ _ oub nou15
            have ew16 := s16 _ _ wub nwu15
            have hO16 := hO15.sx sM16
            walk_at "g"
            walk_at "if"
            · obtain ⟨⟨ok16, nd16, ne16⟩, _⟩ := And.intro (hW16.ok j s' hs') trivial
              obtain ⟨f', fs, ef, nf, hf, rf⟩ := Rp.tupX ok16.2.2.2.1
              obtain rfl : s'.f = f' := by injection ef
              obtain ⟨dx16, ha16, hl16⟩ := ok16.1
              walk_at "g"
              refine ⟨.inl ⟨rfl, _, SqL.of eD16⟩, ?_⟩
              walk_at "g"
              refine ⟨_, _, _, _, rfl, rfl, SqL.of eD16, atI_nat hxa', ?_⟩
              walk_at "g"
              refine ⟨s'.a, dx16, _, rfl, ha16, rfl, ?_⟩
              walk_at "g"
              have lxs := ok16.2.2.1.1
              refine ⟨s'.a, s'.l, s'.f, fs, s'.room, s'.ed, s'.tk, s'.xs, rfl, ok16.1, .inl hf, by omega, fun H17 a3 l3 s17 fa3 fl3 al3 hL3 => ?_⟩
              have eD17 := s17 _ _ eD16
              have em17 := s17 _ _ em16
              refine ⟨D, _, _, rfl, rfl, eD17, by rw [List.length_map]; exact small1000000 (by omega), ?_⟩
              have sD : Sx (one D) H17 (upd H17 D (.lst ((qs.map fun s => V.ref s.a) ++ [.ref a3]))) := Sx.put rfl
              have gD : Gr H17 (upd H17 D (.lst ((qs.map fun s => V.ref s.a) ++ [.ref a3]))) := Gr.upd
              have eD18 : upd H17 D (.lst ((qs.map fun s => V.ref s.a) ++ [.ref a3])) D = some (.lst ((qs.map fun s => V.ref s.a) ++ [.ref a3])) := upd_same
              generalize upd H17 D (.lst ((qs.map fun s => V.ref s.a) ++ [.ref a3])) = H18 at sD gD eD18
              have em18 := sD _ _ (Ne.symm Dmo) em17
              obtain ⟨r, nr, hm, hr'⟩ := ok16.2.1
              have D_e : e D := by rw [ee]; exact .inr (.inl rfl)
              have mo_e : e mo := by rw [ee]; exact .inr (.inr rfl)
              have b_e : e b := by rw [ee]; exact .inl rfl
              have hm18 := sD _ _ (show ¬ one D s'.m from fun z => ne16 s'.m (by simp [LX.as]) (by rw [show s'.m = D from z]; exact D_e)) (s17 _ _ hm)
              walk_at "g"
              refine ⟨.inl ⟨rfl, _, SqL.of em18⟩, ?_⟩
              walk_at "g"
              refine ⟨_, _, _, _, rfl, rfl, SqL.of em18, atI_nat hxm', ?_⟩
              walk_at "g"
              intro m3 hm3
              have em19' : upd H18 m3 (.lst [.ref r, .int s'.tk, .int s'.ed, .ref s'.f, .int s'.room]) m3 = some (.lst [.ref r, .int s'.tk, .int s'.ed, .ref s'.f, .int s'.room]) := upd_same
              have s19 : Same H18 (upd H18 m3 (.lst [.ref r, .int s'.tk, .int s'.ed, .ref s'.f, .int s'.room])) := same_new hm3
              generalize upd H18 m3 (.lst [.ref r, .int s'.tk, .int s'.ed, .ref s'.f, .int s'.room]) = H19 at em19' s19
              have em19 := s19 _ _ em18
              refine ⟨mo, _, _, rfl, rfl, em19, by rw [List.length_map]; exact small1000000 (by omega), ?_⟩
              have sP : Sx (one mo) H19 (upd H19 mo (.lst ((qs.map fun s => V.ref s.m) ++ [.ref m3]))) := Sx.put rfl
              have gP : Gr H19 (upd H19 mo (.lst ((qs.map fun s => V.ref s.m) ++ [.ref m3]))) := Gr.upd
              have em20 : upd H19 mo (.lst ((qs.map fun s => V.ref s.m) ++ [.ref m3])) mo = some (.lst ((qs.map fun s => V.ref s.m) ++ [.ref m3])) := upd_same
              generalize upd H19 mo (.lst ((qs.map fun s => V.ref s.m) ++ [.ref m3])) = H20 at sP gP em20
              have D_M : M D := hW16.le D D_e
              have mo_M : M mo := hW16.le mo mo_e
              have g17 : Gr H16 H18 := (Gr.same s17).trans gD
              have fm3 : H16 m3 = none := none_gr g17 hm3
              have fr3 : ∀ p ∈ [a3, l3, m3], H16 p = none := fun p hp => by
                simp only [List.mem_cons, List.not_mem_nil, or_false] at hp
                rcases hp with rfl | rfl | rfl
                · exact fa3
                · exact fl3
                · exact fm3
              have sE : Sx (fun c => c = D ∨ c = mo) H16 H20 := (Sx.same s17).trans ((sD.le fun c z => .inl z).trans ((Sx.same s19).trans (sP.le fun c z => .inr z)))
              have gE : Gr H16 H20 := g17.trans ((Gr.same s19).trans gP)
              have Ee : ∀ c, (c = D ∨ c = mo) → e c := fun c z => z.elim (fun z => by rw [z]; exact D_e) fun z => by rw [z]; exact mo_e
              have hW20 := (hW16.freshL (l := [a3, l3, m3]) fr3).frame sE Ee
              obtain ⟨N3, eN3⟩ : ∃ N3, N3 = alsoL M [a3, l3, m3] := ⟨_, rfl⟩
              have leM : ∀ c, M c → N3 c := fun c z => by rw [eN3]; exact alsoL_iff.mpr (.inl z)
              have sEN : Sx N3 H16 H20 := sE.le fun c z => leM _ (hW16.le c (Ee c z))
              rw [← eN3] at hW20
              have a3e : ∀ {c : Addr}, H16 c = none → c ≠ D ∧ c ≠ mo ∧ c ≠ b := fun n => ⟨fun z => (by rw [z, eD16] at n; cases n), fun z => (by rw [z, em16] at n; cases n), fun z => hB16.there (by rw [← z]; exact n)⟩
              have hL20 : LnAt T.C_Line H20 a3 l3 (.ref s'.f) s'.room s'.ed s'.tk s'.xs := ((hL3.frame sD (a3e fa3).1 (a3e fl3).1).frame (F := fun _ => False) (Sx.same s19) (fun z => z) (fun z => z)).frame sP (a3e fa3).2.1 (a3e fl3).2.1
              have m3a : m3 ≠ a3 := fun z => by
                obtain ⟨dx, k1, k2⟩ := hL3.frame sD (a3e fa3).1 (a3e fl3).1
                rw [z, k1] at hm3; cases hm3
              have m3l : m3 ≠ l3 := fun z => by
                obtain ⟨dx, k1, k2⟩ := hL3.frame sD (a3e fa3).1 (a3e fl3).1
                rw [z, k2] at hm3; cases hm3
              have nN3 : ∀ {c : Addr} {o : HO}, ¬ M c → H16 c = some o → ¬ N3 c := fun n e z => by
                rw [eN3] at z
                rcases alsoL_iff.mp z with z | z
                · exact n z
                · have := fr3 _ z
                  rw [this] at e
                  cases e
              have frs : ∀ {v d}, Rp M H16 v d → Rp N3 H20 v d := fun h => by
                have := Rp.freshL (l := [a3, l3, m3]) h fr3
                rw [← eN3] at this
                exact this.sx sEN
              have hP16 := ok16.2.2.1
              have ok20 := (hW20.ok j s' hs').1
              have okN : LXok T N3 H20 ⟨a3, l3, m3, s'.f, s'.room, s'.ed, s'.tk, s'.xs, s'.rs, s'.es, s'.st⟩ := by
                have in3 : ∀ c ∈ [a3, l3, m3], N3 c := fun c hc => by rw [eN3]; exact alsoL_iff.mpr (.inr hc)
                refine ⟨hL20, ⟨r, nN3 nr hr', sP _ _ (a3e fm3).2.1 em19', ?_⟩, ok20.2.2.1, ok20.2.2.2.1, ok20.2.2.2.2.1, in3 _ (by simp), in3 _ (by simp), in3 _ (by simp)⟩
                exact sE _ _ (fun z => nr (hW16.le _ (Ee _ z))) hr'
              have hBN : Bag K N3 H20 b := by
                have h := Bag.moreL (l := [a3, l3, m3]) hB16 fr3
                rw [← eN3] at h
                exact h.keep sE (fun z => z.elim (Ne.symm Db) (Ne.symm mob)) fun c z => leM _ (hW16.le c (Ee c z))
              have hMN : Mk N3 H20 := fun c z => by
                rw [eN3] at z
                rcases alsoL_iff.mp z with z | z
                · exact gE _ (hM16 c z)
                · obtain ⟨dx, k1, k2⟩ := hL20
                  simp only [List.mem_cons, List.not_mem_nil, or_false] at z
                  rcases z with rfl | rfl | rfl
                  · exact ne_none k1
                  · exact ne_none k2
                  · exact ne_none (sP _ _ (a3e fm3).2.1 em19')
              have hWN := hW20.add (s' := ⟨a3, l3, m3, s'.f, s'.room, s'.ed, s'.tk, s'.xs, s'.rs, s'.es, s'.st⟩) okN (fun c hc z => by
                have := a3e (fr3 c hc)
                rw [ee] at z
                grind) (fun j t hj c hc z => (hW16.ok j t hj).1.there c hc (fr3 c z)) (by simp [LX.as]; grind)
              walk_at "g"
              refine ⟨⟨_, _, rfl⟩, N3, qs ++ [⟨a3, l3, m3, s'.f, s'.room, s'.ed, s'.tk, s'.xs, s'.rs, s'.es, s'.st⟩], hBN, hMN, hWN, ?_, ?_, by rw [List.length_append]; omega, by rw [List.length_append]; show qs.length + 1 ≤ 4; omega, nN3 nou' eo16, sE _ _ (fun z => nou' (hW16.le _ (Ee _ z))) eo16, fun v hv => ?_, nN3 nwu' ew16, sE _ _ (fun z => nwu' (hW16.le _ (Ee _ z))) ew16⟩
              · rw [List.map_append]
                exact sP _ _ Dmo (s19 _ _ eD18)
              · rw [List.map_append]
                exact em20
              · obtain ⟨st, h1, h2⟩ := hO16 v hv
                exact ⟨st, frs h1, h2⟩
            · exact ⟨⟨_, _, rfl⟩, M, qs, hB16, hM16, hW16, eD16, em16, by omega, by omega, nou', eo16, hO16, nwu', ew16⟩
          · walk_at "g"
            exact ⟨⟨_, _, rfl⟩, M, qs, hB15, hM15, hW15, eD15, em15, by omega, by omega, nou', nou15, hO15, nwu', nwu15⟩
        · obtain ⟨⟨y8, y9, rfl⟩, M, ps, hBi, hMi, hW, eDi, emi, lp2, lp4, -, -, -, -, -⟩ := p
          clear hBi lw okw s9 g9 nr1 nr2 hB10 hO10 hM10 W0 hB11 s11 hA11 nwu nou eD emo10 ew10 eo10 sm smo
          walk_at "g"
          refine ⟨D, mo, _, _, rfl, SqL.of eDi, SqL.of emi, ?_⟩
          refine RZ.for_zipL (by rw [List.length_map, List.length_map]) (fun k σ H' => (∃ y6 y10 y11, σ = [some (.ref a), some (.ref b), some (.ref wu), some (.ref ou), y4, some (.ref mo), y6, some (.ref D), y8, y9, y10, y11]) ∧ Sx (fun c => ∃ j s, j < k ∧ ps[j]? = some s ∧ c = s.l) H12 H' ∧ Gr H12 H') ⟨⟨_, _, _, rfl⟩, Sx.refl, Gr.refl⟩ (fun k σ H' z => ⟨SqL.of (z.2.1 _ _ (fun ⟨j, s, h1, h2, h3⟩ => (hW.ok j s h2).2.2 s.l (by simp [LX.as]) (by rw [← h3, ee]; exact .inr (.inl rfl))) eDi), SqL.of (z.2.1 _ _ (fun ⟨j, s, h1, h2, h3⟩ => (hW.ok j s h2).2.2 s.l (by simp [LX.as]) (by rw [← h3, ee]; exact .inr (.inr rfl))) emi)⟩) (fun k x y T' σ H' hx hy z hT => ?_) (fun σ H' z => ?_)
          · obtain ⟨⟨y6, y10, y11, rfl⟩, sx, gx⟩ := z
            rw [List.getElem?_map] at hx hy
            obtain ⟨s, hs, rfl⟩ := Option.map_eq_some_iff.mp hx
            rw [hs] at hy
            cases hy
            obtain ⟨hok0, hnd, -⟩ := hW.ok k s hs
            have leM : ∀ c, (∃ j s, j < k ∧ ps[j]? = some s ∧ c = s.l) → M c := fun c ⟨j, s, _, h2, h3⟩ => by rw [h3]; exact (hW.ok j s h2).1.mem _ (by simp [LX.as])
            have hok := hok0.frame sx leM (fun c hc ⟨j, t, h1, h2, h3⟩ => hW.apart k j s t hs h2 (by omega) c hc (by rw [h3]; simp [LX.as]))
            have hM' := hMi.gr gx
            have sT : Same H' (upd H' T' (.tup [.ref s.a, .ref s.m])) := same_new hT
            have eT : upd H' T' (.tup [.ref s.a, .ref s.m]) T' = some (.tup [.ref s.a, .ref s.m]) := upd_same
            generalize upd H' T' (.tup [.ref s.a, .ref s.m]) = H2 at sT eT
            have fr0 : ∀ {H1 H2 : Hp}, LXok T M H1 s → Same H1 H2 → LXok T M H2 s := fun h t => h.frame (F := fun _ => False) (Sx.same t) (fun _ z => z.elim) (fun _ _ z => z)
            have hok2 := fr0 hok sT
            refine ⟨T', _, rfl, SqT.of eT, rfl, _, _, rfl, _, _, rfl, rfl, ?_⟩
            have les : s.es.length ≤ 1000 := by
              have := hok.2.2.2.2.1
              omega
            walk_at "g"
            refine ⟨s.a, s.l, s.m, .ref s.f, s.room, s.ed, s.tk, s.xs, s.rs, s.es, M, rfl, hok2.1, hok2.2.1, hok2.2.2.1, les, hM'.gr (Gr.same sT), fun H3 s3 => ?_⟩
            have hok3 := fr0 hok2 s3
            obtain ⟨⟨dx, ha, hl⟩, ⟨r, nr, hm, hr'⟩, hP, -, -, -, ml, mm⟩ := id hok3
            have lx := hP.1
            have lr := hP.2.1
            walk_at "g"
            refine ⟨s.a, s.l, .ref s.f, s.room, s.ed, s.tk, _, s.xs, rfl, hok3.1, by omega, fun H4 s4 => ?_⟩
            have hok4 := fr0 hok3 s4
            have hm4 := s4 _ _ hm
            have hr4 := s4 _ _ hr'
            have sx4 : Same H' H4 := sT.trans (s3.trans s4)
            have hM4 := hM'.gr (Gr.same sx4)
            have r_l : r ≠ s.l := fun z => nr (by rw [z]; exact ml)
            have m_l : s.m ≠ s.l := fun z => by simp [LX.as] at hnd; exact hnd.2 z.symm
            have a_l : s.a ≠ s.l := fun z => by simp [LX.as] at hnd; exact hnd.1.1 z
            walk_at "g"
            refine ⟨⟨_, SqL.of hr4⟩, ?_⟩
            refine for_list (K := K) (a := r) (xs := s.rs) (fun i σ H' => (∃ y11, σ = [some (.ref a), some (.ref b), some (.ref wu), some (.ref ou), y4, some (.ref mo), some (.ref s.m), some (.ref D), y8, y9, some (.ref s.a), y11]) ∧ Sx (one s.l) H4 H' ∧ Gr H4 H' ∧ LnAt T.C_Line H' s.a s.l (.ref s.f) s.room s.ed s.tk (s.xs.drop i)) ⟨⟨_, rfl⟩, Sx.refl, Gr.refl, hok4.1⟩ (fun i σ H' _ p => SqL.of (p.2.1 _ _ r_l hr4)) (fun i y σ H5 hx p => ?_) (fun σ H5 p => ?_)
            · obtain ⟨⟨y11, rfl⟩, s5, g5, ⟨dx5, ha5, hl5⟩⟩ := p
              have hi : i < s.es.length := by rw [← lr]; exact (List.getElem?_eq_some_iff.mp hx).1
              obtain ⟨x, y', h1, h2, h3, h4, h5⟩ := hok4.2.2.1.2.2 i _ (List.getElem?_eq_getElem hi)
              rw [hx] at h2
              cases h2
              have h0 : (s.xs.drop i)[0]? = some x := by rw [List.getElem?_drop]; exact h1
              have ld : (s.xs.drop i).length ≤ 1000 := by rw [List.length_drop]; omega
              refine ⟨_, rfl, ?_⟩
              walk_at "g"
              refine ⟨s.a, dx5, _, rfl, ha5, rfl, ?_⟩
              walk_at "g"
              refine ⟨s.a, s.l, .ref s.f, x, s.room, s.ed, s.tk, 0, s.xs.drop i, rfl, ⟨dx5, ha5, hl5⟩, h0, ld, ?_⟩
              have e6 : upd H5 s.l (.lst ((s.xs.drop i).eraseIdx 0)) s.l = some (.lst ((s.xs.drop i).eraseIdx 0)) := upd_same
              have s6 : Sx (one s.l) H5 (upd H5 s.l (.lst ((s.xs.drop i).eraseIdx 0))) := Sx.put rfl
              have g6 : Gr H5 (upd H5 s.l (.lst ((s.xs.drop i).eraseIdx 0))) := Gr.upd
              generalize upd H5 s.l (.lst ((s.xs.drop i).eraseIdx 0)) = H6 at e6 s6 g6
              have ha6 := s6 _ _ (show ¬ one s.l s.a from a_l) ha5
              have s46 : Sx (one s.l) H4 H6 := s5.trans s6
              have sM : Sx M H4 H6 := s46.le (one_le ml)
              walk_at "g"
              refine ⟨x, y, s.es[i].1, s.es[i].2, M, rfl, h3.sx sM, h4.sx sM, h5.sx sM, hM4.gr (g5.trans g6), fun H7 s7 => ?_⟩
              walk_at "g"
              refine ⟨⟨_, rfl⟩, s46.trans (Sx.same s7), g5.trans (g6.trans (Gr.same s7)), dx5, s7 _ _ ha6, ?_⟩
              have ed : s.xs.drop (i + 1) = (s.xs.drop i).eraseIdx 0 := by
                rw [List.eraseIdx_zero, List.tail_drop]
              rw [ed]
              exact s7 _ _ e6
            · obtain ⟨⟨y11, rfl⟩, s5, g5, ⟨dx5, ha5, hl5⟩⟩ := p
              have e0 : s.xs.drop s.rs.length = [] := List.drop_eq_nil_of_le (by omega)
              rw [e0] at hl5
              walk_at "g"
              refine ⟨s.a, s.l, .ref s.f, s.room, s.ed, s.tk, 0, [], rfl, ⟨dx5, ha5, hl5⟩, by simp, fun H6 s6 => ?_⟩
              have ha6 := s6 _ _ ha5
              have hl6 := s6 _ _ hl5
              walk_at "g"
              refine ⟨s.a, dx5, _, rfl, ha6, rfl, ?_⟩
              walk_at "g"
              refine ⟨s.a, s.l, .ref s.f, s.room, s.ed, s.tk, [], rfl, ⟨dx5, ha6, hl6⟩, fun p7 hp7 => ?_⟩
              have s7 : Same H6 (upd H6 p7 (.lst [])) := same_new hp7
              have e7 : upd H6 p7 (.lst []) p7 = some (.lst []) := upd_same
              generalize upd H6 p7 (.lst []) = H7 at s7 e7
              walk_at "g"
              refine ⟨szK rfl, fun p8 hp8 => ?_⟩
              have s8' : Same H7 (upd H7 p8 (.lst [])) := same_new hp8
              have e8 : upd H7 p8 (.lst []) p8 = some (.lst []) := upd_same
              generalize upd H7 p8 (.lst []) = H8' at s8' e8
              refine ⟨.list [], .list [], .lst (SqL.of (s8' _ _ e7)) .nil, .lst (SqL.of e8) .nil, by decide +kernel, by decide +kernel, ?_⟩
              rw [show (PyData.eqv (.list []) (.list [])) = true by decide +kernel]
              walk_at "g"
              refine ⟨⟨_, _, _, rfl⟩, ?_, gx.trans ((Gr.same sx4).trans (g5.trans (Gr.same (s6.trans (s7.trans s8')))))⟩
              refine Sx.trans (sx.le fun c ⟨j, t, h1, h2, h3⟩ => ⟨j, t, by omega, h2, h3⟩) ((Sx.same sx4).trans ((s5.le fun c z => ⟨k, s, by omega, hs, z⟩).trans (Sx.same (s6.trans (s7.trans s8')))))
          · obtain ⟨⟨y6, y10, y11, rfl⟩, -, -⟩ := z
            walk_at "g"
            exact q _
end
end D

namespace D
open PySem PySem.Spec PyProof.Rows L2
theorem all_mk {l : PySem.W.OpenLaw} {w : World} {K : PySem.W.Frag} {h : Heap} {mg : Str → Option Value} {fa : Addr} {f_is_whole f__law_mixed f__law_bag f__law_pick f__law_number f__law_new_name f__law_step f__law_owner f__law_store f__law_same_entry f__law_same_line f__law_sent f__law_refused f__law_taken f__law_turned f__law_deed f__law_new_model f_law C_Entry f_Entry___init__ C_Line f_Line___init__ f_Line_edition p_Line_edition f_Line_send f_Line_take f_Line_entries f_Line_turn f_Line_has_next f_Line_copy C_ScreenError C_BadFence f_BadFence___init__ C_NoAnswer f_NoAnswer___init__ : Addr} (X : K.In h) (G : h.Ns mainGlobals mg) (hfa : mg "law" = some (.ref fa))
    {od_is_whole an_is_whole : Option Addr} {sl_is_whole : Array (Option Value)} {oc_is_whole kV_is_whole dc_is_whole pm_is_whole cd_is_whole ct_is_whole : Value}
    (a_is_whole : PySem.W.nsIn K mainGlobals "is_whole" = some (some (.ref f_is_whole))) (l_is_whole : K.lookup f_is_whole = some ⟨oc_is_whole, od_is_whole, .func (PySem.W.fnOf "is_whole" "is_whole" (defArgs s_is_whole) (defBody s_is_whole) (defScope s_is_whole) .none kV_is_whole dc_is_whole pm_is_whole an_is_whole cd_is_whole ct_is_whole), sl_is_whole⟩) (c_is_whole : PySem.W.codeIn K cd_is_whole "is_whole" = true) (k_is_whole : PySem.W.keepIn K (.ref f_is_whole) = true)
    {od__law_mixed an__law_mixed : Option Addr} {sl__law_mixed : Array (Option Value)} {oc__law_mixed kV__law_mixed dc__law_mixed pm__law_mixed cd__law_mixed ct__law_mixed : Value}
    (a__law_mixed : PySem.W.nsIn K mainGlobals "_law_mixed" = some (some (.ref f__law_mixed))) (l__law_mixed : K.lookup f__law_mixed = some ⟨oc__law_mixed, od__law_mixed, .func (PySem.W.fnOf "_law_mixed" "_law_mixed" (defArgs s__law_mixed) (defBody s__law_mixed) (defScope s__law_mixed) .none kV__law_mixed dc__law_mixed pm__law_mixed an__law_mixed cd__law_mixed ct__law_mixed), sl__law_mixed⟩) (c__law_mixed : PySem.W.codeIn K cd__law_mixed "_law_mixed" = true) (k__law_mixed : PySem.W.keepIn K (.ref f__law_mixed) = true)
    {od__law_bag an__law_bag : Option Addr} {sl__law_bag : Array (Option Value)} {oc__law_bag kV__law_bag dc__law_bag pm__law_bag cd__law_bag ct__law_bag : Value}
    (a__law_bag : PySem.W.nsIn K mainGlobals "_law_bag" = some (some (.ref f__law_bag))) (l__law_bag : K.lookup f__law_bag = some ⟨oc__law_bag, od__law_bag, .func (PySem.W.fnOf "_law_bag" "_law_bag" (defArgs s__law_bag) (defBody s__law_bag) (defScope s__law_bag) .none kV__law_bag dc__law_bag pm__law_bag an__law_bag cd__law_bag ct__law_bag), sl__law_bag⟩) (c__law_bag : PySem.W.codeIn K cd__law_bag "_law_bag" = true) (k__law_bag : PySem.W.keepIn K (.ref f__law_bag) = true)
    {od__law_pick an__law_pick : Option Addr} {sl__law_pick : Array (Option Value)} {oc__law_pick kV__law_pick dc__law_pick pm__law_pick cd__law_pick ct__law_pick : Value}
    (a__law_pick : PySem.W.nsIn K mainGlobals "_law_pick" = some (some (.ref f__law_pick))) (l__law_pick : K.lookup f__law_pick = some ⟨oc__law_pick, od__law_pick, .func (PySem.W.fnOf "_law_pick" "_law_pick" (defArgs s__law_pick) (defBody s__law_pick) (defScope s__law_pick) .none kV__law_pick dc__law_pick pm__law_pick an__law_pick cd__law_pick ct__law_pick), sl__law_pick⟩) (c__law_pick : PySem.W.codeIn K cd__law_pick "_law_pick" = true) (k__law_pick : PySem.W.keepIn K (.ref f__law_pick) = true)
    {od__law_number an__law_number : Option Addr} {sl__law_number : Array (Option Value)} {oc__law_number kV__law_number dc__law_number pm__law_number cd__law_number ct__law_number : Value}
    (a__law_number : PySem.W.nsIn K mainGlobals "_law_number" = some (some (.ref f__law_number))) (l__law_number : K.lookup f__law_number = some ⟨oc__law_number, od__law_number, .func (PySem.W.fnOf "_law_number" "_law_number" (defArgs s__law_number) (defBody s__law_number) (defScope s__law_number) .none kV__law_number dc__law_number pm__law_number an__law_number cd__law_number ct__law_number), sl__law_number⟩) (c__law_number : PySem.W.codeIn K cd__law_number "_law_number" = true) (k__law_number : PySem.W.keepIn K (.ref f__law_number) = true)
    {od__law_new_name an__law_new_name : Option Addr} {sl__law_new_name : Array (Option Value)} {oc__law_new_name kV__law_new_name dc__law_new_name pm__law_new_name cd__law_new_name ct__law_new_name : Value}
    (a__law_new_name : PySem.W.nsIn K mainGlobals "_law_new_name" = some (some (.ref f__law_new_name))) (l__law_new_name : K.lookup f__law_new_name = some ⟨oc__law_new_name, od__law_new_name, .func (PySem.W.fnOf "_law_new_name" "_law_new_name" (defArgs s__law_new_name) (defBody s__law_new_name) (defScope s__law_new_name) .none kV__law_new_name dc__law_new_name pm__law_new_name an__law_new_name cd__law_new_name ct__law_new_name), sl__law_new_name⟩) (c__law_new_name : PySem.W.codeIn K cd__law_new_name "_law_new_name" = true) (k__law_new_name : PySem.W.keepIn K (.ref f__law_new_name) = true)
    {od__law_step an__law_step : Option Addr} {sl__law_step : Array (Option Value)} {oc__law_step kV__law_step dc__law_step pm__law_step cd__law_step ct__law_step : Value}
    (a__law_step : PySem.W.nsIn K mainGlobals "_law_step" = some (some (.ref f__law_step))) (l__law_step : K.lookup f__law_step = some ⟨oc__law_step, od__law_step, .func (PySem.W.fnOf "_law_step" "_law_step" (defArgs s__law_step) (defBody s__law_step) (defScope s__law_step) .none kV__law_step dc__law_step pm__law_step an__law_step cd__law_step ct__law_step), sl__law_step⟩) (c__law_step : PySem.W.codeIn K cd__law_step "_law_step" = true) (k__law_step : PySem.W.keepIn K (.ref f__law_step) = true)
    {od__law_owner an__law_owner : Option Addr} {sl__law_owner : Array (Option Value)} {oc__law_owner kV__law_owner dc__law_owner pm__law_owner cd__law_owner ct__law_owner : Value}
    (a__law_owner : PySem.W.nsIn K mainGlobals "_law_owner" = some (some (.ref f__law_owner))) (l__law_owner : K.lookup f__law_owner = some ⟨oc__law_owner, od__law_owner, .func (PySem.W.fnOf "_law_owner" "_law_owner" (defArgs s__law_owner) (defBody s__law_owner) (defScope s__law_owner) .none kV__law_owner dc__law_owner pm__law_owner an__law_owner cd__law_owner ct__law_owner), sl__law_owner⟩) (c__law_owner : PySem.W.codeIn K cd__law_owner "_law_owner" = true) (k__law_owner : PySem.W.keepIn K (.ref f__law_owner) = true)
    {od__law_store an__law_store : Option Addr} {sl__law_store : Array (Option Value)} {oc__law_store kV__law_store dc__law_store pm__law_store cd__law_store ct__law_store : Value}
    (a__law_store : PySem.W.nsIn K mainGlobals "_law_store" = some (some (.ref f__law_store))) (l__law_store : K.lookup f__law_store = some ⟨oc__law_store, od__law_store, .func (PySem.W.fnOf "_law_store" "_law_store" (defArgs s__law_store) (defBody s__law_store) (defScope s__law_store) .none kV__law_store dc__law_store pm__law_store an__law_store cd__law_store ct__law_store), sl__law_store⟩) (c__law_store : PySem.W.codeIn K cd__law_store "_law_store" = true) (k__law_store : PySem.W.keepIn K (.ref f__law_store) = true)
    {od__law_same_entry an__law_same_entry : Option Addr} {sl__law_same_entry : Array (Option Value)} {oc__law_same_entry kV__law_same_entry dc__law_same_entry pm__law_same_entry cd__law_same_entry ct__law_same_entry : Value}
    (a__law_same_entry : PySem.W.nsIn K mainGlobals "_law_same_entry" = some (some (.ref f__law_same_entry))) (l__law_same_entry : K.lookup f__law_same_entry = some ⟨oc__law_same_entry, od__law_same_entry, .func (PySem.W.fnOf "_law_same_entry" "_law_same_entry" (defArgs s__law_same_entry) (defBody s__law_same_entry) (defScope s__law_same_entry) .none kV__law_same_entry dc__law_same_entry pm__law_same_entry an__law_same_entry cd__law_same_entry ct__law_same_entry), sl__law_same_entry⟩) (c__law_same_entry : PySem.W.codeIn K cd__law_same_entry "_law_same_entry" = true) (k__law_same_entry : PySem.W.keepIn K (.ref f__law_same_entry) = true)
    {od__law_same_line an__law_same_line : Option Addr} {sl__law_same_line : Array (Option Value)} {oc__law_same_line kV__law_same_line dc__law_same_line pm__law_same_line cd__law_same_line ct__law_same_line : Value}
    (a__law_same_line : PySem.W.nsIn K mainGlobals "_law_same_line" = some (some (.ref f__law_same_line))) (l__law_same_line : K.lookup f__law_same_line = some ⟨oc__law_same_line, od__law_same_line, .func (PySem.W.fnOf "_law_same_line" "_law_same_line" (defArgs s__law_same_line) (defBody s__law_same_line) (defScope s__law_same_line) .none kV__law_same_line dc__law_same_line pm__law_same_line an__law_same_line cd__law_same_line ct__law_same_line), sl__law_same_line⟩) (c__law_same_line : PySem.W.codeIn K cd__law_same_line "_law_same_line" = true) (k__law_same_line : PySem.W.keepIn K (.ref f__law_same_line) = true)
    {od__law_sent an__law_sent : Option Addr} {sl__law_sent : Array (Option Value)} {oc__law_sent kV__law_sent dc__law_sent pm__law_sent cd__law_sent ct__law_sent : Value}
    (a__law_sent : PySem.W.nsIn K mainGlobals "_law_sent" = some (some (.ref f__law_sent))) (l__law_sent : K.lookup f__law_sent = some ⟨oc__law_sent, od__law_sent, .func (PySem.W.fnOf "_law_sent" "_law_sent" (defArgs s__law_sent) (defBody s__law_sent) (defScope s__law_sent) .none kV__law_sent dc__law_sent pm__law_sent an__law_sent cd__law_sent ct__law_sent), sl__law_sent⟩) (c__law_sent : PySem.W.codeIn K cd__law_sent "_law_sent" = true) (k__law_sent : PySem.W.keepIn K (.ref f__law_sent) = true)
    {od__law_refused an__law_refused : Option Addr} {sl__law_refused : Array (Option Value)} {oc__law_refused kV__law_refused dc__law_refused pm__law_refused cd__law_refused ct__law_refused : Value}
    (a__law_refused : PySem.W.nsIn K mainGlobals "_law_refused" = some (some (.ref f__law_refused))) (l__law_refused : K.lookup f__law_refused = some ⟨oc__law_refused, od__law_refused, .func (PySem.W.fnOf "_law_refused" "_law_refused" (defArgs s__law_refused) (defBody s__law_refused) (defScope s__law_refused) .none kV__law_refused dc__law_refused pm__law_refused an__law_refused cd__law_refused ct__law_refused), sl__law_refused⟩) (c__law_refused : PySem.W.codeIn K cd__law_refused "_law_refused" = true) (k__law_refused : PySem.W.keepIn K (.ref f__law_refused) = true)
    {od__law_taken an__law_taken : Option Addr} {sl__law_taken : Array (Option Value)} {oc__law_taken kV__law_taken dc__law_taken pm__law_taken cd__law_taken ct__law_taken : Value}
    (a__law_taken : PySem.W.nsIn K mainGlobals "_law_taken" = some (some (.ref f__law_taken))) (l__law_taken : K.lookup f__law_taken = some ⟨oc__law_taken, od__law_taken, .func (PySem.W.fnOf "_law_taken" "_law_taken" (defArgs s__law_taken) (defBody s__law_taken) (defScope s__law_taken) .none kV__law_taken dc__law_taken pm__law_taken an__law_taken cd__law_taken ct__law_taken), sl__law_taken⟩) (c__law_taken : PySem.W.codeIn K cd__law_taken "_law_taken" = true) (k__law_taken : PySem.W.keepIn K (.ref f__law_taken) = true)
    {od__law_turned an__law_turned : Option Addr} {sl__law_turned : Array (Option Value)} {oc__law_turned kV__law_turned dc__law_turned pm__law_turned cd__law_turned ct__law_turned : Value}
    (a__law_turned : PySem.W.nsIn K mainGlobals "_law_turned" = some (some (.ref f__law_turned))) (l__law_turned : K.lookup f__law_turned = some ⟨oc__law_turned, od__law_turned, .func (PySem.W.fnOf "_law_turned" "_law_turned" (defArgs s__law_turned) (defBody s__law_turned) (defScope s__law_turned) .none kV__law_turned dc__law_turned pm__law_turned an__law_turned cd__law_turned ct__law_turned), sl__law_turned⟩) (c__law_turned : PySem.W.codeIn K cd__law_turned "_law_turned" = true) (k__law_turned : PySem.W.keepIn K (.ref f__law_turned) = true)
    {od__law_deed an__law_deed : Option Addr} {sl__law_deed : Array (Option Value)} {oc__law_deed kV__law_deed dc__law_deed pm__law_deed cd__law_deed ct__law_deed : Value}
    (a__law_deed : PySem.W.nsIn K mainGlobals "_law_deed" = some (some (.ref f__law_deed))) (l__law_deed : K.lookup f__law_deed = some ⟨oc__law_deed, od__law_deed, .func (PySem.W.fnOf "_law_deed" "_law_deed" (defArgs s__law_deed) (defBody s__law_deed) (defScope s__law_deed) .none kV__law_deed dc__law_deed pm__law_deed an__law_deed cd__law_deed ct__law_deed), sl__law_deed⟩) (c__law_deed : PySem.W.codeIn K cd__law_deed "_law_deed" = true) (k__law_deed : PySem.W.keepIn K (.ref f__law_deed) = true)
    {od__law_new_model an__law_new_model : Option Addr} {sl__law_new_model : Array (Option Value)} {oc__law_new_model kV__law_new_model dc__law_new_model pm__law_new_model cd__law_new_model ct__law_new_model : Value}
    (a__law_new_model : PySem.W.nsIn K mainGlobals "_law_new_model" = some (some (.ref f__law_new_model))) (l__law_new_model : K.lookup f__law_new_model = some ⟨oc__law_new_model, od__law_new_model, .func (PySem.W.fnOf "_law_new_model" "_law_new_model" (defArgs s__law_new_model) (defBody s__law_new_model) (defScope s__law_new_model) .none kV__law_new_model dc__law_new_model pm__law_new_model an__law_new_model cd__law_new_model ct__law_new_model), sl__law_new_model⟩) (c__law_new_model : PySem.W.codeIn K cd__law_new_model "_law_new_model" = true) (k__law_new_model : PySem.W.keepIn K (.ref f__law_new_model) = true)
    {od_law an_law : Option Addr} {sl_law : Array (Option Value)} {oc_law kV_law dc_law pm_law cd_law ct_law : Value}
    (a_law : PySem.W.nsIn K mainGlobals "law" = some (some (.ref f_law))) (l_law : K.lookup f_law = some ⟨oc_law, od_law, .func (PySem.W.fnOf "law" "law" (defArgs s_law) (defBody s_law) (defScope s_law) .none kV_law dc_law pm_law an_law cd_law ct_law), sl_law⟩) (c_law : PySem.W.codeIn K cd_law "law" = true) (k_law : PySem.W.keepIn K (.ref f_law) = true)
    (aC_Entry : PySem.W.nsIn K mainGlobals "Entry" = some (some (.ref C_Entry))) (pg_Entry : PySem.W.plainGet K C_Entry Str.empty = true) (hd_Entry : PySem.W.hasDictIn K C_Entry = true) (po_Entry : PySem.W.plainOver K C_Entry = true) (sa_Entry : PySem.W.findIn K (.ref C_Entry) "__setattr__" = some (some (.builtin "object.__setattr__"))) (mk_Entry : PySem.W.makesIn K C_Entry = true) (kc_Entry : PySem.W.keepIn K (.ref C_Entry) = true) (nf_Entry : PySem.W.notFirst K C_Entry (.ref C_Entry) = true) (ih_Entry : PySem.W.findIn K (.ref C_Entry) "__class__" = some (some (.builtin "object.__class__"))) (ig_Entry : PySem.W.specialIn K (.builtin "object.__class__") "__get__" = some (some (.builtin "getset_descriptor.__get__"))) (it_Entry : PySem.W.takesIn K (.builtin "object.__class__") = some true) (io_Entry : PySem.W.mroIn K C_Entry (.type "object") = some true) (ik_Entry : PySem.W.kitOne K (.ref C_Entry) (.ref C_Entry) = some true)
    (nA_Entry_answer : PySem.W.findIn K (.ref C_Entry) "answer" = some none)
    (nA_Entry_owner : PySem.W.findIn K (.ref C_Entry) "owner" = some none)
    (nA_Entry_question : PySem.W.findIn K (.ref C_Entry) "question" = some none)
    (nA_Entry_ticket : PySem.W.findIn K (.ref C_Entry) "ticket" = some none)
    (nA_Entry_who : PySem.W.findIn K (.ref C_Entry) "who" = some none)
    (nA_Entry_word : PySem.W.findIn K (.ref C_Entry) "word" = some none)
    {od_Entry___init__ an_Entry___init__ : Option Addr} {sl_Entry___init__ : Array (Option Value)} {oc_Entry___init__ kV_Entry___init__ dc_Entry___init__ pm_Entry___init__ cd_Entry___init__ ct_Entry___init__ : Value}
    (a_Entry___init__ : PySem.W.findIn K (.ref C_Entry) "__init__" = some (some (.ref f_Entry___init__))) (i_Entry___init__ : PySem.W.isFn K (.ref f_Entry___init__) = true) (n_Entry___init__ : PySem.W.fnIn K f_Entry___init__ = true)
    (l_Entry___init__ : K.lookup f_Entry___init__ = some ⟨oc_Entry___init__, od_Entry___init__, .func (PySem.W.fnOf "__init__" "Entry.__init__" (defArgs s_Entry___init__) (defBody s_Entry___init__) (defScope s_Entry___init__) .none kV_Entry___init__ dc_Entry___init__ pm_Entry___init__ an_Entry___init__ cd_Entry___init__ ct_Entry___init__), sl_Entry___init__⟩) (c_Entry___init__ : PySem.W.codeIn K cd_Entry___init__ "Entry.__init__" = true) (k_Entry___init__ : PySem.W.keepIn K (.ref f_Entry___init__) = true)
    (aC_Line : PySem.W.nsIn K mainGlobals "Line" = some (some (.ref C_Line))) (pg_Line : PySem.W.plainGet K C_Line Str.empty = true) (hd_Line : PySem.W.hasDictIn K C_Line = true) (po_Line : PySem.W.plainOver K C_Line = true) (sa_Line : PySem.W.findIn K (.ref C_Line) "__setattr__" = some (some (.builtin "object.__setattr__"))) (mk_Line : PySem.W.makesIn K C_Line = true) (kc_Line : PySem.W.keepIn K (.ref C_Line) = true) (nf_Line : PySem.W.notFirst K C_Line (.ref C_Line) = true) (ih_Line : PySem.W.findIn K (.ref C_Line) "__class__" = some (some (.builtin "object.__class__"))) (ig_Line : PySem.W.specialIn K (.builtin "object.__class__") "__get__" = some (some (.builtin "getset_descriptor.__get__"))) (it_Line : PySem.W.takesIn K (.builtin "object.__class__") = some true) (io_Line : PySem.W.mroIn K C_Line (.type "object") = some true) (ik_Line : PySem.W.kitOne K (.ref C_Line) (.ref C_Line) = some true)
    (nA_Line__edition : PySem.W.findIn K (.ref C_Line) "_edition" = some none)
    (nA_Line__entries : PySem.W.findIn K (.ref C_Line) "_entries" = some none)
    (nA_Line__far : PySem.W.findIn K (.ref C_Line) "_far" = some none)
    (nA_Line__room : PySem.W.findIn K (.ref C_Line) "_room" = some none)
    (nA_Line__tickets : PySem.W.findIn K (.ref C_Line) "_tickets" = some none)
    {od_Line___init__ an_Line___init__ : Option Addr} {sl_Line___init__ : Array (Option Value)} {oc_Line___init__ kV_Line___init__ dc_Line___init__ pm_Line___init__ cd_Line___init__ ct_Line___init__ : Value}
    (a_Line___init__ : PySem.W.findIn K (.ref C_Line) "__init__" = some (some (.ref f_Line___init__))) (i_Line___init__ : PySem.W.isFn K (.ref f_Line___init__) = true) (n_Line___init__ : PySem.W.fnIn K f_Line___init__ = true)
    (l_Line___init__ : K.lookup f_Line___init__ = some ⟨oc_Line___init__, od_Line___init__, .func (PySem.W.fnOf "__init__" "Line.__init__" (defArgs s_Line___init__) (defBody s_Line___init__) (defScope s_Line___init__) .none kV_Line___init__ dc_Line___init__ pm_Line___init__ an_Line___init__ cd_Line___init__ ct_Line___init__), sl_Line___init__⟩) (c_Line___init__ : PySem.W.codeIn K cd_Line___init__ "Line.__init__" = true) (k_Line___init__ : PySem.W.keepIn K (.ref f_Line___init__) = true)
    {od_Line_edition an_Line_edition : Option Addr} {sl_Line_edition : Array (Option Value)} {oc_Line_edition kV_Line_edition dc_Line_edition pm_Line_edition cd_Line_edition ct_Line_edition : Value}
    {re_Line_edition : List Value} (a_Line_edition : PySem.W.findIn K (.ref C_Line) "edition" = some (some (.ref p_Line_edition))) (ge_Line_edition : PySem.W.specialIn K (.ref p_Line_edition) "__get__" = some (some (.builtin "property.__get__"))) (ta_Line_edition : PySem.W.takesIn K (.ref p_Line_edition) = some true) (re1_Line_edition : PySem.W.recIn K p_Line_edition "property" = some (.ref f_Line_edition :: re_Line_edition))
    (l_Line_edition : K.lookup f_Line_edition = some ⟨oc_Line_edition, od_Line_edition, .func (PySem.W.fnOf "edition" "Line.edition" (defArgs s_Line_edition) (defBody s_Line_edition) (defScope s_Line_edition) .none kV_Line_edition dc_Line_edition pm_Line_edition an_Line_edition cd_Line_edition ct_Line_edition), sl_Line_edition⟩) (c_Line_edition : PySem.W.codeIn K cd_Line_edition "Line.edition" = true) (k_Line_edition : PySem.W.keepIn K (.ref f_Line_edition) = true)
    {od_Line_send an_Line_send : Option Addr} {sl_Line_send : Array (Option Value)} {oc_Line_send kV_Line_send dc_Line_send pm_Line_send cd_Line_send ct_Line_send : Value}
    (a_Line_send : PySem.W.findIn K (.ref C_Line) "send" = some (some (.ref f_Line_send))) (i_Line_send : PySem.W.isFn K (.ref f_Line_send) = true) (n_Line_send : PySem.W.fnIn K f_Line_send = true)
    (l_Line_send : K.lookup f_Line_send = some ⟨oc_Line_send, od_Line_send, .func (PySem.W.fnOf "send" "Line.send" (defArgs s_Line_send) (defBody s_Line_send) (defScope s_Line_send) .none kV_Line_send dc_Line_send pm_Line_send an_Line_send cd_Line_send ct_Line_send), sl_Line_send⟩) (c_Line_send : PySem.W.codeIn K cd_Line_send "Line.send" = true) (k_Line_send : PySem.W.keepIn K (.ref f_Line_send) = true)
    {od_Line_take an_Line_take : Option Addr} {sl_Line_take : Array (Option Value)} {oc_Line_take kV_Line_take dc_Line_take pm_Line_take cd_Line_take ct_Line_take : Value}
    (a_Line_take : PySem.W.findIn K (.ref C_Line) "take" = some (some (.ref f_Line_take))) (i_Line_take : PySem.W.isFn K (.ref f_Line_take) = true) (n_Line_take : PySem.W.fnIn K f_Line_take = true)
    (l_Line_take : K.lookup f_Line_take = some ⟨oc_Line_take, od_Line_take, .func (PySem.W.fnOf "take" "Line.take" (defArgs s_Line_take) (defBody s_Line_take) (defScope s_Line_take) .none kV_Line_take dc_Line_take pm_Line_take an_Line_take cd_Line_take ct_Line_take), sl_Line_take⟩) (c_Line_take : PySem.W.codeIn K cd_Line_take "Line.take" = true) (k_Line_take : PySem.W.keepIn K (.ref f_Line_take) = true)
    {od_Line_entries an_Line_entries : Option Addr} {sl_Line_entries : Array (Option Value)} {oc_Line_entries kV_Line_entries dc_Line_entries pm_Line_entries cd_Line_entries ct_Line_entries : Value}
    (a_Line_entries : PySem.W.findIn K (.ref C_Line) "entries" = some (some (.ref f_Line_entries))) (i_Line_entries : PySem.W.isFn K (.ref f_Line_entries) = true) (n_Line_entries : PySem.W.fnIn K f_Line_entries = true)
    (l_Line_entries : K.lookup f_Line_entries = some ⟨oc_Line_entries, od_Line_entries, .func (PySem.W.fnOf "entries" "Line.entries" (defArgs s_Line_entries) (defBody s_Line_entries) (defScope s_Line_entries) .none kV_Line_entries dc_Line_entries pm_Line_entries an_Line_entries cd_Line_entries ct_Line_entries), sl_Line_entries⟩) (c_Line_entries : PySem.W.codeIn K cd_Line_entries "Line.entries" = true) (k_Line_entries : PySem.W.keepIn K (.ref f_Line_entries) = true)
    {od_Line_turn an_Line_turn : Option Addr} {sl_Line_turn : Array (Option Value)} {oc_Line_turn kV_Line_turn dc_Line_turn pm_Line_turn cd_Line_turn ct_Line_turn : Value}
    (a_Line_turn : PySem.W.findIn K (.ref C_Line) "turn" = some (some (.ref f_Line_turn))) (i_Line_turn : PySem.W.isFn K (.ref f_Line_turn) = true) (n_Line_turn : PySem.W.fnIn K f_Line_turn = true)
    (l_Line_turn : K.lookup f_Line_turn = some ⟨oc_Line_turn, od_Line_turn, .func (PySem.W.fnOf "turn" "Line.turn" (defArgs s_Line_turn) (defBody s_Line_turn) (defScope s_Line_turn) .none kV_Line_turn dc_Line_turn pm_Line_turn an_Line_turn cd_Line_turn ct_Line_turn), sl_Line_turn⟩) (c_Line_turn : PySem.W.codeIn K cd_Line_turn "Line.turn" = true) (k_Line_turn : PySem.W.keepIn K (.ref f_Line_turn) = true)
    {od_Line_has_next an_Line_has_next : Option Addr} {sl_Line_has_next : Array (Option Value)} {oc_Line_has_next kV_Line_has_next dc_Line_has_next pm_Line_has_next cd_Line_has_next ct_Line_has_next : Value}
    (a_Line_has_next : PySem.W.findIn K (.ref C_Line) "has_next" = some (some (.ref f_Line_has_next))) (i_Line_has_next : PySem.W.isFn K (.ref f_Line_has_next) = true) (n_Line_has_next : PySem.W.fnIn K f_Line_has_next = true)
    (l_Line_has_next : K.lookup f_Line_has_next = some ⟨oc_Line_has_next, od_Line_has_next, .func (PySem.W.fnOf "has_next" "Line.has_next" (defArgs s_Line_has_next) (defBody s_Line_has_next) (defScope s_Line_has_next) .none kV_Line_has_next dc_Line_has_next pm_Line_has_next an_Line_has_next cd_Line_has_next ct_Line_has_next), sl_Line_has_next⟩) (c_Line_has_next : PySem.W.codeIn K cd_Line_has_next "Line.has_next" = true) (k_Line_has_next : PySem.W.keepIn K (.ref f_Line_has_next) = true)
    {od_Line_copy an_Line_copy : Option Addr} {sl_Line_copy : Array (Option Value)} {oc_Line_copy kV_Line_copy dc_Line_copy pm_Line_copy cd_Line_copy ct_Line_copy : Value}
    (a_Line_copy : PySem.W.findIn K (.ref C_Line) "copy" = some (some (.ref f_Line_copy))) (i_Line_copy : PySem.W.isFn K (.ref f_Line_copy) = true) (n_Line_copy : PySem.W.fnIn K f_Line_copy = true)
    (l_Line_copy : K.lookup f_Line_copy = some ⟨oc_Line_copy, od_Line_copy, .func (PySem.W.fnOf "copy" "Line.copy" (defArgs s_Line_copy) (defBody s_Line_copy) (defScope s_Line_copy) .none kV_Line_copy dc_Line_copy pm_Line_copy an_Line_copy cd_Line_copy ct_Line_copy), sl_Line_copy⟩) (c_Line_copy : PySem.W.codeIn K cd_Line_copy "Line.copy" = true) (k_Line_copy : PySem.W.keepIn K (.ref f_Line_copy) = true)
    (aC_ScreenError : PySem.W.nsIn K mainGlobals "ScreenError" = some (some (.ref C_ScreenError))) (hd_ScreenError : PySem.W.hasDictIn K C_ScreenError = true) (ty_ScreenError : PySem.W.typeIn K (.ref C_ScreenError) = some (.type "type")) (be_ScreenError : PySem.W.subIn K (.ref C_ScreenError) (.type "BaseException") = some true) (vb_ScreenError : PySem.W.subIn K (.ref C_ScreenError) (.type "ValueError") = some true)
    (aC_BadFence : PySem.W.nsIn K mainGlobals "BadFence" = some (some (.ref C_BadFence))) (hd_BadFence : PySem.W.hasDictIn K C_BadFence = true) (ty_BadFence : PySem.W.typeIn K (.ref C_BadFence) = some (.type "type")) (be_BadFence : PySem.W.subIn K (.ref C_BadFence) (.type "BaseException") = some true) (vb_BadFence : PySem.W.subIn K (.ref C_BadFence) (.type "ValueError") = some true)
    {nm_BadFence q_BadFence : Str} {N_BadFence : Addr} {bs_BadFence bm_BadFence : List Value} {sn_BadFence : List Str} {sub_BadFence : List Value} {ab_BadFence : Bool} {col_BadFence : Option Bool} {dd_BadFence : Option Addr} {k0_BadFence k1_BadFence k2_BadFence k3_BadFence k5_BadFence : Option Value} (lx_BadFence : K.lookup C_BadFence = some (excClassObj nm_BadFence q_BadFence C_BadFence N_BadFence bs_BadFence bm_BadFence true sn_BadFence sub_BadFence ab_BadFence col_BadFence dd_BadFence k0_BadFence k1_BadFence k2_BadFence k3_BadFence k5_BadFence "ValueError.__new__")) (rv_BadFence : PySem.HandSPX.refsVE bm_BadFence = true)
    (sa_BadFence : PySem.W.findIn K (.ref C_BadFence) "__setattr__" = some (some (.builtin "object.__setattr__"))) (kc_BadFence : PySem.W.keepIn K (.ref C_BadFence) = true) (ga_BadFence : PySem.W.findIn K (.ref C_BadFence) "__getattribute__" = some (some (.builtin "BaseException.__getattribute__"))) (gg_BadFence : PySem.W.findIn K (.ref C_BadFence) "__getattr__" = some none) (ca_BadFence : PySem.W.findIn K (.ref C_BadFence) "__class__" = some (some (.builtin "object.__class__"))) (cg_BadFence : PySem.W.specialIn K (.builtin "object.__class__") "__get__" = some (some (.builtin "getset_descriptor.__get__"))) (ck_BadFence : PySem.W.takesIn K (.builtin "object.__class__") = some true) (mo_BadFence : PySem.W.mroIn K C_BadFence (.type "object") = some true)
    {od_BadFence___init__ an_BadFence___init__ : Option Addr} {sl_BadFence___init__ : Array (Option Value)} {oc_BadFence___init__ kV_BadFence___init__ dc_BadFence___init__ pm_BadFence___init__ cd_BadFence___init__ ct_BadFence___init__ : Value} (iC_BadFence : PySem.W.findIn K (.ref C_BadFence) "__init__" = some (some (.ref f_BadFence___init__))) (tI_BadFence : PySem.W.typeIn K (.ref f_BadFence___init__) = some (.type "function"))
    (l_BadFence___init__ : K.lookup f_BadFence___init__ = some ⟨oc_BadFence___init__, od_BadFence___init__, .func (PySem.W.fnOf "__init__" "BadFence.__init__" (defArgs s_BadFence___init__) (defBody s_BadFence___init__) (defScope s_BadFence___init__) .none kV_BadFence___init__ dc_BadFence___init__ pm_BadFence___init__ an_BadFence___init__ cd_BadFence___init__ ct_BadFence___init__), sl_BadFence___init__⟩) (c_BadFence___init__ : PySem.W.codeIn K cd_BadFence___init__ "BadFence.__init__" = true) (k_BadFence___init__ : PySem.W.keepIn K (.ref f_BadFence___init__) = true)
    (ss_BadFence : PySem.W.subIn K (.ref C_BadFence) (.ref C_BadFence) = some true)
    (nf_BadFence_fence : PySem.W.findIn K (.ref C_BadFence) "fence" = some none)
    (aC_NoAnswer : PySem.W.nsIn K mainGlobals "NoAnswer" = some (some (.ref C_NoAnswer))) (hd_NoAnswer : PySem.W.hasDictIn K C_NoAnswer = true) (ty_NoAnswer : PySem.W.typeIn K (.ref C_NoAnswer) = some (.type "type")) (be_NoAnswer : PySem.W.subIn K (.ref C_NoAnswer) (.type "BaseException") = some true) (vb_NoAnswer : PySem.W.subIn K (.ref C_NoAnswer) (.type "ValueError") = some true)
    {nm_NoAnswer q_NoAnswer : Str} {N_NoAnswer : Addr} {bs_NoAnswer bm_NoAnswer : List Value} {sn_NoAnswer : List Str} {sub_NoAnswer : List Value} {ab_NoAnswer : Bool} {col_NoAnswer : Option Bool} {dd_NoAnswer : Option Addr} {k0_NoAnswer k1_NoAnswer k2_NoAnswer k3_NoAnswer k5_NoAnswer : Option Value} (lx_NoAnswer : K.lookup C_NoAnswer = some (excClassObj nm_NoAnswer q_NoAnswer C_NoAnswer N_NoAnswer bs_NoAnswer bm_NoAnswer true sn_NoAnswer sub_NoAnswer ab_NoAnswer col_NoAnswer dd_NoAnswer k0_NoAnswer k1_NoAnswer k2_NoAnswer k3_NoAnswer k5_NoAnswer "ValueError.__new__")) (rv_NoAnswer : PySem.HandSPX.refsVE bm_NoAnswer = true)
    (sa_NoAnswer : PySem.W.findIn K (.ref C_NoAnswer) "__setattr__" = some (some (.builtin "object.__setattr__"))) (kc_NoAnswer : PySem.W.keepIn K (.ref C_NoAnswer) = true) (ga_NoAnswer : PySem.W.findIn K (.ref C_NoAnswer) "__getattribute__" = some (some (.builtin "BaseException.__getattribute__"))) (gg_NoAnswer : PySem.W.findIn K (.ref C_NoAnswer) "__getattr__" = some none) (ca_NoAnswer : PySem.W.findIn K (.ref C_NoAnswer) "__class__" = some (some (.builtin "object.__class__"))) (cg_NoAnswer : PySem.W.specialIn K (.builtin "object.__class__") "__get__" = some (some (.builtin "getset_descriptor.__get__"))) (ck_NoAnswer : PySem.W.takesIn K (.builtin "object.__class__") = some true) (mo_NoAnswer : PySem.W.mroIn K C_NoAnswer (.type "object") = some true)
    {od_NoAnswer___init__ an_NoAnswer___init__ : Option Addr} {sl_NoAnswer___init__ : Array (Option Value)} {oc_NoAnswer___init__ kV_NoAnswer___init__ dc_NoAnswer___init__ pm_NoAnswer___init__ cd_NoAnswer___init__ ct_NoAnswer___init__ : Value} (iC_NoAnswer : PySem.W.findIn K (.ref C_NoAnswer) "__init__" = some (some (.ref f_NoAnswer___init__))) (tI_NoAnswer : PySem.W.typeIn K (.ref f_NoAnswer___init__) = some (.type "function"))
    (l_NoAnswer___init__ : K.lookup f_NoAnswer___init__ = some ⟨oc_NoAnswer___init__, od_NoAnswer___init__, .func (PySem.W.fnOf "__init__" "NoAnswer.__init__" (defArgs s_NoAnswer___init__) (defBody s_NoAnswer___init__) (defScope s_NoAnswer___init__) .none kV_NoAnswer___init__ dc_NoAnswer___init__ pm_NoAnswer___init__ an_NoAnswer___init__ cd_NoAnswer___init__ ct_NoAnswer___init__), sl_NoAnswer___init__⟩) (c_NoAnswer___init__ : PySem.W.codeIn K cd_NoAnswer___init__ "NoAnswer.__init__" = true) (k_NoAnswer___init__ : PySem.W.keepIn K (.ref f_NoAnswer___init__) = true)
    (ss_NoAnswer : PySem.W.subIn K (.ref C_NoAnswer) (.ref C_NoAnswer) = some true)
    (nf_NoAnswer_number : PySem.W.findIn K (.ref C_NoAnswer) "number" = some none)
    (ne_BadFence_ScreenError : C_BadFence ≠ C_ScreenError) (s_BadFence_ScreenError : PySem.W.subIn K (.ref C_BadFence) (.ref C_ScreenError) = some true)
    (ne_BadFence_NoAnswer : C_BadFence ≠ C_NoAnswer) (s_BadFence_NoAnswer : PySem.W.subIn K (.ref C_BadFence) (.ref C_NoAnswer) = some false)
    (ne_NoAnswer_ScreenError : C_NoAnswer ≠ C_ScreenError) (s_NoAnswer_ScreenError : PySem.W.subIn K (.ref C_NoAnswer) (.ref C_ScreenError) = some true)
    (ne_NoAnswer_BadFence : C_NoAnswer ≠ C_BadFence) (s_NoAnswer_BadFence : PySem.W.subIn K (.ref C_NoAnswer) (.ref C_BadFence) = some false)
    (z_ValueError : PySem.W.nsIn K mainGlobals "ValueError" = some none)
    (z_abs : PySem.W.nsIn K mainGlobals "abs" = some none)
    (z_bool : PySem.W.nsIn K mainGlobals "bool" = some none)
    (z_enumerate : PySem.W.nsIn K mainGlobals "enumerate" = some none)
    (z_int : PySem.W.nsIn K mainGlobals "int" = some none)
    (z_isinstance : PySem.W.nsIn K mainGlobals "isinstance" = some none)
    (z_len : PySem.W.nsIn K mainGlobals "len" = some none)
    (z_list : PySem.W.nsIn K mainGlobals "list" = some none)
    (z_range : PySem.W.nsIn K mainGlobals "range" = some none)
    (z_tuple : PySem.W.nsIn K mainGlobals "tuple" = some none)
    (z_zip : PySem.W.nsIn K mainGlobals "zip" = some none) :
    ∃ fd : FuncData, (∀ (s : Shared) (v : Value), BindsTo s fd ⟨[v], []⟩ [("_law_script", v)]) ∧ ∀ base : Heap, K.In base → base.Ns mainGlobals mg → FnOk l.prog w K mg base CX0 9 fa fd ["_law_script"] (sp_law K) := by
  have e := hfa.symm.trans (PySem.W.mg_of X G a_law)
  cases e
  let T : Txt K mg := { f_is_whole := f_is_whole, d_is_whole := _, F_is_whole := fun_mk (st := s_is_whole) l_is_whole c_is_whole k_is_whole, b_is_whole := (fun_mk (st := s_is_whole) l_is_whole c_is_whole k_is_whole).binds fun _ _ _ _ _ _ us hl => match us, hl with | [_], _ => rfl, g_is_whole := PySem.W.mg_of X G a_is_whole, f__law_mixed := f__law_mixed, d__law_mixed := _, F__law_mixed := fun_mk (st := s__law_mixed) l__law_mixed c__law_mixed k__law_mixed, b__law_mixed := (fun_mk (st := s__law_mixed) l__law_mixed c__law_mixed k__law_mixed).binds fun _ _ _ _ _ _ us hl => match us, hl with | [_, _], _ => rfl, g__law_mixed := PySem.W.mg_of X G a__law_mixed, f__law_bag := f__law_bag, d__law_bag := _, F__law_bag := fun_mk (st := s__law_bag) l__law_bag c__law_bag k__law_bag, b__law_bag := (fun_mk (st := s__law_bag) l__law_bag c__law_bag k__law_bag).binds fun _ _ _ _ _ _ us hl => match us, hl with | [_], _ => rfl, g__law_bag := PySem.W.mg_of X G a__law_bag, f__law_pick := f__law_pick, d__law_pick := _, F__law_pick := fun_mk (st := s__law_pick) l__law_pick c__law_pick k__law_pick, b__law_pick := (fun_mk (st := s__law_pick) l__law_pick c__law_pick k__law_pick).binds fun _ _ _ _ _ _ us hl => match us, hl with | [_, _], _ => rfl, g__law_pick := PySem.W.mg_of X G a__law_pick, f__law_number := f__law_number, d__law_number := _, F__law_number := fun_mk (st := s__law_number) l__law_number c__law_number k__law_number, b__law_number := (fun_mk (st := s__law_number) l__law_number c__law_number k__law_number).binds fun _ _ _ _ _ _ us hl => match us, hl with | [_], _ => rfl, g__law_number := PySem.W.mg_of X G a__law_number, f__law_new_name := f__law_new_name, d__law_new_name := _, F__law_new_name := fun_mk (st := s__law_new_name) l__law_new_name c__law_new_name k__law_new_name, b__law_new_name := (fun_mk (st := s__law_new_name) l__law_new_name c__law_new_name k__law_new_name).binds fun _ _ _ _ _ _ us hl => match us, hl with | [_, _], _ => rfl, g__law_new_name := PySem.W.mg_of X G a__law_new_name, f__law_step := f__law_step, d__law_step := _, F__law_step := fun_mk (st := s__law_step) l__law_step c__law_step k__law_step, b__law_step := (fun_mk (st := s__law_step) l__law_step c__law_step k__law_step).binds fun _ _ _ _ _ _ us hl => match us, hl with | [_], _ => rfl, g__law_step := PySem.W.mg_of X G a__law_step, f__law_owner := f__law_owner, d__law_owner := _, F__law_owner := fun_mk (st := s__law_owner) l__law_owner c__law_owner k__law_owner, b__law_owner := (fun_mk (st := s__law_owner) l__law_owner c__law_owner k__law_owner).binds fun _ _ _ _ _ _ us hl => match us, hl with | [_, _], _ => rfl, g__law_owner := PySem.W.mg_of X G a__law_owner, f__law_store := f__law_store, d__law_store := _, F__law_store := fun_mk (st := s__law_store) l__law_store c__law_store k__law_store, b__law_store := (fun_mk (st := s__law_store) l__law_store c__law_store k__law_store).binds fun _ _ _ _ _ _ us hl => match us, hl with | [_], _ => rfl, g__law_store := PySem.W.mg_of X G a__law_store, f__law_same_entry := f__law_same_entry, d__law_same_entry := _, F__law_same_entry := fun_mk (st := s__law_same_entry) l__law_same_entry c__law_same_entry k__law_same_entry, b__law_same_entry := (fun_mk (st := s__law_same_entry) l__law_same_entry c__law_same_entry k__law_same_entry).binds fun _ _ _ _ _ _ us hl => match us, hl with | [_, _], _ => rfl, g__law_same_entry := PySem.W.mg_of X G a__law_same_entry, f__law_same_line := f__law_same_line, d__law_same_line := _, F__law_same_line := fun_mk (st := s__law_same_line) l__law_same_line c__law_same_line k__law_same_line, b__law_same_line := (fun_mk (st := s__law_same_line) l__law_same_line c__law_same_line k__law_same_line).binds fun _ _ _ _ _ _ us hl => match us, hl with | [_, _], _ => rfl, g__law_same_line := PySem.W.mg_of X G a__law_same_line, f__law_sent := f__law_sent, d__law_sent := _, F__law_sent := fun_mk (st := s__law_sent) l__law_sent c__law_sent k__law_sent, b__law_sent := (fun_mk (st := s__law_sent) l__law_sent c__law_sent k__law_sent).binds fun _ _ _ _ _ _ us hl => match us, hl with | [_, _, _, _, _], _ => rfl, g__law_sent := PySem.W.mg_of X G a__law_sent, f__law_refused := f__law_refused, d__law_refused := _, F__law_refused := fun_mk (st := s__law_refused) l__law_refused c__law_refused k__law_refused, b__law_refused := (fun_mk (st := s__law_refused) l__law_refused c__law_refused k__law_refused).binds fun _ _ _ _ _ _ us hl => match us, hl with | [_, _], _ => rfl, g__law_refused := PySem.W.mg_of X G a__law_refused, f__law_taken := f__law_taken, d__law_taken := _, F__law_taken := fun_mk (st := s__law_taken) l__law_taken c__law_taken k__law_taken, b__law_taken := (fun_mk (st := s__law_taken) l__law_taken c__law_taken k__law_taken).binds fun _ _ _ _ _ _ us hl => match us, hl with | [_, _, _], _ => rfl, g__law_taken := PySem.W.mg_of X G a__law_taken, f__law_turned := f__law_turned, d__law_turned := _, F__law_turned := fun_mk (st := s__law_turned) l__law_turned c__law_turned k__law_turned, b__law_turned := (fun_mk (st := s__law_turned) l__law_turned c__law_turned k__law_turned).binds fun _ _ _ _ _ _ us hl => match us, hl with | [_, _], _ => rfl, g__law_turned := PySem.W.mg_of X G a__law_turned, f__law_deed := f__law_deed, d__law_deed := _, F__law_deed := fun_mk (st := s__law_deed) l__law_deed c__law_deed k__law_deed, b__law_deed := (fun_mk (st := s__law_deed) l__law_deed c__law_deed k__law_deed).binds fun _ _ _ _ _ _ us hl => match us, hl with | [_, _, _, _, _], _ => rfl, g__law_deed := PySem.W.mg_of X G a__law_deed, f__law_new_model := f__law_new_model, d__law_new_model := _, F__law_new_model := fun_mk (st := s__law_new_model) l__law_new_model c__law_new_model k__law_new_model, b__law_new_model := (fun_mk (st := s__law_new_model) l__law_new_model c__law_new_model k__law_new_model).binds fun _ _ _ _ _ _ us hl => match us, hl with | [_], _ => rfl, g__law_new_model := PySem.W.mg_of X G a__law_new_model, f_law := fa, d_law := _, F_law := fun_mk (st := s_law) l_law c_law k_law, b_law := (fun_mk (st := s_law) l_law c_law k_law).binds fun _ _ _ _ _ _ us hl => match us, hl with | [_], _ => rfl, g_law := PySem.W.mg_of X G a_law, C_Entry := C_Entry, g_Entry := PySem.W.mg_of X G aC_Entry, cl_Entry := ⟨pg_Entry, hd_Entry, po_Entry, sa_Entry⟩, mk_Entry := mk_Entry, kc_Entry := kc_Entry, nf_Entry := nf_Entry, in_Entry := ⟨⟨pg_Entry, hd_Entry, po_Entry, sa_Entry⟩, ih_Entry, ig_Entry, it_Entry, io_Entry, ik_Entry⟩, nA_Entry_answer := nA_Entry_answer, nA_Entry_owner := nA_Entry_owner, nA_Entry_question := nA_Entry_question, nA_Entry_ticket := nA_Entry_ticket, nA_Entry_who := nA_Entry_who, nA_Entry_word := nA_Entry_word, f_Entry___init__ := f_Entry___init__, d_Entry___init__ := _, F_Entry___init__ := fun_mk (st := s_Entry___init__) l_Entry___init__ c_Entry___init__ k_Entry___init__, b_Entry___init__ := (fun_mk (st := s_Entry___init__) l_Entry___init__ c_Entry___init__ k_Entry___init__).binds fun _ _ _ _ _ _ us hl => match us, hl with | [_, _, _, _, _, _, _], _ => rfl, a_Entry___init__ := a_Entry___init__, i_Entry___init__ := i_Entry___init__, n_Entry___init__ := n_Entry___init__, C_Line := C_Line, g_Line := PySem.W.mg_of X G aC_Line, cl_Line := ⟨pg_Line, hd_Line, po_Line, sa_Line⟩, mk_Line := mk_Line, kc_Line := kc_Line, nf_Line := nf_Line, in_Line := ⟨⟨pg_Line, hd_Line, po_Line, sa_Line⟩, ih_Line, ig_Line, it_Line, io_Line, ik_Line⟩, nA_Line__edition := nA_Line__edition, nA_Line__entries := nA_Line__entries, nA_Line__far := nA_Line__far, nA_Line__room := nA_Line__room, nA_Line__tickets := nA_Line__tickets, f_Line___init__ := f_Line___init__, d_Line___init__ := _, F_Line___init__ := fun_mk (st := s_Line___init__) l_Line___init__ c_Line___init__ k_Line___init__, b_Line___init__ := (fun_mk (st := s_Line___init__) l_Line___init__ c_Line___init__ k_Line___init__).binds fun _ _ _ _ _ _ us hl => match us, hl with | [_, _, _], _ => rfl, a_Line___init__ := a_Line___init__, i_Line___init__ := i_Line___init__, n_Line___init__ := n_Line___init__, f_Line_edition := f_Line_edition, d_Line_edition := _, F_Line_edition := fun_mk (st := s_Line_edition) l_Line_edition c_Line_edition k_Line_edition, b_Line_edition := (fun_mk (st := s_Line_edition) l_Line_edition c_Line_edition k_Line_edition).binds fun _ _ _ _ _ _ us hl => match us, hl with | [_], _ => rfl, p_Line_edition := p_Line_edition, P_Line_edition := ⟨a_Line_edition, ge_Line_edition, ta_Line_edition, ⟨_, re1_Line_edition⟩⟩, f_Line_send := f_Line_send, d_Line_send := _, F_Line_send := fun_mk (st := s_Line_send) l_Line_send c_Line_send k_Line_send, b_Line_send := (fun_mk (st := s_Line_send) l_Line_send c_Line_send k_Line_send).binds fun _ _ _ _ _ _ us hl => match us, hl with | [_, _, _, _, _], _ => rfl, a_Line_send := a_Line_send, i_Line_send := i_Line_send, n_Line_send := n_Line_send, f_Line_take := f_Line_take, d_Line_take := _, F_Line_take := fun_mk (st := s_Line_take) l_Line_take c_Line_take k_Line_take, b_Line_take := (fun_mk (st := s_Line_take) l_Line_take c_Line_take k_Line_take).binds fun _ _ _ _ _ _ us hl => match us, hl with | [_, _], _ => rfl, a_Line_take := a_Line_take, i_Line_take := i_Line_take, n_Line_take := n_Line_take, f_Line_entries := f_Line_entries, d_Line_entries := _, F_Line_entries := fun_mk (st := s_Line_entries) l_Line_entries c_Line_entries k_Line_entries, b_Line_entries := (fun_mk (st := s_Line_entries) l_Line_entries c_Line_entries k_Line_entries).binds fun _ _ _ _ _ _ us hl => match us, hl with | [_], _ => rfl, a_Line_entries := a_Line_entries, i_Line_entries := i_Line_entries, n_Line_entries := n_Line_entries, f_Line_turn := f_Line_turn, d_Line_turn := _, F_Line_turn := fun_mk (st := s_Line_turn) l_Line_turn c_Line_turn k_Line_turn, b_Line_turn := (fun_mk (st := s_Line_turn) l_Line_turn c_Line_turn k_Line_turn).binds fun _ _ _ _ _ _ us hl => match us, hl with | [_], _ => rfl, a_Line_turn := a_Line_turn, i_Line_turn := i_Line_turn, n_Line_turn := n_Line_turn, f_Line_has_next := f_Line_has_next, d_Line_has_next := _, F_Line_has_next := fun_mk (st := s_Line_has_next) l_Line_has_next c_Line_has_next k_Line_has_next, b_Line_has_next := (fun_mk (st := s_Line_has_next) l_Line_has_next c_Line_has_next k_Line_has_next).binds fun _ _ _ _ _ _ us hl => match us, hl with | [_], _ => rfl, a_Line_has_next := a_Line_has_next, i_Line_has_next := i_Line_has_next, n_Line_has_next := n_Line_has_next, f_Line_copy := f_Line_copy, d_Line_copy := _, F_Line_copy := fun_mk (st := s_Line_copy) l_Line_copy c_Line_copy k_Line_copy, b_Line_copy := (fun_mk (st := s_Line_copy) l_Line_copy c_Line_copy k_Line_copy).binds fun _ _ _ _ _ _ us hl => match us, hl with | [_], _ => rfl, a_Line_copy := a_Line_copy, i_Line_copy := i_Line_copy, n_Line_copy := n_Line_copy, C_ScreenError := C_ScreenError, g_ScreenError := PySem.W.mg_of X G aC_ScreenError, hd_ScreenError := hd_ScreenError, ty_ScreenError := ty_ScreenError, be_ScreenError := be_ScreenError, vb_ScreenError := vb_ScreenError, C_BadFence := C_BadFence, g_BadFence := PySem.W.mg_of X G aC_BadFence, hd_BadFence := hd_BadFence, ty_BadFence := ty_BadFence, be_BadFence := be_BadFence, vb_BadFence := vb_BadFence, ox_BadFence := ⟨⟨_, _, _, _, _, _, _, _, _, _, _, _, _, _, _, lx_BadFence, rv_BadFence⟩, sa_BadFence, be_BadFence, ty_BadFence, kc_BadFence⟩, xf_BadFence := ⟨ga_BadFence, gg_BadFence, be_BadFence, hd_BadFence⟩, is_BadFence := ⟨ga_BadFence, gg_BadFence, be_BadFence, hd_BadFence, ca_BadFence, cg_BadFence, ck_BadFence, mo_BadFence⟩, f_BadFence___init__ := f_BadFence___init__, d_BadFence___init__ := _, F_BadFence___init__ := fun_mk (st := s_BadFence___init__) l_BadFence___init__ c_BadFence___init__ k_BadFence___init__, b_BadFence___init__ := (fun_mk (st := s_BadFence___init__) l_BadFence___init__ c_BadFence___init__ k_BadFence___init__).binds fun _ _ _ _ _ _ us hl => match us, hl with | [_, _], _ => rfl, iC_BadFence := iC_BadFence, tI_BadFence := tI_BadFence, nf_BadFence_fence := nf_BadFence_fence, ss_BadFence := ss_BadFence, C_NoAnswer := C_NoAnswer, g_NoAnswer := PySem.W.mg_of X G aC_NoAnswer, hd_NoAnswer := hd_NoAnswer, ty_NoAnswer := ty_NoAnswer, be_NoAnswer := be_NoAnswer, vb_NoAnswer := vb_NoAnswer, ox_NoAnswer := ⟨⟨_, _, _, _, _, _, _, _, _, _, _, _, _, _, _, lx_NoAnswer, rv_NoAnswer⟩, sa_NoAnswer, be_NoAnswer, ty_NoAnswer, kc_NoAnswer⟩, xf_NoAnswer := ⟨ga_NoAnswer, gg_NoAnswer, be_NoAnswer, hd_NoAnswer⟩, is_NoAnswer := ⟨ga_NoAnswer, gg_NoAnswer, be_NoAnswer, hd_NoAnswer, ca_NoAnswer, cg_NoAnswer, ck_NoAnswer, mo_NoAnswer⟩, f_NoAnswer___init__ := f_NoAnswer___init__, d_NoAnswer___init__ := _, F_NoAnswer___init__ := fun_mk (st := s_NoAnswer___init__) l_NoAnswer___init__ c_NoAnswer___init__ k_NoAnswer___init__, b_NoAnswer___init__ := (fun_mk (st := s_NoAnswer___init__) l_NoAnswer___init__ c_NoAnswer___init__ k_NoAnswer___init__).binds fun _ _ _ _ _ _ us hl => match us, hl with | [_, _], _ => rfl, iC_NoAnswer := iC_NoAnswer, tI_NoAnswer := tI_NoAnswer, nf_NoAnswer_number := nf_NoAnswer_number, ss_NoAnswer := ss_NoAnswer, ne_BadFence_ScreenError := ne_BadFence_ScreenError, s_BadFence_ScreenError := s_BadFence_ScreenError, ne_BadFence_NoAnswer := ne_BadFence_NoAnswer, s_BadFence_NoAnswer := s_BadFence_NoAnswer, ne_NoAnswer_ScreenError := ne_NoAnswer_ScreenError, s_NoAnswer_ScreenError := s_NoAnswer_ScreenError, ne_NoAnswer_BadFence := ne_NoAnswer_BadFence, s_NoAnswer_BadFence := s_NoAnswer_BadFence, m_ValueError := PySem.W.mg_none_of X G z_ValueError, m_abs := PySem.W.mg_none_of X G z_abs, m_bool := PySem.W.mg_none_of X G z_bool, m_enumerate := PySem.W.mg_none_of X G z_enumerate, m_int := PySem.W.mg_none_of X G z_int, m_isinstance := PySem.W.mg_none_of X G z_isinstance, m_len := PySem.W.mg_none_of X G z_len, m_list := PySem.W.mg_none_of X G z_list, m_range := PySem.W.mg_none_of X G z_range, m_tuple := PySem.W.mg_none_of X G z_tuple, m_zip := PySem.W.mg_none_of X G z_zip }
  exact ⟨_, fun s v => .of_eq rfl, fun base _ _ => ok_law (base := base) T⟩
end D
open PySem PySem.W PyProof.Rows
set_option maxHeartbeats 0 in
theorem PySem.Challenge.cw_drawnanew_k44_line_entries_holds : PySem.Challenge.rw_drawnanew_k44_line_entries.Holds := by
  w_on; o_law; k_head; (case hw => w_witness2)
  k_fill
  refine L2.walk_of (l := PySem.Challenge.rw_drawnanew_k44_line_entries) (n := 63) (k := 9) (x := "_law_script") (CX := fun _ => L2.CX0) (sp := fun w => D.sp_law _) rfl (by decide) rfl ⟨rfl, by decide, by decide⟩ (fun w h Y => PySem.W.kIn_of Y) ?F (fun _ _ a ns hl _ hS => ⟨a, ns, rfl, hS, hl, fun _ => rfl⟩) (fun _ _ _ _ _ h => h)
  case F =>
    intro w mg fa h KX G hmg
    refine' D.all_mk KX G hmg ?a_is_whole ?l_is_whole ?c_is_whole ?k_is_whole ?a__law_mixed ?l__law_mixed ?c__law_mixed ?k__law_mixed ?a__law_bag ?l__law_bag ?c__law_bag ?k__law_bag ?a__law_pick ?l__law_pick ?c__law_pick ?k__law_pick ?a__law_number ?l__law_number ?c__law_number ?k__law_number ?a__law_new_name ?l__law_new_name ?c__law_new_name ?k__law_new_name ?a__law_step ?l__law_step ?c__law_step ?k__law_step ?a__law_owner ?l__law_owner ?c__law_owner ?k__law_owner ?a__law_store ?l__law_store ?c__law_store ?k__law_store ?a__law_same_entry ?l__law_same_entry ?c__law_same_entry ?k__law_same_entry ?a__law_same_line ?l__law_same_line ?c__law_same_line ?k__law_same_line ?a__law_sent ?l__law_sent ?c__law_sent ?k__law_sent ?a__law_refused ?l__law_refused ?c__law_refused ?k__law_refused ?a__law_taken ?l__law_taken ?c__law_taken ?k__law_taken ?a__law_turned ?l__law_turned ?c__law_turned ?k__law_turned ?a__law_deed ?l__law_deed ?c__law_deed ?k__law_deed ?a__law_new_model ?l__law_new_model ?c__law_new_model ?k__law_new_model ?a_law ?l_law ?c_law ?k_law ?aC_Entry ?pg_Entry ?hd_Entry ?po_Entry ?sa_Entry ?mk_Entry ?kc_Entry ?nf_Entry ?ih_Entry ?ig_Entry ?it_Entry ?io_Entry ?ik_Entry ?nA_Entry_answer ?nA_Entry_owner ?nA_Entry_question ?nA_Entry_ticket ?nA_Entry_who ?nA_Entry_word ?a_Entry___init__ ?i_Entry___init__ ?n_Entry___init__ ?l_Entry___init__ ?c_Entry___init__ ?k_Entry___init__ ?aC_Line ?pg_Line ?hd_Line ?po_Line ?sa_Line ?mk_Line ?kc_Line ?nf_Line ?ih_Line ?ig_Line ?it_Line ?io_Line ?ik_Line ?nA_Line__edition ?nA_Line__entries ?nA_Line__far ?nA_Line__room ?nA_Line__tickets ?a_Line___init__ ?i_Line___init__ ?n_Line___init__ ?l_Line___init__ ?c_Line___init__ ?k_Line___init__ ?a_Line_edition ?ge_Line_edition ?ta_Line_edition ?re1_Line_edition ?l_Line_edition ?c_Line_edition ?k_Line_edition ?a_Line_send ?i_Line_send ?n_Line_send ?l_Line_send ?c_Line_send ?k_Line_send ?a_Line_take ?i_Line_take ?n_Line_take ?l_Line_take ?c_Line_take ?k_Line_take ?a_Line_entries ?i_Line_entries ?n_Line_entries ?l_Line_entries ?c_Line_entries ?k_Line_entries ?a_Line_turn ?i_Line_turn ?n_Line_turn ?l_Line_turn ?c_Line_turn ?k_Line_turn ?a_Line_has_next ?i_Line_has_next ?n_Line_has_next ?l_Line_has_next ?c_Line_has_next ?k_Line_has_next ?a_Line_copy ?i_Line_copy ?n_Line_copy ?l_Line_copy ?c_Line_copy ?k_Line_copy ?aC_ScreenError ?hd_ScreenError ?ty_ScreenError ?be_ScreenError ?vb_ScreenError ?aC_BadFence ?hd_BadFence ?ty_BadFence ?be_BadFence ?vb_BadFence ?lx_BadFence ?rv_BadFence ?sa_BadFence ?kc_BadFence ?ga_BadFence ?gg_BadFence ?ca_BadFence ?cg_BadFence ?ck_BadFence ?mo_BadFence ?iC_BadFence ?tI_BadFence ?l_BadFence___init__ ?c_BadFence___init__ ?k_BadFence___init__ ?ss_BadFence ?nf_BadFence_fence ?aC_NoAnswer ?hd_NoAnswer ?ty_NoAnswer ?be_NoAnswer ?vb_NoAnswer ?lx_NoAnswer ?rv_NoAnswer ?sa_NoAnswer ?kc_NoAnswer ?ga_NoAnswer ?gg_NoAnswer ?ca_NoAnswer ?cg_NoAnswer ?ck_NoAnswer ?mo_NoAnswer ?iC_NoAnswer ?tI_NoAnswer ?l_NoAnswer___init__ ?c_NoAnswer___init__ ?k_NoAnswer___init__ ?ss_NoAnswer ?nf_NoAnswer_number ?ne_BadFence_ScreenError ?s_BadFence_ScreenError ?ne_BadFence_NoAnswer ?s_BadFence_NoAnswer ?ne_NoAnswer_ScreenError ?s_NoAnswer_ScreenError ?ne_NoAnswer_BadFence ?s_NoAnswer_BadFence ?z_ValueError ?z_abs ?z_bool ?z_enumerate ?z_int ?z_isinstance ?z_len ?z_list ?z_range ?z_tuple ?z_zip
    (case a_is_whole => k_is); (case l_is_whole => k_is); (case c_is_whole => k_is); (case k_is_whole => k_is); (case a__law_mixed => k_is); (case l__law_mixed => k_is); (case c__law_mixed => k_is); (case k__law_mixed => k_is); (case a__law_bag => k_is); (case l__law_bag => k_is); (case c__law_bag => k_is); (case k__law_bag => k_is); (case a__law_pick => k_is); (case l__law_pick => k_is); (case c__law_pick => k_is); (case k__law_pick => k_is); (case a__law_number => k_is); (case l__law_number => k_is); (case c__law_number => k_is); (case k__law_number => k_is); (case a__law_new_name => k_is); (case l__law_new_name => k_is); (case c__law_new_name => k_is); (case k__law_new_name => k_is); (case a__law_step => k_is); (case l__law_step => k_is); (case c__law_step => k_is); (case k__law_step => k_is); (case a__law_owner => k_is); (case l__law_owner => k_is); (case c__law_owner => k_is); (case k__law_owner => k_is); (case a__law_store => k_is); (case l__law_store => k_is); (case c__law_store => k_is); (case k__law_store => k_is); (case a__law_same_entry => k_is); (case l__law_same_entry => k_is); (case c__law_same_entry => k_is); (case k__law_same_entry => k_is); (case a__law_same_line => k_is); (case l__law_same_line => k_is); (case c__law_same_line => k_is); (case k__law_same_line => k_is); (case a__law_sent => k_is); (case l__law_sent => k_is); (case c__law_sent => k_is); (case k__law_sent => k_is); (case a__law_refused => k_is); (case l__law_refused => k_is); (case c__law_refused => k_is); (case k__law_refused => k_is); (case a__law_taken => k_is); (case l__law_taken => k_is); (case c__law_taken => k_is); (case k__law_taken => k_is); (case a__law_turned => k_is); (case l__law_turned => k_is); (case c__law_turned => k_is); (case k__law_turned => k_is); (case a__law_deed => k_is); (case l__law_deed => k_is); (case c__law_deed => k_is); (case k__law_deed => k_is); (case a__law_new_model => k_is); (case l__law_new_model => k_is); (case c__law_new_model => k_is); (case k__law_new_model => k_is); (case a_law => k_is); (case l_law => k_is); (case c_law => k_is); (case k_law => k_is); (case aC_Entry => k_is); (case pg_Entry => k_is); (case hd_Entry => k_is); (case po_Entry => k_is); (case sa_Entry => k_is); (case mk_Entry => k_is); (case kc_Entry => k_is); (case nf_Entry => k_is); (case ih_Entry => k_is); (case ig_Entry => k_is); (case it_Entry => k_is); (case io_Entry => k_is); (case ik_Entry => first | exact rfl | decide +kernel | k_is); (case nA_Entry_answer => k_is); (case nA_Entry_owner => k_is); (case nA_Entry_question => k_is); (case nA_Entry_ticket => k_is); (case nA_Entry_who => k_is); (case nA_Entry_word => k_is); (case a_Entry___init__ => k_is); (case i_Entry___init__ => k_is); (case n_Entry___init__ => k_is); (case l_Entry___init__ => k_is); (case c_Entry___init__ => k_is); (case k_Entry___init__ => k_is); (case aC_Line => k_is); (case pg_Line => k_is); (case hd_Line => k_is); (case po_Line => k_is); (case sa_Line => k_is); (case mk_Line => k_is); (case kc_Line => k_is); (case nf_Line => k_is); (case ih_Line => k_is); (case ig_Line => k_is); (case it_Line => k_is); (case io_Line => k_is); (case ik_Line => first | exact rfl | decide +kernel | k_is); (case nA_Line__edition => k_is); (case nA_Line__entries => k_is); (case nA_Line__far => k_is); (case nA_Line__room => k_is); (case nA_Line__tickets => k_is); (case a_Line___init__ => k_is); (case i_Line___init__ => k_is); (case n_Line___init__ => k_is); (case l_Line___init__ => k_is); (case c_Line___init__ => k_is); (case k_Line___init__ => k_is); (case a_Line_edition => k_is); (case ge_Line_edition => k_is); (case ta_Line_edition => k_is); (case re1_Line_edition => k_is); (case l_Line_edition => k_is); (case c_Line_edition => k_is); (case k_Line_edition => k_is); (case a_Line_send => k_is); (case i_Line_send => k_is); (case n_Line_send => k_is); (case l_Line_send => k_is); (case c_Line_send => k_is); (case k_Line_send => k_is); (case a_Line_take => k_is); (case i_Line_take => k_is); (case n_Line_take => k_is); (case l_Line_take => k_is); (case c_Line_take => k_is); (case k_Line_take => k_is); (case a_Line_entries => k_is); (case i_Line_entries => k_is); (case n_Line_entries => k_is); (case l_Line_entries => k_is); (case c_Line_entries => k_is); (case k_Line_entries => k_is); (case a_Line_turn => k_is); (case i_Line_turn => k_is); (case n_Line_turn => k_is); (case l_Line_turn => k_is); (case c_Line_turn => k_is); (case k_Line_turn => k_is); (case a_Line_has_next => k_is); (case i_Line_has_next => k_is); (case n_Line_has_next => k_is); (case l_Line_has_next => k_is); (case c_Line_has_next => k_is); (case k_Line_has_next => k_is); (case a_Line_copy => k_is); (case i_Line_copy => k_is); (case n_Line_copy => k_is); (case l_Line_copy => k_is); (case c_Line_copy => k_is); (case k_Line_copy => k_is); (case aC_ScreenError => k_is); (case hd_ScreenError => k_is); (case ty_ScreenError => k_is); (case be_ScreenError => k_is); (case vb_ScreenError => k_is); (case aC_BadFence => k_is); (case hd_BadFence => k_is); (case ty_BadFence => k_is); (case be_BadFence => k_is); (case vb_BadFence => k_is); (case lx_BadFence => k_is); (case rv_BadFence => decide +kernel); (case sa_BadFence => k_is); (case kc_BadFence => k_is); (case ga_BadFence => k_is); (case gg_BadFence => k_is); (case ca_BadFence => k_is); (case cg_BadFence => k_is); (case ck_BadFence => k_is); (case mo_BadFence => k_is); (case iC_BadFence => k_is); (case tI_BadFence => k_is); (case l_BadFence___init__ => k_is); (case c_BadFence___init__ => k_is); (case k_BadFence___init__ => k_is); (case ss_BadFence => k_is); (case nf_BadFence_fence => k_is); (case aC_NoAnswer => k_is); (case hd_NoAnswer => k_is); (case ty_NoAnswer => k_is); (case be_NoAnswer => k_is); (case vb_NoAnswer => k_is); (case lx_NoAnswer => k_is); (case rv_NoAnswer => decide +kernel); (case sa_NoAnswer => k_is); (case kc_NoAnswer => k_is); (case ga_NoAnswer => k_is); (case gg_NoAnswer => k_is); (case ca_NoAnswer => k_is); (case cg_NoAnswer => k_is); (case ck_NoAnswer => k_is); (case mo_NoAnswer => k_is); (case iC_NoAnswer => k_is); (case tI_NoAnswer => k_is); (case l_NoAnswer___init__ => k_is); (case c_NoAnswer___init__ => k_is); (case k_NoAnswer___init__ => k_is); (case ss_NoAnswer => k_is); (case nf_NoAnswer_number => k_is); (case ne_BadFence_ScreenError => decide +kernel); (case s_BadFence_ScreenError => k_is); (case ne_BadFence_NoAnswer => decide +kernel); (case s_BadFence_NoAnswer => k_is); (case ne_NoAnswer_ScreenError => decide +kernel); (case s_NoAnswer_ScreenError => k_is); (case ne_NoAnswer_BadFence => decide +kernel); (case s_NoAnswer_BadFence => k_is); (case z_ValueError => k_is); (case z_abs => k_is); (case z_bool => k_is); (case z_enumerate => k_is); (case z_int => k_is); (case z_isinstance => k_is); (case z_len => k_is); (case z_list => k_is); (case z_range => k_is); (case z_tuple => k_is); (case z_zip => k_is)

