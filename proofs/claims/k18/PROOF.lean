import PyProof.Rows.All
import Wide.All
import OpenK.AllK
import Wide.FinOn
import PyProof.Rows.IntBool
import HandS.ForMost
import HandS.IsInst
import HandS.TupAny
import HandS.Conv
import HandS.More
import HandS.Style
import HandS.Property
import HandS.Star
import HandS.DictComp
import HandS.RaiseMore
import HandS.SetFor
import HandS.SlotsOwn
import HandS.Codes
import KE.GoesEnum
import HandS.Deep
import HandS.Strs
import HandS.ReCall
import HandS.Zip
import HandS.Flow
import HandS.ForExc
import HandS.ExcInit
import HandS.ExcField
import HandS.ExcIs
import KE.KExcIs
import HandS.OwnIter
import HandS.IterNext
import HandS.HotCalls
import HandS.ExcInitHot
import HandS.WordsExc
import PyProof.ReprRoads
import PyProof.ReprBulk
import PyProof.P3Eq
import HandS.IterVal
import HandS.SetKeys
import PySem.Challenge.RW_drawnanew_k18_whole_points
set_option Elab.async false
set_option linter.all false
set_option maxRecDepth 100000
set_option maxHeartbeats 4000000
namespace D
open PySem PySem.Spec PyProof.Rows L2

/-! ### rules that the layer lacks -/
def bI (b : Bool) : Int := if b = true then 1 else 0
theorem op_mul_ib {X : Cx} : OpR X (binaryOp .Mult) (fun x y H Q => ∃ i k, x = .int i ∧ y = .bl k ∧ Q (.int (i * bI k)) H) := by
  intro pins s σ H x y v u Q I rx ry h
  obtain ⟨i, k, rfl, rfl, q⟩ := h
  obtain ⟨t, rfl⟩ := rx
  cases ry
  exact PySem.IntBool.mul_int_bool ⟨.int (i * bI k), H, I.tok _, ⟨_, rfl⟩, q⟩

/-! ### heaps: M the addresses that may be written -/
abbrev Ms := Addr → Prop
def Sx (M : Ms) (H H' : Hp) : Prop := ∀ a o, ¬ M a → H a = some o → H' a = some o
def one (b : Addr) : Ms := fun a => a = b
def also (M : Ms) (b : Addr) : Ms := fun a => M a ∨ a = b
/-- what may be written stands -/
def Mk (M : Ms) (H : Hp) : Prop := ∀ a, M a → H a ≠ none
theorem Sx.refl {M : Ms} {H : Hp} : Sx M H H := fun _ _ _ h => h
theorem Sx.trans {M : Ms} {H H1 H2 : Hp} (a : Sx M H H1) (b : Sx M H1 H2) : Sx M H H2 := fun c o n h => b c o n (a c o n h)
theorem Sx.le {M N : Ms} {H H' : Hp} (s : Sx M H H') (h : ∀ a, M a → N a) : Sx N H H' := fun a o n e => s a o (fun m => n (h a m)) e
theorem Sx.same {M : Ms} {H H' : Hp} (s : Same H H') : Sx M H H' := fun a o _ e => s a o e
theorem Sx.new {M : Ms} {H : Hp} {p : Addr} {o : HO} (h : H p = none) : Sx M H (upd H p o) := fun a u _ e => by
  rw [upd_ne (ne_of_none e h)]
  exact e
theorem Sx.put {M : Ms} {H : Hp} {p : Addr} {o : HO} (h : M p) : Sx M H (upd H p o) := fun a u n e => by
  rw [upd_ne (fun z => n (by rw [z]; exact h))]
  exact e
theorem same_new {H : Hp} {p : Addr} {o : HO} (h : H p = none) : Same H (upd H p o) := fun a u e => by
  rw [upd_ne (ne_of_none e h)]
  exact e
theorem Mk.step {M : Ms} {H H' : Hp} (m : Mk M H) (h : ∀ a, H a ≠ none → H' a ≠ none) : Mk M H' := fun a z => h a (m a z)
theorem there_new {H : Hp} {p a : Addr} {o : HO} (h : H a ≠ none) : upd H p o a ≠ none := by
  by_cases e : a = p
  · subst e
    rw [upd_same]
    exact fun z => nomatch z
  · rw [upd_ne e]
    exact h
/-- nothing goes -/
def Gr (H H' : Hp) : Prop := ∀ a, H a ≠ none → H' a ≠ none
theorem Gr.refl {H : Hp} : Gr H H := fun _ h => h
theorem Gr.trans {H H1 H2 : Hp} (a : Gr H H1) (b : Gr H1 H2) : Gr H H2 := fun c h => b c (a c h)
theorem Gr.upd {H : Hp} {p : Addr} {o : HO} : Gr H (upd H p o) := fun _ h => there_new h
theorem Gr.same {H H' : Hp} (s : Same H H') : Gr H H' := fun a h => by
  cases e : H a with
  | none => exact absurd e h
  | some o =>
    rw [s a o e]
    exact fun z => nomatch z
theorem Mk.gr {M : Ms} {H H' : Hp} (m : Mk M H) (g : Gr H H') : Mk M H' := fun a z => g a (m a z)
theorem Mk.out {M : Ms} {H : Hp} {p : Addr} (m : Mk M H) (h : H p = none) : ¬ M p := fun z => m p z h
theorem Mk.also {M : Ms} {H : Hp} {p : Addr} (m : Mk M H) (h : H p ≠ none) : Mk (also M p) H := fun a z => by
  rcases z with z | rfl
  · exact m a z
  · exact h
theorem ne_none {H : Hp} {p : Addr} {o : HO} (h : H p = some o) : H p ≠ none := by
  rw [h]
  exact fun z => nomatch z
theorem upd_there {H : Hp} {p : Addr} {o : HO} : upd H p o p ≠ none := by
  rw [upd_same]
  exact fun z => nomatch z

/-! ### lists and tuples that are read -/
theorem sx_rd {M : Ms} {H H' : Hp} {a : Addr} {u : HO} (s : Sx M H H') (n : ¬ M a) (h : Rd H a u) : Rd H' a u := by
  rcases h with h | ⟨o, h⟩
  · exact .inl (s a _ n h)
  · exact .inr ⟨o, s a _ n h⟩
theorem sx_l {K : PySem.W.Frag} {M : Ms} {H H' : Hp} {a : Addr} {xs : List V} (s : Sx M H H') (n : ¬ M a) (h : SqL K H a xs) : SqL K H' a xs := by
  rcases h with h | h
  · exact .inl (sx_rd s n h)
  · exact .inr h
theorem sx_t {K : PySem.W.Frag} {M : Ms} {H H' : Hp} {a : Addr} {xs : List V} (s : Sx M H H') (n : ¬ M a) (h : SqT K H a xs) : SqT K H' a xs := by
  rcases h with h | h
  · exact .inl (sx_rd s n h)
  · exact .inr h

/-! ### data -/
/-- a tuple that stands -/
inductive RdT (H : Hp) (a : Addr) (xs : List V) : Prop
  | inl (h : H a = some (.tup xs))
theorem RdT.rd {H : Hp} {a : Addr} {xs : List V} (h : RdT H a xs) : Rd H a (.tup xs) := h.casesOn fun h => .inl h
theorem RdT.at {H : Hp} {a : Addr} {xs : List V} (h : RdT H a xs) : H a = some (.tup xs) := h.casesOn fun h => h
theorem sx_rt {M : Ms} {H H' : Hp} {a : Addr} {u : List V} (s : Sx M H H') (n : ¬ M a) (h : RdT H a u) : RdT H' a u := .inl (s a _ n h.at)
mutual
inductive Rp (M : Ms) (H : Hp) : V → PyData → Prop
  | non : Rp M H .non .none
  | bl (b : Bool) : Rp M H (.bl b) (.bool b)
  | int (i : Int) : Rp M H (.int i) (.int i)
  | str (x : Str) : Rp M H (.str x) (.str x)
  | lst {a : Addr} {xs : List V} {ds : List PyData} : ¬ M a → Rd H a (.lst xs) → RpAll M H xs ds → Rp M H (.ref a) (.list ds)
  | tup {a : Addr} {xs : List V} {ds : List PyData} : ¬ M a → RdT H a xs → RpAll M H xs ds → Rp M H (.ref a) (.tuple ds)
inductive RpAll (M : Ms) (H : Hp) : List V → List PyData → Prop
  | nil : RpAll M H [] []
  | cons {v : V} {vs : List V} {d : PyData} {ds : List PyData} : Rp M H v d → RpAll M H vs ds → RpAll M H (v :: vs) (d :: ds)
end
section
variable {K : PySem.W.Frag} {M N : Ms} {H H' : Hp}
mutual
theorem Rp.imp (f : ∀ a u, ¬ M a → Rd H a u → ¬ N a) (fl : ∀ a u, ¬ M a → Rd H a u → Rd H' a u) (ft : ∀ a xs, ¬ M a → RdT H a xs → RdT H' a xs) : ∀ (d : PyData) (v : V), Rp M H v d → Rp N H' v d
  | .none, _, h => by cases h; exact .non
  | .bool b, _, h => by cases h; exact .bl b
  | .int i, _, h => by cases h; exact .int i
  | .str x, _, h => by cases h; exact .str x
  | .list ds, _, h => by
    cases h with
    | lst n s r => exact .lst (f _ _ n s) (fl _ _ n s) (RpAll.imp f fl ft ds _ r)
  | .tuple ds, _, h => by
    cases h with
    | tup n s r => exact .tup (f _ _ n s.rd) (ft _ _ n s) (RpAll.imp f fl ft ds _ r)
  | .dict _, _, h => by cases h
theorem RpAll.imp (f : ∀ a u, ¬ M a → Rd H a u → ¬ N a) (fl : ∀ a u, ¬ M a → Rd H a u → Rd H' a u) (ft : ∀ a xs, ¬ M a → RdT H a xs → RdT H' a xs) : ∀ (ds : List PyData) (vs : List V), RpAll M H vs ds → RpAll N H' vs ds
  | [], _, h => by cases h; exact .nil
  | d :: ds, _, h => by
    cases h with
    | cons h1 h2 => exact .cons (Rp.imp f fl ft d _ h1) (RpAll.imp f fl ft ds _ h2)
end
theorem Rp.sx {v : V} {d : PyData} (s : Sx M H H') (h : Rp M H v d) : Rp M H' v d := Rp.imp (fun _ _ n _ => n) (fun _ _ n q => sx_rd s n q) (fun _ _ n q => sx_rt s n q) d v h
theorem RpAll.sx {vs : List V} {ds : List PyData} (s : Sx M H H') (h : RpAll M H vs ds) : RpAll M H' vs ds := RpAll.imp (fun _ _ n _ => n) (fun _ _ n q => sx_rd s n q) (fun _ _ n q => sx_rt s n q) ds vs h
/-- fewer that may be written -/
theorem Rp.less {v : V} {d : PyData} (f : ∀ a, N a → M a) (h : Rp M H v d) : Rp N H v d := Rp.imp (fun a _ n _ m => n (f a m)) (fun _ _ _ q => q) (fun _ _ _ q => q) d v h
theorem RpAll.less {vs : List V} {ds : List PyData} (f : ∀ a, N a → M a) (h : RpAll M H vs ds) : RpAll N H vs ds := RpAll.imp (fun a _ n _ m => n (f a m)) (fun _ _ _ q => q) (fun _ _ _ q => q) ds vs h

/-- an address that no datum reads: nothing stands there -/
theorem sql_kept {a p : Addr} {xs : List V} {o : HO} (h : SqL K H a xs) (n : H p = none) : SqL K (upd H p o) a xs := sx_l (M := fun _ => False) (Sx.new n) (fun z => z) h
theorem sqt_kept {a p : Addr} {xs : List V} {o : HO} (h : SqT K H a xs) (n : H p = none) : SqT K (upd H p o) a xs := sx_t (M := fun _ => False) (Sx.new n) (fun z => z) h

mutual
theorem Rp.dp : ∀ (d : PyData) (v : V), Rp M H v d → Dp K H v d
  | .none, _, h => by cases h; exact .non
  | .bool b, _, h => by cases h; exact .bl b
  | .int i, _, h => by cases h; exact .int i
  | .str x, _, h => by cases h; exact .str x
  | .list ds, _, h => by
    cases h with
    | lst n s r => exact .lst (.inl s) (RpAll.dp ds _ r)
  | .tuple ds, _, h => by
    cases h with
    | tup n s r => exact .tup (.inl s.rd) (RpAll.dp ds _ r)
  | .dict _, _, h => by cases h
theorem RpAll.dp : ∀ (ds : List PyData) (vs : List V), RpAll M H vs ds → DpAll K H vs ds
  | [], _, h => by cases h; exact .nil
  | d :: ds, _, h => by
    cases h with
    | cons h1 h2 => exact .cons (Rp.dp d _ h1) (RpAll.dp ds _ h2)
end
theorem RpAll.length : ∀ {ds : List PyData} {vs : List V}, RpAll M H vs ds → vs.length = ds.length
  | [], _, h => by cases h; rfl
  | d :: ds, _, h => by
    cases h with
    | cons _ h2 =>
      rw [List.length_cons, List.length_cons, RpAll.length h2]
theorem RpAll.get : ∀ {ds : List PyData} {vs : List V} {i : Nat} {v : V}, RpAll M H vs ds → vs[i]? = some v → ∃ d, ds[i]? = some d ∧ Rp M H v d
  | [], _, i, v, h, e => by cases h; simp at e
  | d :: ds, _, 0, v, h, e => by
    cases h with
    | cons h1 _ =>
      have e1 := Option.some.inj e
      subst e1
      exact ⟨d, rfl, h1⟩
  | d :: ds, _, i + 1, v, h, e => by
    cases h with
    | cons _ h2 => exact RpAll.get (i := i) h2 e
theorem RpAll.getD : ∀ {ds : List PyData} {vs : List V} {i : Nat} {d : PyData}, RpAll M H vs ds → ds[i]? = some d → ∃ v, vs[i]? = some v ∧ Rp M H v d
  | [], _, i, v, h, e => by simp at e
  | d :: ds, _, 0, v, h, e => by
    cases h with
    | cons h1 _ =>
      have e1 := Option.some.inj e
      subst e1
      exact ⟨_, rfl, h1⟩
  | d :: ds, _, i + 1, v, h, e => by
    cases h with
    | cons _ h2 => exact RpAll.getD (i := i) h2 e
theorem RpAll.append : ∀ {ds es : List PyData} {vs us : List V}, RpAll M H vs ds → RpAll M H us es → RpAll M H (vs ++ us) (ds ++ es)
  | [], _, _, _, h, g => by cases h; exact g
  | d :: ds, _, _, _, h, g => by
    cases h with
    | cons h1 h2 => exact .cons h1 (RpAll.append h2 g)
theorem RpAll.take : ∀ (n : Nat) {ds : List PyData} {vs : List V}, RpAll M H vs ds → RpAll M H (vs.take n) (ds.take n)
  | 0, _, _, _ => .nil
  | n + 1, [], _, h => by cases h; exact .nil
  | n + 1, d :: ds, _, h => by
    cases h with
    | cons h1 h2 => exact .cons h1 (RpAll.take n h2)
theorem RpAll.drop : ∀ (n : Nat) {ds : List PyData} {vs : List V}, RpAll M H vs ds → RpAll M H (vs.drop n) (ds.drop n)
  | 0, _, _, h => h
  | n + 1, [], _, h => by cases h; exact .nil
  | n + 1, d :: ds, _, h => by
    cases h with
    | cons h1 h2 => exact RpAll.drop n h2
theorem RpAll.one {v : V} {d : PyData} (h : Rp M H v d) : RpAll M H [v] [d] := .cons h .nil
theorem RpAll.eraseIdx : ∀ (n : Nat) {ds : List PyData} {vs : List V}, RpAll M H vs ds → RpAll M H (vs.eraseIdx n) (ds.eraseIdx n)
  | _, [], _, h => by cases h; exact .nil
  | 0, d :: ds, _, h => by
    cases h with
    | cons h1 h2 => exact h2
  | n + 1, d :: ds, _, h => by
    cases h with
    | cons h1 h2 => exact .cons h1 (RpAll.eraseIdx n h2)
theorem RpAll.ints : ∀ (ns : List Int), RpAll M H (ns.map V.int) (ns.map PyData.int)
  | [] => .nil
  | n :: r => .cons (.int n) (RpAll.ints r)
theorem RpAll.ofInts : ∀ {ns : List Int} {vs : List V}, RpAll M H vs (ns.map PyData.int) → vs = ns.map V.int
  | [], _, h => by cases h; rfl
  | n :: r, _, h => by
    cases h with
    | cons h1 h2 =>
      cases h1
      rw [RpAll.ofInts h2]
      rfl
end

/-- a fresh address may be written from now on -/
theorem rd_ne {H : Hp} {a p : Addr} {u : HO} (h : Rd H a u) (n : H p = none) : a ≠ p := fun e => by
  subst e
  rcases h with h | ⟨o, h⟩ <;> rw [n] at h <;> cases h
theorem Rp.fresh {M : Ms} {H : Hp} {p : Addr} (hp : H p = none) : ∀ {d : PyData} {v : V}, Rp M H v d → Rp (also M p) H v d := fun {d v} h => Rp.imp (fun a u n r z => z.elim n fun e => rd_ne r hp e) (fun _ _ _ q => q) (fun _ _ _ q => q) d v h
theorem RpAll.fresh {M : Ms} {H : Hp} {p : Addr} (hp : H p = none) {ds : List PyData} {vs : List V} (h : RpAll M H vs ds) : RpAll (also M p) H vs ds := RpAll.imp (fun a u n r z => z.elim n fun e => rd_ne r hp e) (fun _ _ _ q => q) (fun _ _ _ q => q) ds vs h
theorem also_le {M : Ms} {p : Addr} : ∀ a, M a → also M p a := fun _ h => .inl h

/-! ### the bag of a script's numbers -/
structure Bag (K : PySem.W.Frag) (M : Ms) (H : Hp) (b : Addr) : Prop where
  w : M b
  h : ∃ (n : Addr) (ns : List Int) (p r t s : Int), H b = some (.lst [.ref n, .int p, .int r, .int t, .int s]) ∧ ¬ M n ∧ Rd H n (.lst (ns.map V.int)) ∧ 0 ≤ p ∧ 0 ≤ r
/-- only the object at b has changed -/
def At (b : Addr) (H H' : Hp) : Prop := ∀ a, a ≠ b → H' a = H a
theorem At.upd {b : Addr} {H : Hp} {o : HO} : At b H (upd H b o) := fun _ n => upd_ne n
theorem At.sx {b : Addr} {H H' : Hp} (h : At b H H') : Sx (one b) H H' := fun a o n e => (h a n).trans e
theorem Bag.there {K : PySem.W.Frag} {M : Ms} {H : Hp} {b : Addr} (h : Bag K M H b) : H b ≠ none := by
  obtain ⟨_, n, ns, p, r, t, s, e, _⟩ := h
  exact ne_none e
/-- other things are written, new ones made -/
theorem Bag.keep {K : PySem.W.Frag} {M N : Ms} {H H' : Hp} {b : Addr} (h : Bag K M H b) (s : Sx N H H') (nb : ¬ N b) (le : ∀ a, N a → M a) : Bag K M H' b := by
  obtain ⟨w, n, ns, p, r, t, sd, e, hn, rd, q⟩ := h
  exact ⟨w, n, ns, p, r, t, sd, s _ _ nb e, hn, sx_rd s (fun z => hn (le _ z)) rd, q⟩
theorem Bag.more {K : PySem.W.Frag} {M : Ms} {H : Hp} {b p : Addr} (h : Bag K M H b) (hp : H p = none) : Bag K (also M p) H b := by
  obtain ⟨w, n, ns, q, r, t, sd, e, hn, rd, z⟩ := h
  exact ⟨.inl w, n, ns, q, r, t, sd, e, fun m => m.elim hn fun e => rd_ne rd hp e, rd, z⟩
theorem Bag.less {K : PySem.W.Frag} {M N : Ms} {H : Hp} {b : Addr} (h : Bag K M H b) (w : N b) (f : ∀ a, N a → M a) : Bag K N H b := by
  obtain ⟨_, n, ns, q, r, t, sd, e, hn, rd, z⟩ := h
  exact ⟨w, n, ns, q, r, t, sd, e, fun m => hn (f _ m), rd, z⟩
theorem one_le {M : Ms} {b : Addr} (w : M b) : ∀ a, one b a → M a := fun a e => by
  have e' : a = b := e
  rw [e']
  exact w
/-- a draw: behind it the bag stands, all else too -/
def Dr (K : PySem.W.Frag) (M : Ms) (b : Addr) (H : Hp) (R : PyData → Prop) (Q : VK) : Prop := ∀ v H' d, Sx (one b) H H' → Gr H H' → Bag K M H' b → Rp M H' v d → R d → Q v H'
/-- a def that writes nothing -/
def Pu (M : Ms) (H : Hp) (R : PyData → Prop) (Q : VK) : Prop := ∀ v H' d, Same H H' → Rp M H' v d → R d → Q v H'

/-! ### loops that the layer has no short rule for -/
theorem for_enum {K : PySem.W.Frag} {a : Addr} {xs : List V} {g : TG} {tb : TS} {D : Ends} {σ : L2.St} {H : Hp} (Pv : Nat → L2.St → Hp → Prop) (h0 : Pv 0 σ H) (hl : ∀ i σ H, i ≤ xs.length → Pv i σ H → SqL K H a xs)
    (hs : ∀ i x T σ H, xs[i]? = some x → H T = none → Pv i σ H → g (.ref T) σ (upd H T (.tup [.int (i : Nat), x])) fun σ2 H2 => tb { D with nx := Pv (i + 1), ct := Pv (i + 1), bk := D.nx } σ2 H2) (hd : ∀ σ H, Pv xs.length σ H → D.nx σ H) :
    ∃ W : Nat → Nat → L2.St → Hp → Prop, (∃ m, W 0 m σ H) ∧ ∀ i m σ H, W i m σ H →
      ((Ite K a).stop i H ∧ D.nx σ H) ∨ ((Ite K a).go i H ∧ ∃ N : L2.St → Hp → Prop, (∀ σ' H', N σ' H' → ∃ m', m' < m ∧ W (i + 1) m' σ' H') ∧ ∀ x H', (Ite K a).yld i H x H' → g x σ H' fun σ2 H2 => tb { D with nx := N, ct := N, bk := D.nx } σ2 H2) := by
  refine ⟨fun i m σ H => m = xs.length - i ∧ i ≤ xs.length ∧ Pv i σ H, ⟨xs.length, by simp, Nat.zero_le _, h0⟩, ?_⟩
  rintro i m σ H ⟨rfl, hi, p⟩
  have q := hl i σ H hi p
  by_cases hlt : i < xs.length
  · refine .inr ⟨⟨xs, xs[i], q, by simp [hlt]⟩, Pv (i + 1), fun σ' H' p' => ⟨xs.length - (i + 1), by omega, rfl, hlt, p'⟩, fun x H' y => ?_⟩
    obtain ⟨T, z, rfl, hT, rfl, hz⟩ := y
    exact hs i z T σ _ (hz xs q) hT p
  · have e : i = xs.length := by omega
    subst e
    exact .inl ⟨⟨xs, q, Nat.le_refl _⟩, hd σ H p⟩

theorem seqIx {j n : Nat} (h : j < n) : seqIndex? (j : Int) n = some j := by
  unfold seqIndex?
  have h1 : ¬ ((j : Int) < 0) := by omega
  have h2 : (0 : Int) ≤ (j : Int) := by omega
  have h3 : (j : Int) < (n : Int) := by omega
  simp only [if_neg h1, decide_eq_true h2, decide_eq_true h3, Bool.and_self, if_true, Int.toNat_natCast]
theorem small1000000 {n : Nat} (h : n ≤ 1000000) : n < sizeLine := Nat.lt_of_le_of_lt h (by decide)
theorem At.gr {b : Addr} {H H' : Hp} (h : At b H H') (hb : H' b ≠ none) : Gr H H' := fun a n => by
  by_cases e : a = b
  · rw [e]
    exact hb
  · rw [h a e]
    exact n

/-- what did not stand needs no leave -/
theorem Sx.cut {M : Ms} {H H' : Hp} {p : Addr} (s : Sx (also M p) H H') (n : H p = none) : Sx M H H' := fun a o m e => s a o (fun z => z.elim m fun z => by
  rw [z, n] at e
  cases e) e

theorem str_len (x y : Str) : (x ++ y).length = x.length + y.length := by
  show (x.cps ++ y.cps).size = _
  rw [Array.size_append]
  rfl

theorem log2_10 {v : Int} (h0 : 0 ≤ v) (h1 : v < 10) : v.natAbs.log2 < 1920 := Nat.lt_of_le_of_lt (Nat.log2_le_self _) (by omega)
theorem dig_len {v : Int} (h0 : 0 ≤ v) (h1 : v < 10) : (Str.ofString (toString v)).length = 1 := by
  have h : v = 0 ∨ v = 1 ∨ v = 2 ∨ v = 3 ∨ v = 4 ∨ v = 5 ∨ v = 6 ∨ v = 7 ∨ v = 8 ∨ v = 9 := by omega
  rcases h with rfl | rfl | rfl | rfl | rfl | rfl | rfl | rfl | rfl | rfl <;> decide +kernel
def isLab : V → Bool
  | .str z => decide (z.length ≤ 30)
  | _ => false
theorem lab_all (xs : List V) (h : xs.all isLab = true) : ∀ v ∈ xs, ∃ z : Str, v = V.str z ∧ z.length ≤ 30 := fun v hv => by
  have h1 := List.all_eq_true.mp h v hv
  cases v with
  | str z => exact ⟨z, rfl, of_decide_eq_true h1⟩
  | _ => cases h1

theorem sz2 {x y : V} : [x, y].length ≤ sizeLine := by show 2 ≤ sizeLine; decide
/-! ### sizes of nodes -/
def mx (ns : List Int) : Int := ns.foldl (fun a b => if a < b then b else a) 0
theorem foldmx : ∀ (ns : List Int) (a : Int), a ≤ ns.foldl (fun a b => if a < b then b else a) a ∧ (∀ n ∈ ns, n ≤ ns.foldl (fun a b => if a < b then b else a) a) ∧ (ns.foldl (fun a b => if a < b then b else a) a = a ∨ ns.foldl (fun a b => if a < b then b else a) a ∈ ns)
  | [], a => ⟨Int.le_refl _, (fun _ h => nomatch h), .inl rfl⟩
  | n :: r, a => by
    have ih := foldmx r (if a < n then n else a)
    simp only [List.foldl_cons]
    obtain ⟨h1, h2, h3⟩ := ih
    refine ⟨?_, fun m hm => ?_, ?_⟩
    · split at h1 <;> split <;> omega
    · rcases List.mem_cons.mp hm with rfl | hm
      · split at h1 <;> split <;> omega
      · exact h2 m hm
    · rcases h3 with h3 | h3
      · by_cases c : a < n
        · right
          rw [if_pos c] at h3 ⊢
          rw [h3]
          exact List.mem_cons_self
        · left
          rw [if_neg c] at h3 ⊢
          exact h3
      · exact .inr (List.mem_cons_of_mem _ h3)
theorem mx_of {ns : List Int} {m : Int} (h0 : ∀ n ∈ ns, 0 ≤ n) (hm : m ∈ ns) (hle : ∀ y, y ∈ ns → y ≤ m) : m = mx ns := by
  obtain ⟨h1, h2, h3⟩ := foldmx ns 0
  have a := h2 m hm
  have b := h0 m hm
  unfold mx
  rcases h3 with h3 | h3
  · omega
  · have c := hle _ h3
    omega
theorem mx_take {ns : List Int} {i : Nat} {z : Int} (h : ns[i]? = some z) : mx (ns.take (i + 1)) = if mx (ns.take i) < z then z else mx (ns.take i) := by
  unfold mx
  rw [List.take_add_one, h, List.foldl_append]
  rfl
def sRow : Str := "row"
def sCol : Str := "col"
def szf (z : Str) (ps : List (Int × Int)) : Int × Int :=
  if ps = [] then (if z = sRow ∨ z = sCol then (0, 0) else ((z.length : Int), 1))
  else if z = sRow then ((ps.map (·.1)).sum, mx (ps.map (·.2))) else (mx (ps.map (·.1)), (ps.map (·.2)).sum)
/-- pairs -/
def pD (p : Int × Int) : PyData := .tuple [.int p.1, .int p.2]
theorem Rp.pair {M : Ms} {H : Hp} {v : V} {p : Int × Int} (h : Rp M H v (pD p)) : ∃ t, v = .ref t ∧ Rd H t (.tup [.int p.1, .int p.2]) := by
  cases h with
  | @tup a xs _ n s r =>
    cases r with
    | cons h1 h2 =>
      cases h2 with
      | cons h3 h4 =>
        cases h1
        cases h3
        cases h4
        exact ⟨a, rfl, s.rd⟩
theorem RpAll.pair {M : Ms} {H : Hp} {vs : List V} {ps : List (Int × Int)} {i : Nat} {v : V} (h : RpAll M H vs (ps.map pD)) (hv : vs[i]? = some v) : ∃ p t, ps[i]? = some p ∧ v = .ref t ∧ Rd H t (.tup [.int p.1, .int p.2]) := by
  obtain ⟨d, hd, hr⟩ := h.get hv
  rw [List.getElem?_map] at hd
  obtain ⟨p, hp, rfl⟩ := Option.map_eq_some_iff.mp hd
  obtain ⟨t, e, r⟩ := hr.pair
  exact ⟨p, t, hp, e, r⟩
theorem same_rd {H H' : Hp} {a : Addr} {u : HO} (s : Same H H') (h : Rd H a u) : Rd H' a u := sx_rd (M := fun _ => False) (Sx.same s) (fun z => z) h

/-! ### the layer's rules with the written part named, for comprehensions -/
section
variable {X : Cx} {K : PySem.W.Frag}
theorem ix_listK (h : X.K = K) : IxR X (rIxL K) := by subst h; exact ix_list
theorem ix_tupK (h : X.K = K) : IxR X (rIxT K) := by subst h; exact ix_tup
theorem sl_listK (h : X.K = K) : SlR X (rSlL K) := by subst h; exact sl_list
theorem sl_tupK (h : X.K = K) : SlR X (rSlA K) := by subst h; exact sl_tupA
theorem op_in_seqK (h : X.K = K) : OpR X (compareOp .In) (rIn K false) := by subst h; exact op_in_seq
theorem op_notIn_seqK (h : X.K = K) : OpR X (compareOp .NotIn) (rIn K true) := by subst h; exact op_notIn_seq
theorem op_catAK (h : X.K = K) : OpR X (binaryOp .Add) (rCatA K) := by subst h; exact op_catA
theorem op_eqDK (h : X.K = K) (hu : X.A.units + 64 < cLine) : OpR X (compareOp .Eq) (rEqD K) := by subst h; exact op_eqD hu
theorem op_neDK (h : X.K = K) (hu : X.A.units + 64 < cLine) : OpR X (compareOp .NotEq) (rNeD K) := by subst h; exact op_neD hu
def rLenS (K : PySem.W.Frag) : List V → Hp → VK → Prop := fun xs H Q => ∃ p ys, xs = [.ref p] ∧ (SqL K H p ys ∨ SqT K H p ys) ∧ Q (.int ys.length) H
theorem call_lenK (h : X.K = K) : CallR X (.builtin "len") (rLenS K) := by subst h; exact call_len_seq
def rListS (K : PySem.W.Frag) : List V → Hp → VK → Prop := fun xs H Q => ∃ p ys, xs = [.ref p] ∧ (SqL K H p ys ∨ SqT K H p ys) ∧ ∀ l, H l = none → Q (.ref l) (upd H l (.lst ys))
theorem call_listK (h : X.K = K) : CallR X (.type "list") (rListS K) := by subst h; exact call_list_of
def rTupS (K : PySem.W.Frag) : List V → Hp → VK → Prop := fun xs H Q => ∃ p ys, xs = [.ref p] ∧ ((SqL K H p ys ∧ ∀ l, H l = none → Q (.ref l) (upd H l (.tup ys))) ∨ (SqT K H p ys ∧ Q (.ref p) H))
theorem call_tupleK (h : X.K = K) : CallR X (.type "tuple") (rTupS K) := by subst h; exact call_tuple_of
theorem cr_sumK (h : X.K = K) (hc : X.calm = true) : CallR X (.builtin "sum") (rSum K) := by subst h; exact cr_sum hc
theorem cr_maxK (h : X.K = K) (hc : X.calm = true) : CallR X (.builtin "max") (rMax K) := by subst h; exact cr_max hc
theorem cr_minK (h : X.K = K) (hc : X.calm = true) : CallR X (.builtin "min") (rMin K) := by subst h; exact cr_min hc
theorem cr_anyK (h : X.K = K) (hc : X.calm = true) : CallR X (.builtin "any") (rAny K) := by subst h; exact cr_any hc
theorem cr_allK (h : X.K = K) (hc : X.calm = true) : CallR X (.builtin "all") (rAll K) := by subst h; exact cr_all hc
theorem call_isi1K (h : X.K = K) : CallR X (.builtin "isinstance") (rIsi K) := by subst h; exact call_isi
theorem call_isiTK (h : X.K = K) : CallR X (.builtin "isinstance") (rIsiT K) := by subst h; exact call_isiT
def tTruth (K : PySem.W.Frag) (ta : TE) : TT := fun σ H Q => ta σ H fun x H' => ∃ k, TruV K x H' k ∧ Q k H'
theorem pt_truthK {a : Expr} {ta : TE} (h : X.K = K) (ha : PE X a ta) (he : ∀ whole, isTrue a X.env whole = (do let v ← whole; standAt a.pos; holding [v] (truthy v))) : PT X a (tTruth K ta) := by subst h; exact pt_truth ha he
theorem pe_fldK {e : Expr} {f : Str} {pos : Pos} {ta : TE} (h : X.K = K) (he : PE X e ta) (hb : attributeBase e f X.env (eval e X.env) = eval e X.env) : PE X (.Attribute e f pos) (tFld K ta f) := by subst h; exact pe_fld he hb
theorem pi_listK {tg l : Expr} {tl : TE} (h : X.K = K) (hl : PE X l tl) : PI X tg l (iList K tl) := by subst h; exact pi_list hl
theorem pi_tupK {tg l : Expr} {tl : TE} (h : X.K = K) (hl : PE X l tl) : PI X tg l (iTup K tl) := by subst h; exact pi_tup hl
theorem pg_tupK {es : List Expr} {k : Nat} {t : TGs} {n : Nat} {pos : Pos} (hK : X.K = K) (hc : X.calm = true) (h : PGs X es t)
    (hn : (assignEach es X.env).length = n := by rfl) (hst : (assignEach es X.env).findIdx? (·.1) = none := by rfl) : PG X (.Tuple es k pos) (gTup K n t) := by subst hK; exact pg_tup hc h hn hst
theorem pi_enumK {e : Expr} {ta : TA} {p pos tpos : Pos} {elts : List Expr} {kk : Nat} (hK : X.K = K) (hg : Gl X "enumerate") (hm : X.mg "enumerate" = none) (ha : PA X [e] ta) (hs : starEach [e] X.env = [(false, eval e X.env)] := by rfl) :
    PI X (.Tuple elts kk tpos) (.Call (.Name "enumerate" p) [e] [] pos) (iEnum K ta) := by subst hK; exact pi_enum hg hm ha hs
theorem pi_zipK {e e2 : Expr} {ta : TA} {p pos tpos : Pos} {elts : List Expr} {kk : Nat} (hK : X.K = K) (hg : Gl X "zip") (hm : X.mg "zip" = none) (ha : PA X [e, e2] ta)
    (hs : starEach [e, e2] X.env = (false, eval e X.env) :: starEach [e2] X.env := by rfl) (hpl : (backTo pos (starEach [e2] X.env)).any (·.1) = false := by rfl) :
    PI X (.Tuple elts kk tpos) (.Call (.Name "zip" p) [e, e2] [] pos) (iZip K ta) := by subst hK; exact pi_zip hg hm ha hs hpl
end

/-- a comprehension over a list whose elements make nothing -/
theorem lc_vals {K : PySem.W.Frag} {a : Addr} {xs ys : List V} {g : TG} {tt : TT} {te : TE} {vs : List Nat} {σ : L2.St} {H : Hp} {D : Addr} {Qd : Hp → Prop} (hD : H D = none) (hS : SqL K H a xs) (hn : ys.length = xs.length) (hz : xs.length ≤ 1000000)
    (hs : ∀ (i : Nat) (x y : V) (H' : Hp) (C : VK) (N : Hp → Prop), xs[i]? = some x → ys[i]? = some y → Same H H' → C y H' → g x (wipe σ vs) H' fun σ2 H2 => wipe σ2 vs = wipe σ vs ∧ tt σ2 H2 fun b H3 => if b = true then te σ2 H3 C else N H3)
    (hd : ∀ H', Same H H' → H' D = some (.lst ys) → Qd H') :
    ∃ W : Nat → Nat → Hp → Prop, (∃ m, W 0 m (upd H D (.lst []))) ∧ ∀ i m H, W i m H →
      ((Itl K a).stop i H ∧ Qd H) ∨ ((Itl K a).go i H ∧ ∃ Nx : Hp → Prop, (∀ H', Nx H' → ∃ m', m' < m ∧ W (i + 1) m' H') ∧ ∀ x H', (Itl K a).yld i H x H' → g x (wipe σ vs) H' fun σ2 H2 => wipe σ2 vs = wipe σ vs ∧ tt σ2 H2 fun b H3 =>
        if b = true then te σ2 H3 fun y H4 => ∃ acc, H4 D = some (.lst acc) ∧ acc.length < sizeLine ∧ Nx (upd H4 D (.lst (acc ++ [y]))) else Nx H3) := by
  refine lc_list (K := K) (a := a) (xs := xs) (fun i H' => Same H H' ∧ H' D = some (.lst (ys.take i))) ⟨same_new hD, by rw [upd_same]; rfl⟩ (fun i H' _ p => p.1.seq hS) (fun i x H' hx p => ?_) (fun H' p => ?_)
  · have hi : i < ys.length := by
      rw [hn]
      exact (List.getElem?_eq_some_iff.mp hx).1
    refine hs i x ys[i] H' _ _ hx (List.getElem?_eq_getElem hi) p.1 ⟨_, p.2, ?_, fun c o e => ?_, ?_⟩
    · rw [List.length_take]
      exact small1000000 (by omega)
    · rw [upd_ne (ne_of_none e hD)]
      exact p.1 c o e
    · rw [upd_same, List.take_add_one, List.getElem?_eq_getElem hi]
      rfl
  · refine hd H' p.1 ?_
    have e := p.2
    rw [← hn, List.take_length] at e
    exact e
theorem same_sqt {K : PySem.W.Frag} {H H' : Hp} {a : Addr} {xs : List V} (s : Same H H') (h : SqT K H a xs) : SqT K H' a xs := sx_t (M := fun _ => False) (Sx.same s) (fun z => z) h
/-- a comprehension over a tuple whose elements make nothing -/
theorem lc_valsT {K : PySem.W.Frag} {a : Addr} {xs ys : List V} {g : TG} {tt : TT} {te : TE} {vs : List Nat} {σ : L2.St} {H : Hp} {D : Addr} {Qd : Hp → Prop} (hD : H D = none) (hS : SqT K H a xs) (hn : ys.length = xs.length) (hz : xs.length ≤ 1000000)
    (hs : ∀ (i : Nat) (x y : V) (H' : Hp) (C : VK) (N : Hp → Prop), xs[i]? = some x → ys[i]? = some y → Same H H' → C y H' → g x (wipe σ vs) H' fun σ2 H2 => wipe σ2 vs = wipe σ vs ∧ tt σ2 H2 fun b H3 => if b = true then te σ2 H3 C else N H3)
    (hd : ∀ H', Same H H' → H' D = some (.lst ys) → Qd H') :
    ∃ W : Nat → Nat → Hp → Prop, (∃ m, W 0 m (upd H D (.lst []))) ∧ ∀ i m H, W i m H →
      ((Itt K a).stop i H ∧ Qd H) ∨ ((Itt K a).go i H ∧ ∃ Nx : Hp → Prop, (∀ H', Nx H' → ∃ m', m' < m ∧ W (i + 1) m' H') ∧ ∀ x H', (Itt K a).yld i H x H' → g x (wipe σ vs) H' fun σ2 H2 => wipe σ2 vs = wipe σ vs ∧ tt σ2 H2 fun b H3 =>
        if b = true then te σ2 H3 fun y H4 => ∃ acc, H4 D = some (.lst acc) ∧ acc.length < sizeLine ∧ Nx (upd H4 D (.lst (acc ++ [y]))) else Nx H3) := by
  refine lc_tup (K := K) (a := a) (xs := xs) (fun i H' => Same H H' ∧ H' D = some (.lst (ys.take i))) ⟨same_new hD, by rw [upd_same]; rfl⟩ (fun i H' _ p => same_sqt p.1 hS) (fun i x H' hx p => ?_) (fun H' p => ?_)
  · have hi : i < ys.length := by
      rw [hn]
      exact (List.getElem?_eq_some_iff.mp hx).1
    refine hs i x ys[i] H' _ _ hx (List.getElem?_eq_getElem hi) p.1 ⟨_, p.2, ?_, fun c o e => ?_, ?_⟩
    · rw [List.length_take]
      exact small1000000 (by omega)
    · rw [upd_ne (ne_of_none e hD)]
      exact p.1 c o e
    · rw [upd_same, List.take_add_one, List.getElem?_eq_getElem hi]
      rfl
  · refine hd H' p.1 ?_
    have e := p.2
    rw [← hn, List.take_length] at e
    exact e

/-- two ways meet behind an if without else -/
theorem join2 {b : Bool} {A : Prop} {N : L2.St → Hp → Prop} {σ : L2.St} {H : Hp} (Pv : L2.St → Hp → Prop) (h1 : b = true → (∀ σ H, Pv σ H → N σ H) → A) (h2 : b = false → Pv σ H) (hN : ∀ σ H, Pv σ H → N σ H) : if b = true then A else N σ H := by
  cases b with
  | true =>
    rw [if_pos rfl]
    exact h1 rfl hN
  | false =>
    rw [if_neg Bool.false_ne_true]
    exact hN _ _ (h2 rfl)


theorem RpAll.rep {M : Ms} {H : Hp} {xs : List V} {ds : List PyData} (h : RpAll M H xs ds) : ∀ n : Nat, RpAll M H (List.replicate n xs).flatten (List.replicate n ds).flatten
  | 0 => .nil
  | n + 1 => by
    rw [List.replicate_succ, List.replicate_succ, List.flatten_cons, List.flatten_cons]
    exact h.append (RpAll.rep h n)
theorem Bag.same {K : PySem.W.Frag} {M : Ms} {H H' : Hp} {b : Addr} (h : Bag K M H b) (s : Same H H') : Bag K M H' b := h.keep (N := fun _ => False) (Sx.same s) (fun z => z) (fun _ z => z.elim)
/-- a list of data that may still be written -/
def Ld (M : Ms) (H : Hp) (a : Addr) (ds : List PyData) : Prop := ¬ M a ∧ ∃ xs, H a = some (.lst xs) ∧ RpAll M H xs ds
theorem Ld.rp {M : Ms} {H : Hp} {a : Addr} {ds : List PyData} (h : Ld M H a ds) : Rp M H (.ref a) (.list ds) := by
  obtain ⟨n, xs, e, r⟩ := h
  exact .lst n (.inl e) r
theorem Ld.sx {M : Ms} {H H' : Hp} {a : Addr} {ds : List PyData} (h : Ld M H a ds) (s : Sx M H H') : Ld M H' a ds := by
  obtain ⟨n, xs, e, r⟩ := h
  exact ⟨n, xs, s _ _ n e, r.sx s⟩
theorem Ld.new {M : Ms} {H : Hp} {a : Addr} {xs : List V} {ds : List PyData} (m : Mk M H) (h : H a = none) (r : RpAll M H xs ds) : Ld M (upd H a (.lst xs)) a ds := ⟨m.out h, xs, upd_same, r.sx (Sx.new h)⟩
/-- a comprehension over a list: each element a datum, made on the way -/
theorem lc_data {K : PySem.W.Frag} {a : Addr} {xs : List V} {ys : List PyData} {g : TG} {tt : TT} {te : TE} {vs : List Nat} {σ : L2.St} {H : Hp} {D : Addr} {Qd : Hp → Prop} (M : Ms) (hM : Mk M H) (hD : H D = none) (hS : SqL K H a xs) (hn : ys.length = xs.length) (hz : xs.length ≤ 1000000)
    (hs : ∀ (i : Nat) (x : V) (y : PyData) (H' : Hp) (C : VK) (N : Hp → Prop), xs[i]? = some x → ys[i]? = some y → Same H H' → Mk (also M D) H' → (∀ v H2, Same H' H2 → Rp (also M D) H2 v y → C v H2) → g x (wipe σ vs) H' fun σ2 H2 => wipe σ2 vs = wipe σ vs ∧ tt σ2 H2 fun b H3 => if b = true then te σ2 H3 C else N H3)
    (hd : ∀ H', Same H H' → Ld M H' D ys → Qd H') :
    ∃ W : Nat → Nat → Hp → Prop, (∃ m, W 0 m (upd H D (.lst []))) ∧ ∀ i m H, W i m H →
      ((Itl K a).stop i H ∧ Qd H) ∨ ((Itl K a).go i H ∧ ∃ Nx : Hp → Prop, (∀ H', Nx H' → ∃ m', m' < m ∧ W (i + 1) m' H') ∧ ∀ x H', (Itl K a).yld i H x H' → g x (wipe σ vs) H' fun σ2 H2 => wipe σ2 vs = wipe σ vs ∧ tt σ2 H2 fun b H3 =>
        if b = true then te σ2 H3 fun y H4 => ∃ acc, H4 D = some (.lst acc) ∧ acc.length < sizeLine ∧ Nx (upd H4 D (.lst (acc ++ [y]))) else Nx H3) := by
  refine lc_list (K := K) (a := a) (xs := xs) (fun i H' => Same H H' ∧ ∃ acc, H' D = some (.lst acc) ∧ RpAll (also M D) H' acc (ys.take i)) ⟨same_new hD, [], upd_same, by rw [List.take_zero]; exact .nil⟩ (fun i H' _ p => p.1.seq hS) (fun i x H' hx p => ?_) (fun H' p => ?_)
  · obtain ⟨s, acc, e, r⟩ := p
    have hi : i < ys.length := by
      rw [hn]
      exact (List.getElem?_eq_some_iff.mp hx).1
    have hl := r.length
    rw [List.length_take] at hl
    refine hs i x ys[i] H' _ _ hx (List.getElem?_eq_getElem hi) s ((hM.gr (Gr.same s)).also (ne_none e)) fun v H2 s2 rv => ?_
    refine ⟨acc, s2 _ _ e, small1000000 (by omega), fun c o q => ?_, acc ++ [v], upd_same, ?_⟩
    · rw [upd_ne (ne_of_none q hD)]
      exact s2 _ _ (s c o q)
    · rw [List.take_add_one, List.getElem?_eq_getElem hi]
      exact ((r.sx (Sx.same s2)).append (.one rv)).sx (Sx.put (.inr rfl))
  · obtain ⟨s, acc, e, r⟩ := p
    rw [← hn, List.take_length] at r
    exact hd H' s ⟨hM.out hD, acc, e, r.less also_le⟩

theorem cut_hi (xs : List V) (n : Nat) : cutV xs none (some (n : Int)) = xs.take n := by
  unfold cutV
  rw [show HT.sIx xs.length 0 none = 0 from HT.sIx_none .., show HT.sIx xs.length xs.length (some (n : Int)) = min n xs.length from HT.sIx_nat _ _ n, List.drop_zero, Nat.sub_zero]
  rw [List.take_eq_take_iff]
  omega

theorem szK {n : Nat} (h : Nat.ble n 1000 = true) : n ≤ sizeLine := Nat.le_of_lt (small1000 (Nat.le_of_ble_eq_true h))

/-- what holds behind a statement, said once for all its ways -/
theorem seq_join {t u : TS} {D : Ends} {σ : L2.St} {H : Hp} (Pv : L2.St → Hp → Prop) (h : (∀ σ H, Pv σ H → u D σ H) → t { D with nx := u D } σ H) (hN : ∀ σ H, Pv σ H → u D σ H) : tSeq t u D σ H := h hN

theorem lc_str {z : Str} {g : TG} {tt : TT} {te : TE} {vs : List Nat} {σ : L2.St} {H1 : Hp} {D : Addr} {Qd : Hp → Prop} (Pv : Nat → Hp → Prop) (h0 : Pv 0 (upd H1 D (.lst [])))
    (hs : ∀ i c H, z.cps[i]? = some c → Pv i H → g (.str ⟨#[c]⟩) (wipe σ vs) H fun σ2 H2 => wipe σ2 vs = wipe σ vs ∧ tt σ2 H2 fun b H3 =>
      if b = true then te σ2 H3 fun y H4 => ∃ acc, H4 D = some (.lst acc) ∧ acc.length < sizeLine ∧ Pv (i + 1) (upd H4 D (.lst (acc ++ [y]))) else Pv (i + 1) H3) (hd : ∀ H, Pv z.cps.size H → Qd H) :
    ∃ W : Nat → Nat → Hp → Prop, (∃ m, W 0 m (upd H1 D (.lst []))) ∧ ∀ i m H, W i m H →
      ((Its z).stop i H ∧ Qd H) ∨ ((Its z).go i H ∧ ∃ Nx : Hp → Prop, (∀ H', Nx H' → ∃ m', m' < m ∧ W (i + 1) m' H') ∧ ∀ x H', (Its z).yld i H x H' → g x (wipe σ vs) H' fun σ2 H2 => wipe σ2 vs = wipe σ vs ∧ tt σ2 H2 fun b H3 =>
        if b = true then te σ2 H3 fun y H4 => ∃ acc, H4 D = some (.lst acc) ∧ acc.length < sizeLine ∧ Nx (upd H4 D (.lst (acc ++ [y]))) else Nx H3) := by
  refine ⟨fun i m H => m = z.cps.size - i ∧ i ≤ z.cps.size ∧ Pv i H, ⟨_, rfl, Nat.zero_le _, h0⟩, ?_⟩
  rintro i m H ⟨rfl, hi, p⟩
  by_cases hlt : i < z.cps.size
  · refine .inr ⟨hlt, Pv (i + 1), fun H' p' => ⟨z.cps.size - (i + 1), by omega, rfl, hlt, p'⟩, fun x H' y => ?_⟩
    obtain ⟨e, c, hc, rfl⟩ := y
    subst e
    exact hs i c _ hc p
  · have e : i = z.cps.size := by omega
    subst e
    exact .inl ⟨Nat.le_refl _, hd H p⟩
/-- a comprehension over a text whose elements make nothing -/
theorem lc_valsS {z : Str} {ys : List V} {g : TG} {tt : TT} {te : TE} {vs : List Nat} {σ : L2.St} {H : Hp} {D : Addr} {Qd : Hp → Prop} (hD : H D = none) (hn : ys.length = z.cps.size) (hz : z.cps.size ≤ 1000000)
    (hs : ∀ (i : Nat) (c : Nat) (y : V) (H' : Hp) (C : VK) (N : Hp → Prop), z.cps[i]? = some c → ys[i]? = some y → Same H H' → C y H' → g (.str ⟨#[c]⟩) (wipe σ vs) H' fun σ2 H2 => wipe σ2 vs = wipe σ vs ∧ tt σ2 H2 fun b H3 => if b = true then te σ2 H3 C else N H3)
    (hd : ∀ H', Same H H' → H' D = some (.lst ys) → Qd H') :
    ∃ W : Nat → Nat → Hp → Prop, (∃ m, W 0 m (upd H D (.lst []))) ∧ ∀ i m H, W i m H →
      ((Its z).stop i H ∧ Qd H) ∨ ((Its z).go i H ∧ ∃ Nx : Hp → Prop, (∀ H', Nx H' → ∃ m', m' < m ∧ W (i + 1) m' H') ∧ ∀ x H', (Its z).yld i H x H' → g x (wipe σ vs) H' fun σ2 H2 => wipe σ2 vs = wipe σ vs ∧ tt σ2 H2 fun b H3 =>
        if b = true then te σ2 H3 fun y H4 => ∃ acc, H4 D = some (.lst acc) ∧ acc.length < sizeLine ∧ Nx (upd H4 D (.lst (acc ++ [y]))) else Nx H3) := by
  refine lc_str (z := z) (fun i H' => Same H H' ∧ H' D = some (.lst (ys.take i))) ⟨same_new hD, by rw [upd_same]; rfl⟩ (fun i c H' hc p => ?_) (fun H' p => ?_)
  · have hi : i < ys.length := by
      rw [hn]
      exact (Array.getElem?_eq_some_iff.mp hc).1
    refine hs i c ys[i] H' _ _ hc (List.getElem?_eq_getElem hi) p.1 ⟨_, p.2, ?_, fun c o e => ?_, ?_⟩
    · rw [List.length_take]
      exact small1000000 (by omega)
    · rw [upd_ne (ne_of_none e hD)]
      exact p.1 c o e
    · rw [upd_same, List.take_add_one, List.getElem?_eq_getElem hi]
      rfl
  · refine hd H' p.1 ?_
    have e := p.2
    rw [← hn, List.take_length] at e
    exact e

theorem cut1 (y : V) (r : List V) : cutV (y :: r) (some 1) none = r := by
  unfold cutV
  rw [show HT.sIx (y :: r).length 0 (some 1) = min 1 (y :: r).length from HT.sIx_nat (y :: r).length 0 1, HT.sIx_none]
  rw [show min 1 (y :: r).length = 1 by
      rw [List.length_cons]
      omega]
  show List.take ((y :: r).length - 1) r = r
  rw [List.length_cons, Nat.add_sub_cancel]
  exact List.take_length

theorem rd_ty {K : PySem.W.Frag} {H : Hp} {a : Addr} {xs : List V} (h : Rd H a (.tup xs)) : TyX K H (.ref a) (.type "tuple") := by
  rcases h with h | ⟨o, h⟩
  · exact .base (.tup h)
  · exact .fTuple h
/-- a comprehension over a tuple: each element a datum, made on the way -/
theorem lc_dataT {K : PySem.W.Frag} {a : Addr} {xs : List V} {ys : List PyData} {g : TG} {tt : TT} {te : TE} {vs : List Nat} {σ : L2.St} {H : Hp} {D : Addr} {Qd : Hp → Prop} (M : Ms) (hM : Mk M H) (hD : H D = none) (hS : SqT K H a xs) (hn : ys.length = xs.length) (hz : xs.length ≤ 1000000)
    (hs : ∀ (i : Nat) (x : V) (y : PyData) (H' : Hp) (C : VK) (N : Hp → Prop), xs[i]? = some x → ys[i]? = some y → Same H H' → Mk (also M D) H' → (∀ v H2, Same H' H2 → Rp (also M D) H2 v y → C v H2) → g x (wipe σ vs) H' fun σ2 H2 => wipe σ2 vs = wipe σ vs ∧ tt σ2 H2 fun b H3 => if b = true then te σ2 H3 C else N H3)
    (hd : ∀ H', Same H H' → Ld M H' D ys → Qd H') :
    ∃ W : Nat → Nat → Hp → Prop, (∃ m, W 0 m (upd H D (.lst []))) ∧ ∀ i m H, W i m H →
      ((Itt K a).stop i H ∧ Qd H) ∨ ((Itt K a).go i H ∧ ∃ Nx : Hp → Prop, (∀ H', Nx H' → ∃ m', m' < m ∧ W (i + 1) m' H') ∧ ∀ x H', (Itt K a).yld i H x H' → g x (wipe σ vs) H' fun σ2 H2 => wipe σ2 vs = wipe σ vs ∧ tt σ2 H2 fun b H3 =>
        if b = true then te σ2 H3 fun y H4 => ∃ acc, H4 D = some (.lst acc) ∧ acc.length < sizeLine ∧ Nx (upd H4 D (.lst (acc ++ [y]))) else Nx H3) := by
  refine lc_tup (K := K) (a := a) (xs := xs) (fun i H' => Same H H' ∧ ∃ acc, H' D = some (.lst acc) ∧ RpAll (also M D) H' acc (ys.take i)) ⟨same_new hD, [], upd_same, by rw [List.take_zero]; exact .nil⟩ (fun i H' _ p => same_sqt p.1 hS) (fun i x H' hx p => ?_) (fun H' p => ?_)
  · obtain ⟨s, acc, e, r⟩ := p
    have hi : i < ys.length := by
      rw [hn]
      exact (List.getElem?_eq_some_iff.mp hx).1
    have hl := r.length
    rw [List.length_take] at hl
    refine hs i x ys[i] H' _ _ hx (List.getElem?_eq_getElem hi) s ((hM.gr (Gr.same s)).also (ne_none e)) fun v H2 s2 rv => ?_
    refine ⟨acc, s2 _ _ e, small1000000 (by omega), fun c o q => ?_, acc ++ [v], upd_same, ?_⟩
    · rw [upd_ne (ne_of_none q hD)]
      exact s2 _ _ (s c o q)
    · rw [List.take_add_one, List.getElem?_eq_getElem hi]
      exact ((r.sx (Sx.same s2)).append (.one rv)).sx (Sx.put (.inr rfl))
  · obtain ⟨s, acc, e, r⟩ := p
    rw [← hn, List.take_length] at r
    exact hd H' s ⟨hM.out hD, acc, e, r.less also_le⟩


/-- a list that is made beside stays away -/
theorem same_put {H H' : Hp} {p : Addr} {o : HO} (s : Same H H') (h : H p = none) : Same H (upd H' p o) := fun a u e => by
  rw [upd_ne (ne_of_none e h)]
  exact s a u e
end D

namespace D
open PySem PySem.Spec PyProof.Rows L2
/-! ### forms -/
inductive Fm where
  | is (n : Int) | get (x : Str) | sum (f g : Fm) | same (f g : Fm) | pick (f g h : Fm)
def sIs : Str := "is"
def sGet : Str := "get"
def sSum : Str := "sum"
def sSame : Str := "same"
def sPick : Str := "pick"
namespace Fm
def word : Fm → Str
  | .is _ => sIs | .get _ => sGet | .sum _ _ => sSum | .same _ _ => sSame | .pick _ _ _ => sPick
def enc : Fm → PyData
  | .is n => .tuple [.str sIs, .int n]
  | .get x => .tuple [.str sGet, .str x]
  | .sum f g => .tuple [.str sSum, f.enc, g.enc]
  | .same f g => .tuple [.str sSame, f.enc, g.enc]
  | .pick f g h => .tuple [.str sPick, f.enc, g.enc, h.enc]
def subs : Fm → List Fm
  | .is _ => [] | .get _ => [] | .sum f g => [f, g] | .same f g => [f, g] | .pick f g h => [f, g, h]
def dep : Fm → Nat
  | .is _ => 1 | .get _ => 1
  | .sum f g => max f.dep g.dep + 1 | .same f g => max f.dep g.dep + 1
  | .pick f g h => max f.dep (max g.dep h.dep) + 1
def size : Fm → Nat
  | .is _ => 1 | .get _ => 1
  | .sum f g => f.size + g.size + 1 | .same f g => f.size + g.size + 1
  | .pick f g h => f.size + g.size + h.size + 1
def val (ρ : Str → Int) : Fm → Int
  | .is n => n | .get x => ρ x
  | .sum f g => (f.val ρ + g.val ρ) % 10
  | .same f g => if f.val ρ = g.val ρ then 1 else 0
  | .pick f g h => if f.val ρ = 0 then h.val ρ else g.val ρ
def ok (nm : Str → Prop) : Fm → Prop
  | .is n => 0 ≤ n ∧ n ≤ 9 | .get x => nm x
  | .sum f g => f.ok nm ∧ g.ok nm | .same f g => f.ok nm ∧ g.ok nm
  | .pick f g h => f.ok nm ∧ g.ok nm ∧ h.ok nm
theorem dep_pos : ∀ f : Fm, 1 ≤ f.dep
  | .is _ => Nat.le_refl _ | .get _ => Nat.le_refl _
  | .sum f g => by show 1 ≤ max f.dep g.dep + 1; omega
  | .same f g => by show 1 ≤ max f.dep g.dep + 1; omega
  | .pick f g h => by show 1 ≤ max f.dep (max g.dep h.dep) + 1; omega
theorem val_range {ρ : Str → Int} {nm : Str → Prop} (h : ∀ x, nm x → 0 ≤ ρ x ∧ ρ x ≤ 9) : ∀ f : Fm, f.ok nm → 0 ≤ f.val ρ ∧ f.val ρ ≤ 9
  | .is n, o => o
  | .get x, o => h x o
  | .sum f g, o => by
    show 0 ≤ (f.val ρ + g.val ρ) % 10 ∧ (f.val ρ + g.val ρ) % 10 ≤ 9
    omega
  | .same f g, o => by
    show 0 ≤ (if f.val ρ = g.val ρ then (1 : Int) else 0) ∧ (if f.val ρ = g.val ρ then (1 : Int) else 0) ≤ 9
    split <;> decide
  | .pick f g k, o => by
    show 0 ≤ (if f.val ρ = 0 then k.val ρ else g.val ρ) ∧ (if f.val ρ = 0 then k.val ρ else g.val ρ) ≤ 9
    split
    · exact val_range h k o.2.2
    · exact val_range h g o.2.1
end Fm
section
variable {M : Ms} {H : Hp} {v : V}
theorem Rp.tupN {ds : List PyData} (h : Rp M H v (.tuple ds)) : ∃ a xs, v = .ref a ∧ ¬ M a ∧ Rd H a (.tup xs) ∧ RpAll M H xs ds := by
  cases h with
  | @tup a xs _ n s r => exact ⟨a, xs, rfl, n, s.rd, r⟩
theorem Rp.tupX {ds : List PyData} (h : Rp M H v (.tuple ds)) : ∃ a xs, v = .ref a ∧ ¬ M a ∧ H a = some (.tup xs) ∧ RpAll M H xs ds := by
  cases h with
  | @tup a xs _ n s r => exact ⟨a, xs, rfl, n, s.at, r⟩
theorem Rp.lstN {ds : List PyData} (h : Rp M H v (.list ds)) : ∃ a xs, v = .ref a ∧ ¬ M a ∧ Rd H a (.lst xs) ∧ RpAll M H xs ds := by
  cases h with
  | @lst a xs _ n s r => exact ⟨a, xs, rfl, n, s, r⟩
theorem Rp.int_inv {i : Int} (h : Rp M H v (.int i)) : v = .int i := by cases h; rfl
theorem Rp.str_inv {x : Str} (h : Rp M H v (.str x)) : v = .str x := by cases h; rfl
theorem RpAll.inv1 {xs : List V} {d1 : PyData} (h : RpAll M H xs [d1]) : ∃ v1, xs = [v1] ∧ Rp M H v1 d1 := by
  cases h with | cons h1 h2 => cases h2; exact ⟨_, rfl, h1⟩
theorem RpAll.inv2 {xs : List V} {d1 d2 : PyData} (h : RpAll M H xs [d1, d2]) : ∃ v1 v2, xs = [v1, v2] ∧ Rp M H v1 d1 ∧ Rp M H v2 d2 := by
  cases h with | cons h1 h2 => obtain ⟨v2, rfl, r2⟩ := h2.inv1; exact ⟨_, _, rfl, h1, r2⟩
theorem RpAll.inv3 {xs : List V} {d1 d2 d3 : PyData} (h : RpAll M H xs [d1, d2, d3]) : ∃ v1 v2 v3, xs = [v1, v2, v3] ∧ Rp M H v1 d1 ∧ Rp M H v2 d2 ∧ Rp M H v3 d3 := by
  cases h with | cons h1 h2 => obtain ⟨v2, v3, rfl, r2, r3⟩ := h2.inv2; exact ⟨_, _, _, rfl, h1, r2, r3⟩
theorem RpAll.inv4 {xs : List V} {d1 d2 d3 d4 : PyData} (h : RpAll M H xs [d1, d2, d3, d4]) : ∃ v1 v2 v3 v4, xs = [v1, v2, v3, v4] ∧ Rp M H v1 d1 ∧ Rp M H v2 d2 ∧ Rp M H v3 d3 ∧ Rp M H v4 d4 := by
  cases h with | cons h1 h2 => obtain ⟨v2, v3, v4, rfl, r2, r3, r4⟩ := h2.inv3; exact ⟨_, _, _, _, rfl, h1, r2, r3, r4⟩
/-- what stands of a form -/
inductive FmAt (M : Ms) (H : Hp) : Fm → List V → Prop
  | is (n : Int) : FmAt M H (.is n) [.str sIs, .int n]
  | get (x : Str) : FmAt M H (.get x) [.str sGet, .str x]
  | sum {f g : Fm} {u w : V} (a : Rp M H u f.enc) (b : Rp M H w g.enc) : FmAt M H (.sum f g) [.str sSum, u, w]
  | same {f g : Fm} {u w : V} (a : Rp M H u f.enc) (b : Rp M H w g.enc) : FmAt M H (.same f g) [.str sSame, u, w]
  | pick {f g h : Fm} {u w z : V} (a : Rp M H u f.enc) (b : Rp M H w g.enc) (c : Rp M H z h.enc) : FmAt M H (.pick f g h) [.str sPick, u, w, z]
theorem Rp.form {f : Fm} (h : Rp M H v f.enc) : ∃ a xs, v = .ref a ∧ ¬ M a ∧ Rd H a (.tup xs) ∧ FmAt M H f xs := by
  cases f with
  | is n =>
    obtain ⟨a, xs, rfl, n, s, r⟩ := Rp.tupN h
    obtain ⟨v1, v2, rfl, r1, r2⟩ := r.inv2
    cases r1; cases r2
    exact ⟨a, _, rfl, n, s, .is _⟩
  | get x =>
    obtain ⟨a, xs, rfl, n, s, r⟩ := Rp.tupN h
    obtain ⟨v1, v2, rfl, r1, r2⟩ := r.inv2
    cases r1; cases r2
    exact ⟨a, _, rfl, n, s, .get _⟩
  | sum f g =>
    obtain ⟨a, xs, rfl, n, s, r⟩ := Rp.tupN h
    obtain ⟨v1, v2, v3, rfl, r1, r2, r3⟩ := r.inv3
    cases r1
    exact ⟨a, _, rfl, n, s, .sum r2 r3⟩
  | same f g =>
    obtain ⟨a, xs, rfl, n, s, r⟩ := Rp.tupN h
    obtain ⟨v1, v2, v3, rfl, r1, r2, r3⟩ := r.inv3
    cases r1
    exact ⟨a, _, rfl, n, s, .same r2 r3⟩
  | pick f g k =>
    obtain ⟨a, xs, rfl, n, s, r⟩ := Rp.tupN h
    obtain ⟨v1, v2, v3, v4, rfl, r1, r2, r3, r4⟩ := r.inv4
    cases r1
    exact ⟨a, _, rfl, n, s, .pick r2 r3 r4⟩
theorem FmAt.rp {f : Fm} {xs : List V} {a : Addr} (h : FmAt M H f xs) (n : ¬ M a) (s : RdT H a xs) : Rp M H (.ref a) f.enc := by
  cases h with
  | is k => exact .tup n s (.cons (.str _) (.one (.int _)))
  | get x => exact .tup n s (.cons (.str _) (.one (.str _)))
  | sum a b => exact .tup n s (.cons (.str _) (.cons a (.one b)))
  | same a b => exact .tup n s (.cons (.str _) (.cons a (.one b)))
  | pick a b c => exact .tup n s (.cons (.str _) (.cons a (.cons b (.one c))))
end

/-! ### names -/
def isNm (x : Str) : Prop := 1 ≤ x.length ∧ x.length ≤ 8 ∧ ∀ c ∈ x.cps.toList, 97 ≤ c ∧ c ≤ 122
def addN (acc : List Str) (n : Str) : List Str := if n ∈ acc then acc else acc ++ [n]
def Fm.names : Fm → List Str
  | .is _ => [] | .get x => [x]
  | .sum f g => g.names.foldl addN (f.names.foldl addN [])
  | .same f g => g.names.foldl addN (f.names.foldl addN [])
  | .pick f g h => h.names.foldl addN (g.names.foldl addN (f.names.foldl addN []))
theorem addN_mem {acc : List Str} {n x : Str} (h : x ∈ addN acc n) : x ∈ acc ∨ x = n := by
  unfold addN at h
  split at h
  · exact .inl h
  · rcases List.mem_append.mp h with h | h
    · exact .inl h
    · exact .inr (List.mem_singleton.mp h)
theorem addsN_mem : ∀ (ns acc : List Str) (x : Str), x ∈ ns.foldl addN acc → x ∈ acc ∨ x ∈ ns
  | [], acc, x, h => .inl h
  | n :: r, acc, x, h => by
    rcases addsN_mem r (addN acc n) x h with h | h
    · rcases addN_mem h with h | h
      · exact .inl h
      · exact .inr (by rw [h]; exact List.mem_cons_self)
    · exact .inr (List.mem_cons_of_mem _ h)
theorem Fm.names_ok {nm : Str → Prop} : ∀ f : Fm, f.ok nm → ∀ x ∈ f.names, nm x
  | .is _, _, x, h => nomatch h
  | .get y, o, x, h => by rw [List.mem_singleton.mp h]; exact o
  | .sum f g, o, x, h => by
    rcases addsN_mem _ _ _ h with h | h
    · rcases addsN_mem _ _ _ h with h | h
      · exact nomatch h
      · exact f.names_ok o.1 x h
    · exact g.names_ok o.2 x h
  | .same f g, o, x, h => by
    rcases addsN_mem _ _ _ h with h | h
    · rcases addsN_mem _ _ _ h with h | h
      · exact nomatch h
      · exact f.names_ok o.1 x h
    · exact g.names_ok o.2 x h
  | .pick f g k, o, x, h => by
    rcases addsN_mem _ _ _ h with h | h
    · rcases addsN_mem _ _ _ h with h | h
      · rcases addsN_mem _ _ _ h with h | h
        · exact nomatch h
        · exact f.names_ok o.1 x h
      · exact g.names_ok o.2.1 x h
    · exact k.names_ok o.2.2 x h
theorem addN_len (acc : List Str) (n : Str) : (addN acc n).length ≤ acc.length + 1 := by
  unfold addN
  split
  · omega
  · rw [List.length_append]
    exact Nat.le_refl _
theorem addsN_len : ∀ (ns acc : List Str), (ns.foldl addN acc).length ≤ acc.length + ns.length
  | [], acc => Nat.le_refl _
  | n :: r, acc => by
    have h1 := addsN_len r (addN acc n)
    have h2 := addN_len acc n
    show (r.foldl addN (addN acc n)).length ≤ acc.length + (r.length + 1)
    omega
theorem Fm.names_len : ∀ f : Fm, f.names.length ≤ f.size
  | .is _ => Nat.zero_le _
  | .get _ => Nat.le_refl _
  | .sum f g => by
    have h1 := f.names_len; have h2 := g.names_len; have h3 := addsN_len f.names []; have h4 := addsN_len g.names (f.names.foldl addN [])
    show (g.names.foldl addN (f.names.foldl addN [])).length ≤ f.size + g.size + 1
    rw [List.length_nil] at h3
    omega
  | .same f g => by
    have h1 := f.names_len; have h2 := g.names_len; have h3 := addsN_len f.names []; have h4 := addsN_len g.names (f.names.foldl addN [])
    show (g.names.foldl addN (f.names.foldl addN [])).length ≤ f.size + g.size + 1
    rw [List.length_nil] at h3
    omega
  | .pick f g k => by
    have h1 := f.names_len; have h2 := g.names_len; have h3 := addsN_len f.names []; have h4 := addsN_len g.names (f.names.foldl addN [])
    have h5 := k.names_len; have h6 := addsN_len k.names (g.names.foldl addN (f.names.foldl addN []))
    show (k.names.foldl addN (g.names.foldl addN (f.names.foldl addN []))).length ≤ f.size + g.size + k.size + 1
    rw [List.length_nil] at h3
    omega
theorem Fm.size_le : ∀ (d : Nat) (f : Fm), f.dep ≤ d → f.size ≤ 4 ^ d
  | 0, f, h => absurd f.dep_pos (by omega)
  | d + 1, .is _, _ => Nat.pow_pos (by decide)
  | d + 1, .get _, _ => Nat.pow_pos (by decide)
  | d + 1, .sum f g, h => by
    have h0 : max f.dep g.dep + 1 ≤ d + 1 := h
    have h1 := Fm.size_le d f (by omega)
    have h2 := Fm.size_le d g (by omega)
    have h3 : 1 ≤ 4 ^ d := Nat.pow_pos (by decide)
    show f.size + g.size + 1 ≤ 4 ^ d * 4
    omega
  | d + 1, .same f g, h => by
    have h0 : max f.dep g.dep + 1 ≤ d + 1 := h
    have h1 := Fm.size_le d f (by omega)
    have h2 := Fm.size_le d g (by omega)
    have h3 : 1 ≤ 4 ^ d := Nat.pow_pos (by decide)
    show f.size + g.size + 1 ≤ 4 ^ d * 4
    omega
  | d + 1, .pick f g k, h => by
    have h0 : max f.dep (max g.dep k.dep) + 1 ≤ d + 1 := h
    have h1 := Fm.size_le d f (by omega)
    have h2 := Fm.size_le d g (by omega)
    have h4 := Fm.size_le d k (by omega)
    have h3 : 1 ≤ 4 ^ d := Nat.pow_pos (by decide)
    show f.size + g.size + k.size + 1 ≤ 4 ^ d * 4
    omega
theorem in_strs (n : Str) (acc : List Str) : inV (.str n) (acc.map V.str) = decide (n ∈ acc) := by
  unfold inV
  rw [List.any_map, Bool.eq_iff_iff, List.any_eq_true, decide_eq_true_iff]
  constructor
  · rintro ⟨x, hx, e⟩
    have e' : (x == n) = true := e
    rw [beq_iff_eq] at e'
    rw [← e']
    exact hx
  · intro h
    exact ⟨n, h, by show (n == n) = true; exact beq_self_eq_true n⟩
theorem flat_strs (acc : List Str) : (acc.map V.str).all flatV = true := by
  rw [List.all_map, List.all_eq_true]
  intro x _
  rfl
theorem RpAll.strs {M : Ms} {H : Hp} : ∀ (ns : List Str), RpAll M H (ns.map V.str) (ns.map PyData.str)
  | [] => .nil
  | n :: r => .cons (.str n) (RpAll.strs r)
theorem RpAll.ofStrs {M : Ms} {H : Hp} : ∀ {ns : List Str} {vs : List V}, RpAll M H vs (ns.map PyData.str) → vs = ns.map V.str
  | [], _, h => by cases h; rfl
  | n :: r, _, h => by
    cases h with
    | cons h1 h2 =>
      cases h1
      rw [RpAll.ofStrs h2]
      rfl

theorem sign_lo {c : Nat} (h : 97 ≤ c) : decide (({ cps := #[c] } : Str).cps.toList < (Str.ofString "a").cps.toList) = false := by
  rw [show (Str.ofString "a").cps.toList = [97] by decide +kernel, decide_eq_false_iff_not]
  show ¬ [c] < [97]
  rw [List.cons_lt_cons_iff]
  rintro (h1 | ⟨_, h1⟩)
  · omega
  · exact absurd h1 (by decide)
theorem sign_hi {c : Nat} (h : c ≤ 122) : decide ((Str.ofString "z").cps.toList < ({ cps := #[c] } : Str).cps.toList) = false := by
  rw [show (Str.ofString "z").cps.toList = [122] by decide +kernel, decide_eq_false_iff_not]
  show ¬ [122] < [c]
  rw [List.cons_lt_cons_iff]
  rintro (h1 | ⟨_, h1⟩)
  · omega
  · exact absurd h1 (by decide)

/-- a form with its level -/
def lvD (p : Fm × Nat) : PyData := .tuple [p.1.enc, .int (p.2 : Int)]
def szs (ps : List (Fm × Nat)) : Nat := (ps.map fun p => p.1.size).sum
theorem szs_app (ps qs : List (Fm × Nat)) : szs (ps ++ qs) = szs ps + szs qs := by
  unfold szs
  rw [List.map_append, List.sum_append_nat]
theorem szs_rev (ps : List (Fm × Nat)) : szs ps.reverse = szs ps := by
  unfold szs
  rw [List.map_reverse, List.sum_reverse]
theorem subs_size (f : Fm) (n : Nat) : szs (f.subs.map fun g => (g, n)) + 1 = f.size := by
  cases f <;> simp [szs, Fm.subs, Fm.size] <;> omega
theorem subs_ok {nm : Str → Prop} {f g : Fm} (h : f.ok nm) (hg : g ∈ f.subs) : g.ok nm := by
  cases f <;> simp [Fm.subs] at hg <;> simp [Fm.ok] at h
  all_goals (first | (rcases hg with rfl | rfl | rfl <;> simp_all) | (rcases hg with rfl | rfl <;> simp_all))
theorem subs_dep {f g : Fm} (hg : g ∈ f.subs) : g.dep + 1 ≤ f.dep := by
  cases f <;> simp [Fm.subs] at hg <;> simp [Fm.dep]
  all_goals (first | (rcases hg with rfl | rfl | rfl <;> omega) | (rcases hg with rfl | rfl <;> omega))
theorem subs_len (f : Fm) : f.subs.length ≤ 3 := by cases f <;> simp [Fm.subs]
theorem RpAll.reverse {M : Ms} {H : Hp} : ∀ {vs : List V} {ds : List PyData}, RpAll M H vs ds → RpAll M H vs.reverse ds.reverse
  | _, [], h => by cases h; exact .nil
  | _, d :: ds, h => by
    cases h with
    | cons h1 h2 =>
      rw [List.reverse_cons, List.reverse_cons]
      exact (RpAll.reverse h2).append (.one h1)
theorem RpAll.last {M : Ms} {H : Hp} {vs : List V} {ds : List PyData} {d : PyData} (h : RpAll M H vs (ds ++ [d])) : ∃ us v, vs = us ++ [v] ∧ RpAll M H us ds ∧ Rp M H v d := by
  have h1 := h.reverse
  rw [List.reverse_append] at h1
  generalize hv : vs.reverse = ws at h1
  cases h1 with
  | @cons v us _ _ a b =>
    have e : vs = us.reverse ++ [v] := by
      rw [← List.reverse_reverse vs, hv, List.reverse_cons]
    refine ⟨us.reverse, v, e, ?_, a⟩
    have b' : RpAll M H us ds.reverse := b
    have := b'.reverse
    rw [List.reverse_reverse] at this
    exact this

theorem Fm.size_pos : ∀ f : Fm, 1 ≤ f.size
  | .is _ => Nat.le_refl _ | .get _ => Nat.le_refl _
  | .sum f g => by show 1 ≤ f.size + g.size + 1; omega
  | .same f g => by show 1 ≤ f.size + g.size + 1; omega
  | .pick f g h => by show 1 ≤ f.size + g.size + h.size + 1; omega
theorem szs_len : ∀ ps : List (Fm × Nat), ps.length ≤ szs ps
  | [] => Nat.le_refl _
  | p :: r => by
    have h1 := szs_len r
    have h2 := p.1.size_pos
    show r.length + 1 ≤ ((p :: r).map fun p => p.1.size).sum
    rw [List.map_cons, List.sum_cons]
    unfold szs at h1
    omega

def stepN (acc : List Str) (s : Fm) : List Str := s.names.foldl addN acc
theorem names_fold (f : Fm) (h : ∀ x, f ≠ .get x) : f.names = f.subs.foldl stepN [] := by
  cases f with
  | get x => exact absurd rfl (h x)
  | _ => rfl
theorem fold_take {α β : Type} (g : β → α → β) (b : β) (l : List α) (i : Nat) (x : α) (h : l[i]? = some x) : (l.take (i + 1)).foldl g b = g ((l.take i).foldl g b) x := by
  rw [List.take_add_one, h, List.foldl_append]
  rfl
end D

namespace D
open PySem PySem.Spec PyProof.Rows L2
theorem sub_len {α : Type} [DecidableEq α] : ∀ (l2 l1 : List α), l1.Nodup → (∀ x ∈ l1, x ∈ l2) → l1.length ≤ l2.length ∧ (l1.length = l2.length → l2.Nodup)
  | [], l1, _, h => by
    cases l1 with
    | nil => exact ⟨Nat.le_refl _, fun _ => .nil⟩
    | cons x r => exact nomatch h x List.mem_cons_self
  | y :: r, l1, nd, h => by
    by_cases hy : y ∈ l1
    · have nd1 : (l1.erase y).Nodup := nd.erase y
      have h1 : ∀ x ∈ l1.erase y, x ∈ r := fun x hx => by
        have hx' := (nd.mem_erase_iff).mp hx
        rcases List.mem_cons.mp (h x hx'.2) with e | e
        · exact absurd e hx'.1
        · exact e
      obtain ⟨a, b⟩ := sub_len r (l1.erase y) nd1 h1
      have le := List.length_erase_of_mem hy
      have pos : 0 < l1.length := List.length_pos_of_mem hy
      refine ⟨by rw [List.length_cons]; omega, fun e => ?_⟩
      rw [List.length_cons] at e
      refine List.nodup_cons.mpr ⟨fun hr => ?_, b (by omega)⟩
      have h2 : ∀ x ∈ l1, x ∈ r := fun x hx => by
        rcases List.mem_cons.mp (h x hx) with e | e
        · rw [e]; exact hr
        · exact e
      have := (sub_len r l1 nd h2).1
      omega
    · have h2 : ∀ x ∈ l1, x ∈ r := fun x hx => by
        rcases List.mem_cons.mp (h x hx) with e | e
        · rw [e] at hx; exact absurd hx hy
        · exact e
      have := (sub_len r l1 nd h2).1
      refine ⟨by rw [List.length_cons]; omega, fun e => ?_⟩
      rw [List.length_cons] at e
      omega
section
variable {X : Cx}
def tLenSetT (K : PySem.W.Frag) (ta : TE) : TE := fun σ H Q => ta σ H fun x H1 => ∃ (l : Addr) (ns : List Int), x = V.ref l ∧ SqT K H1 l (ns.map V.int) ∧ ns.length ≤ 1000 ∧ ∀ c : Nat, (c = ns.length ↔ ns.Nodup) → Q (.int c) H1
theorem pe_lenSetT {K : PySem.W.Frag} {a : Expr} {ta : TE} {p p2 q pos : Pos} (hK : X.K = K) (hc : X.calm = true) (hg : Gl X "len") (hm : X.mg "len" = none) (hg2 : Gl X "set") (hm2 : X.mg "set" = none) (ha : PE X a ta)
    (na : starEach [a] X.env = (false, eval a X.env) :: starEach [] X.env := by rfl) : PE X (.Call (.Name "len" p) [.Call (.Name "set" p2) [a] [] q] [] pos) (tLenSetT K ta) := by
  subst hK
  refine ⟨fun pins s σ H Q I h => ?_⟩
  refine Call_ (ld_blt I hg hm PySem.boot_len ?_)
  refine PyProof.Rows.callWith_builtin1 (PyProof.Rows.args_cons ?_ rfl) rfl rfl
  refine Call_ (ld_blt I hg2 hm2 PyProof.Rows.boot_set ?_)
  refine PyProof.Rows.callWith_type1 (PyProof.Rows.args_cons (thn (ha.run pins s σ H _ I h) fun v s1 ⟨x, H1, I1, r1, q1⟩ => PyProof.Rows.args_nil ?_) na) na rfl
  obtain ⟨l, ns, rfl, hq, h1, q1⟩ := q1
  cases r1
  obtain ⟨its, rv, pt, hz⟩ := I1.tuple hq
  have hi : IntsAre its.toArray.toList ns := ints_of_vals rv
  refine call_set_tupI ns (I1.ok.hd hc) (show s1.heap.IsTuple l its.toArray from pt) hi (by unfold scanBound; omega) fun h' tk c R1 hcn k => ?_
  obtain ⟨o, es, ep, t, ho, hex, hdt, g, nd, hm2, hb, hf, hn, hr, hl2⟩ := R1
  refine PyProof.Rows.args_nil ?_
  have I2 : Inv X pins σ H1 { s1 with heap := h', toks := tk } := I1.kept k
  have hsub : ∀ x ∈ es.toList.map keyOf, x ∈ ns := fun x hx => of_decide_eq_true ((hm2 x).mpr hx)
  have hsup : ∀ x ∈ ns, x ∈ es.toList.map keyOf := fun x hx => (hm2 x).mp (decide_eq_true hx)
  have hlen : (es.toList.map keyOf).length = es.size := by rw [List.length_map, Array.length_toList]
  have hc2 : es.size = ns.length ↔ ns.Nodup := by
    obtain ⟨a1, a2⟩ := sub_len ns _ nd hsub
    refine ⟨fun e => a2 (by rw [hlen, e]), fun hnd => ?_⟩
    have b1 := (sub_len (es.toList.map keyOf) ns hnd hsup).1
    omega
  exact call_len_set ho hex hdt hf (by unfold scanBound at hb; omega) ⟨.int es.size, H1, I2.tok _, ⟨_, rfl⟩, q1 es.size hc2⟩
end
end D

namespace D
open PySem PySem.Spec PyProof.Rows L2
section
variable {X : Cx} {C g : Addr} {n : Nat} {CX : CXT} {sp : Sp} {E : XK} {fd : FuncData} {ps : List Str}
/-- x op y, two instances of one class with its own def for op -/
def rOwnI (C : Addr) (sp : Sp) (E : XK) : R2 := fun x y H Q => ∃ a dx fs b dy gs, x = .ref a ∧ y = .ref b ∧ H a = some (.ins C dx fs) ∧ H b = some (.ins C dy gs) ∧ sp [x, y] H Q E
theorem op_ownI {op : CmpOp} (hop : ∀ a b, compareOp op a b = richCompare op a b) (hs : PySem.W.findIn X.K (.ref C) (cmpInfo op).2.1 = some (some (.ref g))) (hf : PySem.W.isFn X.K (.ref g) = true) (hn : PySem.W.notFirst X.K C (.ref C) = true)
    (F : FnOk X.prog X.w X.K X.mg X.base CX n g fd ps sp) (hb : Binds X.K fd ps []) (hr : Room n X.A) (hx : Passes CX X E) : OpR X (compareOp op) (rOwnI C sp E) := by
  intro pins s σ H x y v u Q I rx ry h
  obtain ⟨a, dx, fs, b, dy, gs, rfl, rfl, ha, hb2, q⟩ := h
  cases (show v = Value.ref a from rx)
  cases (show u = Value.ref b from ry)
  obtain ⟨mA, O, _⟩ := ins_get I.hok ha
  obtain ⟨od, J, _⟩ := O.look
  obtain ⟨mA', O', _⟩ := ins_get I.hok hb2
  obtain ⟨od', J', _⟩ := O'.look
  obtain ⟨m, hF⟩ := I.fr
  rw [hop]
  refine PySem.W.cmp_K (op := op) (tb := .ref C) hr.units0 hF I.ok.mod.kin J J'.type hn hs hf ?_
  refine wpAny_mono (run_fn (us := [.ref a, .ref b]) (vs := [.ref a, .ref b]) F hr hb .nil hx I (.cons rfl (.cons rfl .nil)) q) (fun w s' z => ?_) fun _ _ x => x
  obtain ⟨z', H', I', rz, qz⟩ := z
  exact SlX.cmpback rz ⟨z', H', I', rz, qz⟩
/-- an instance is called -/
def tCallOI (C : Addr) (sp : Sp) (E : XK) (tf : TE) (t : TA) : TE := fun σ H Q => tf σ H fun y H1 => ∃ a dx fs, y = V.ref a ∧ t σ H1 fun vs H2 => H2 a = some (.ins C dx fs) ∧ sp (V.ref a :: vs) H2 Q E
theorem pe_callOI {fe e : Expr} {es : List Expr} {pos : Pos} {tf : TE} {t : TA} (c : StX.CallO X.K C g) (F : FnOk X.prog X.w X.K X.mg X.base CX n g fd ps sp) (hb : Binds X.K fd ps []) (hr : Room n X.A) (hx : Passes CX X E) (hf : PE X fe tf) (ha : PA X (e :: es) t)
    (ht : eval (.Call fe (e :: es) [] pos) X.env = (do callWith pos (← eval fe X.env) [] (backTo pos (starEach (e :: es) X.env)) (backToKw pos (keywordEach [] X.env))) := by rfl)
    (he : starEach (e :: es) X.env = (false, eval e X.env) :: starEach es X.env := by rfl) (hpl : (backTo pos (starEach es X.env)).any (·.1) = false := by rfl) : PE X (.Call fe (e :: es) [] pos) (tCallOI C sp E tf t) := by
  refine ⟨fun pins s σ H Q I h => ?_⟩
  refine Call_ (thn (hf.run pins s σ H _ I h) fun u s1 ⟨y, H1, I1, ry, a, dx, fs, ey, q⟩ => ?_) ht
  subst ey
  cases (show u = Value.ref a from ry)
  refine StX.callO_with (thn (ha.run pos pins s1 σ H1 _ I1 q) fun us s2 ⟨vs, H2, I2, r, hi, q2⟩ => ?_) he hpl
  obtain ⟨ox, od, J, hd⟩ := StX.insC_at I2 (.inr ⟨dx, fs, hi⟩)
  exact ⟨⟨C, ox, od, J, hd⟩, StX.run_callO c (F.raw hb .nil) hr hx I2 (.inr ⟨dx, fs, hi⟩) r (by rw [List.append_nil]; exact q2)⟩
/-- isinstance of an own class -/
def rIsC (C : Addr) : List V → Hp → VK → Prop := fun xs H Q => ∃ a dx fs, xs = [.ref a, .ref C] ∧ H a = some (.ins C dx fs) ∧ Q (.bl true) H
theorem call_isCK (c : C8.InsC X.K C) : CallR X (.builtin "isinstance") (rIsC C) := C8.call_isC c
end
end D

namespace PySem
theorem meets_enumerate_newT (l : Addr) (items : Array Value) :
    Meets (Builtin.«enumerate.__new__» ⟨[.type "enumerate", .ref l], []⟩) (fun _ R s => s.heap.IsTuple l items ∧
      R (.ok (.ret (.ref (s.heap.push { cls := .type "tuple_iterator", data := .fields #[.ref l, .int 0 0] }).objs.size)))
        { s with heap := (s.heap.push { cls := .type "tuple_iterator", data := .fields #[.ref l, .int 0 0] }).push { cls := .type "enumerate", data := .fields #[.none, .bool false, .ref s.heap.objs.size, rawInt 0, .none, .none] } }) :=
  .of_wp fun prog w A R s h => by
    obtain ⟨hp, g, d, tk, os⟩ := s; obtain ⟨hL, h⟩ := h
    have hsub := sub_enumerate
    wp_walk
    refine wpAny_stack_any fun st => wpAny_pure ?_
    split
    · rename_i c _ _ _ _ _
      cases (c == Value.type "enumerate")
      · wp_walk using wpAny_pyIter_tuple hL
        exact ⟨_, rfl, h⟩
      · wp_walk using wpAny_pyIter_tuple hL
        exact ⟨_, rfl, h⟩
    · wp_walk using wpAny_pyIter_tuple hL
      exact ⟨_, rfl, h⟩
section
variable {prog : Program} {w : World} {A : Around} {E : Value → Shared → Prop} {s : Shared}
theorem call_enumerate_tuple {l : Addr} {items : Array Value} {Q : Value → Shared → Prop} (hL : s.heap.IsTuple l items)
    (h : ∀ h', IsEnum h' (s.heap.objs.size + 1) s.heap.objs.size 0 .none → h'.IsTupleIter s.heap.objs.size l 0 → h'.objs.size = s.heap.objs.size + 2 →
      (∀ b o, s.heap.get? b = some o → h'.get? b = some o) → Q (.ref (s.heap.objs.size + 1)) { s with heap := h' }) :
    wpAny (model prog w) A (call (.type "enumerate") [.ref l]) Q E s := by
  refine callType_new F.called_enumerate (by decide) (F.typeCall_enumerate_1 _) (F.newCall_enumerate_1 _) (fun obj => F.args_object_init_2 obj _) F.entry_enumerate_new
    (meets_enumerate_newT l items) ⟨hL, ?_⟩
  have hz : (s.heap.push { cls := .type "tuple_iterator", data := .fields #[.ref l, .int 0 0] }).objs.size = s.heap.objs.size + 1 := Heap.size_push ..
  show _ ∧ _
  rw [hz]
  have he : IsEnum ((s.heap.push { cls := .type "tuple_iterator", data := .fields #[.ref l, .int 0 0] }).push
      { cls := .type "enumerate", data := .fields #[.none, .bool false, .ref s.heap.objs.size, rawInt 0, .none, .none] }) (s.heap.objs.size + 1) s.heap.objs.size 0 .none := by
    have := Heap.get?_push_size (s.heap.push { cls := .type "tuple_iterator", data := .fields #[.ref l, .int 0 0] })
      (o := { cls := .type "enumerate", data := .fields #[.none, .bool false, .ref s.heap.objs.size, rawInt 0, .none, .none] }) rfl
    rw [hz] at this; exact this
  refine ⟨⟨_, he, rfl⟩, h _ he ⟨_, Heap.get?_push_of_some _ (Heap.get?_push_size _ rfl), rfl, rfl⟩ (by rw [Heap.size_push, hz]) fun b o x => Heap.get?_push_of_some _ (Heap.get?_push_of_some _ x)⟩
end
end PySem
namespace D
open PySem PySem.Spec PyProof.Rows L2
/-- the tuple at a, each item in a new pair with its place -/
def Itet (K : PySem.W.Frag) (a : Addr) : It :=
  ⟨fun i H => ∃ (xs : List V) (x : V), SqT K H a xs ∧ xs[i]? = some x, fun i H v H' => ∃ T x, v = .ref T ∧ H T = none ∧ H' = upd H T (.tup [.int (i : Nat), x]) ∧ ∀ xs, SqT K H a xs → xs[i]? = some x, fun i H => ∃ xs : List V, SqT K H a xs ∧ xs.length = i⟩
theorem turn_enumT {P : Program} {w : World} {K : PySem.W.Frag} {elts : List Expr} {kk : Nat} {tpos : Pos} (a e it : Addr) :
    Turn P w K (.Tuple elts kk tpos) (Itet K a) [e, it] e (fun i h => (∃ old, IsEnum h e it ((i : Nat) : Int) old) ∧ h.IsTupleIter it a i ∧ e ≠ it) where
  mem := by simp
  obj := fun i h st b hb => by
    obtain ⟨⟨old, he⟩, ⟨o, ho, hc, hd⟩, _⟩ := st
    have e' : b = e ∨ b = it := by simpa using hb
    rcases e' with z | z
    · rw [z]; exact ⟨_, he, fun v q => nomatch q⟩
    · rw [z]; exact ⟨o, ho, fun v q => by rw [hd] at q; cases q⟩
  keep := fun i h h' st k => let ⟨⟨old, he⟩, hi, hne⟩ := st; ⟨⟨old, k e (by simp) _ he⟩, hi.at fun o q => k it (by simp) o q, hne⟩
  item := by
    intro X hP hw hK hc i pins s σ H E I hf st hg
    subst hP hw hK
    obtain ⟨⟨old, he⟩, hit, hne⟩ := st
    obtain ⟨xs, x, hq, hx⟩ := hg
    obtain ⟨its, rv, p, hz⟩ := I.tuple hq
    have p2 : s.heap.IsTuple a its.toArray := p
    obtain ⟨u, hu, ru⟩ := rv.get hx
    have hel : e < s.heap.objs.size := Heap.lt_size he
    have hil : it < s.heap.objs.size := by obtain ⟨_, q, _⟩ := hit; exact Heap.lt_size q
    have hai : a ≠ it := fun z => by
      obtain ⟨o1, q1, c1, _⟩ := hit
      obtain ⟨o2, q2, c2, _⟩ := p2
      rw [z, q1] at q2
      cases q2
      rw [c1] at c2
      exact absurd c2 (by decide)
    have hea : e ≠ a := fun z => by
      obtain ⟨o2, q2, c2, _⟩ := p2
      rw [← z, he] at q2
      cases q2
      exact absurd (show Value.type "enumerate" = Value.type "tuple" from c2) (by decide)
    have hlt : i < its.toArray.size := by
      have := (List.getElem?_eq_some_iff.mp hu).1
      simpa using this
    refine wpAny_pyNext_enum_itemD (Draws.tuple (A := X.A.in1) (I.ok.hd hc) it a hai its.toArray) he ⟨hit, p2⟩ hlt hne (fun z => by
      rcases List.mem_cons.mp z with z | z
      · exact hne z
      · exact hea (List.mem_singleton.mp z)) fun x' h' tk hP ho hst' hT hsz hk => ?_
    obtain rfl : x' = u := by
      have h1 : its.toArray[i]? = some x' := hP
      rw [List.getElem?_toArray, hu] at h1
      exact (Option.some.inj h1).symm
    refine ⟨_, rfl, wpAny_letOwnedTupleGo_enum (s := { s with heap := h', toks := tk + 1 }) ho fun h'' he' sb => ?_⟩
    have hT2 : h''.get? s.heap.objs.size = some { cls := .type "tuple", data := .seq #[.int i tk, x'] } := (sb.2 _ (Nat.ne_of_gt hel)).trans hT
    have new : ObjOk X.prog X.w (upd H s.heap.objs.size (.tup [.int (i : Nat), x])) h'' s.heap.objs.size (.tup [.int (i : Nat), x]) :=
      ⟨by show 2 ≤ sizeLine; decide, [.int i tk, x'], .cons ⟨_, rfl⟩ (.cons ru .nil), ⟨_, hT2, rfl, _, rfl⟩⟩
    have I1 : Inv X pins σ (upd H s.heap.objs.size (.tup [.int (i : Nat), x])) { s with heap := h'', toks := tk + 1 } :=
      I.turnedNew (ch := [e, it]) (fun b ob hb q => (sb.2 b (fun z => hb (by simp [z]))).trans (hk b ob (fun z => hb (by simp [z])) (fun z => hb (by simp [z])) q)) hf (Nat.le_refl _) new
    refine ⟨.ref s.heap.objs.size, _, I1, rfl, ⟨_, x, rfl, I.hok.fresh (Nat.le_refl _), rfl, fun ys hy => by rw [I.tuple_inj hy hq]; exact hx⟩, ⟨⟨x', ?_⟩, hst'.1.at fun o q => (sb.2 it (Ne.symm hne)).trans q, hne⟩, fun b hb => ?_⟩
    · have e1 : ((i + 1 : Nat) : Int) = (i : Int) + 1 := by omega
      rw [e1]; exact he'
    · have hb' : b < s.heap.objs.size := by
        have e' : b = e ∨ b = it := by simpa using hb
        rcases e' with z | z
        · rw [z]; exact hel
        · rw [z]; exact hil
      rw [upd_ne (Nat.ne_of_lt hb')]
      exact (hf b hb).1
  done := by
    intro X hP hw hK hc i pins s σ H E I hf st hg
    subst hP hw hK
    obtain ⟨⟨old, he⟩, hit, hne⟩ := st
    obtain ⟨xs, hq, hx⟩ := hg
    obtain ⟨its, rv, p, hz⟩ := I.tuple hq
    have p2 : s.heap.IsTuple a its.toArray := p
    obtain ⟨f0, f1, f2, f3, f4, f5⟩ := hf it (by simp)
    have hl := rv.length
    have hai : a ≠ it := fun z => by
      obtain ⟨o1, q1, c1, _⟩ := hit
      obtain ⟨o2, q2, c2, _⟩ := p2
      rw [z, q1] at q2
      cases q2
      rw [c1] at c2
      exact absurd c2 (by decide)
    have en : i = its.toArray.size := by
      rw [List.size_toArray]
      omega
    exact wpAny_pyNext_enum_endD (Draws.tuple (A := X.A.in1) (I.ok.hd hc) it a hai its.toArray) he (show _ ∧ _ from ⟨by rw [← en]; exact hit, p2⟩) fun h' eb => ⟨rfl, I.turned (t' := s.toks) (fun b o hb q => eb b o hb q) f0 f1 f3 f4 f5⟩
  self := fun A i s Q E st h => let ⟨⟨_, he⟩, _⟩ := st; wpAny_pyIter_enum he h
def iEnumT (K : PySem.W.Frag) (ta : TA) : TI := fun σ H R => ta σ H fun vs H1 => ∃ a xs, vs = [.ref a] ∧ SqT K H1 a xs ∧ R (Itet K a) H1
theorem pi_enumTK {K : PySem.W.Frag} {X : Cx} {e : Expr} {ta : TA} {p pos tpos : Pos} {elts : List Expr} {kk : Nat} (hK : X.K = K) (hg : Gl X "enumerate") (hm : X.mg "enumerate" = none) (ha : PA X [e] ta) (hs : starEach [e] X.env = [(false, eval e X.env)] := by rfl) :
    PI X (.Tuple elts kk tpos) (.Call (.Name "enumerate" p) [e] [] pos) (iEnumT K ta) := by
  subst hK
  refine ⟨fun pins s σ H R I h => ?_⟩
  refine Call_ (ld_blt I hg hm boot_enumerate (PyProof.Rows.callWith_type1 (thn (ha.run pos pins s σ H _ I h) fun us s1 ⟨vs, H1, I1, r1, q1⟩ => ?_) hs rfl))
  obtain ⟨a, xs, ex, hq, q⟩ := q1
  subst ex
  cases r1 with
  | cons r rr =>
    cases rr
    cases r
    obtain ⟨its, rv, p', hz⟩ := I1.tuple hq
    refine call_enumerate_tuple (show s1.heap.IsTuple a its.toArray from p') fun h' he hit hsz hk => wpAny_pyIter_enum he ?_
    have I2 : Inv X pins σ H1 { s1 with heap := h' } := I1.kept (t' := s1.toks) hk
    refine ⟨s1.heap.objs.size + 1, [s1.heap.objs.size + 1, s1.heap.objs.size], _, _, H1, rfl, I2, turn_enumT a (s1.heap.objs.size + 1) s1.heap.objs.size, ⟨⟨.none, he⟩, hit, Nat.succ_ne_self _⟩, fun b hb => ?_, q⟩
    have e' : b = s1.heap.objs.size + 1 ∨ b = s1.heap.objs.size := by simpa using hb
    have hle : s1.heap.objs.size ≤ b := by
      rcases e' with z | z
      · rw [z]; exact Nat.le_add_right _ _
      · rw [z]; exact Nat.le_refl _
    exact I1.fpOk hle (I1.hok.fresh hle)
theorem for_enumT {K : PySem.W.Frag} {a : Addr} {xs : List V} {g : TG} {tb : TS} {D : Ends} {σ : L2.St} {H : Hp} (Pv : Nat → L2.St → Hp → Prop) (h0 : Pv 0 σ H) (hl : ∀ i σ H, i ≤ xs.length → Pv i σ H → SqT K H a xs)
    (hs : ∀ i x T σ H, xs[i]? = some x → H T = none → Pv i σ H → g (.ref T) σ (upd H T (.tup [.int (i : Nat), x])) fun σ2 H2 => tb { D with nx := Pv (i + 1), ct := Pv (i + 1), bk := D.nx } σ2 H2) (hd : ∀ σ H, Pv xs.length σ H → D.nx σ H) :
    ∃ W : Nat → Nat → L2.St → Hp → Prop, (∃ m, W 0 m σ H) ∧ ∀ i m σ H, W i m σ H →
      ((Itet K a).stop i H ∧ D.nx σ H) ∨ ((Itet K a).go i H ∧ ∃ N : L2.St → Hp → Prop, (∀ σ' H', N σ' H' → ∃ m', m' < m ∧ W (i + 1) m' σ' H') ∧ ∀ x H', (Itet K a).yld i H x H' → g x σ H' fun σ2 H2 => tb { D with nx := N, ct := N, bk := D.nx } σ2 H2) := by
  refine ⟨fun i m σ H => m = xs.length - i ∧ i ≤ xs.length ∧ Pv i σ H, ⟨xs.length, by simp, Nat.zero_le _, h0⟩, ?_⟩
  rintro i m σ H ⟨rfl, hi, p⟩
  have q := hl i σ H hi p
  by_cases hlt : i < xs.length
  · refine .inr ⟨⟨xs, xs[i], q, by simp [hlt]⟩, Pv (i + 1), fun σ' H' p' => ⟨xs.length - (i + 1), by omega, rfl, hlt, p'⟩, fun x H' y => ?_⟩
    obtain ⟨T, z, rfl, hT, rfl, hz⟩ := y
    exact hs i z T σ _ (hz xs q) hT p
  · have e : i = xs.length := by omega
    subst e
    exact .inl ⟨⟨xs, q, rfl⟩, hd σ H p⟩
/-- comprehensions over enumerate -/
theorem lc_enum {K : PySem.W.Frag} {a : Addr} {xs : List V} {g : TG} {tt : TT} {te : TE} {vs : List Nat} {σ : L2.St} {H1 : Hp} {D : Addr} {Qd : Hp → Prop} (Pv : Nat → Hp → Prop) (h0 : Pv 0 (upd H1 D (.lst []))) (hl : ∀ i H, i ≤ xs.length → Pv i H → SqL K H a xs)
    (hs : ∀ i x T H, xs[i]? = some x → H T = none → Pv i H → g (.ref T) (wipe σ vs) (upd H T (.tup [.int (i : Nat), x])) fun σ2 H2 => wipe σ2 vs = wipe σ vs ∧ tt σ2 H2 fun b H3 =>
      if b = true then te σ2 H3 fun y H4 => ∃ acc, H4 D = some (.lst acc) ∧ acc.length < sizeLine ∧ Pv (i + 1) (upd H4 D (.lst (acc ++ [y]))) else Pv (i + 1) H3) (hd : ∀ H, Pv xs.length H → Qd H) :
    ∃ W : Nat → Nat → Hp → Prop, (∃ m, W 0 m (upd H1 D (.lst []))) ∧ ∀ i m H, W i m H →
      ((Ite K a).stop i H ∧ Qd H) ∨ ((Ite K a).go i H ∧ ∃ Nx : Hp → Prop, (∀ H', Nx H' → ∃ m', m' < m ∧ W (i + 1) m' H') ∧ ∀ x H', (Ite K a).yld i H x H' → g x (wipe σ vs) H' fun σ2 H2 => wipe σ2 vs = wipe σ vs ∧ tt σ2 H2 fun b H3 =>
        if b = true then te σ2 H3 fun y H4 => ∃ acc, H4 D = some (.lst acc) ∧ acc.length < sizeLine ∧ Nx (upd H4 D (.lst (acc ++ [y]))) else Nx H3) := by
  refine ⟨fun i m H => m = xs.length - i ∧ i ≤ xs.length ∧ Pv i H, ⟨xs.length, by simp, Nat.zero_le _, h0⟩, ?_⟩
  rintro i m H ⟨rfl, hi, p⟩
  have q := hl i H hi p
  by_cases hlt : i < xs.length
  · refine .inr ⟨⟨xs, xs[i], q, by simp [hlt]⟩, Pv (i + 1), fun H' p' => ⟨xs.length - (i + 1), by omega, rfl, hlt, p'⟩, fun x H' y => ?_⟩
    obtain ⟨T, z, rfl, hT, rfl, hz⟩ := y
    exact hs i z T _ (hz xs q) hT p
  · have e : i = xs.length := by omega
    subst e
    exact .inl ⟨⟨xs, q, Nat.le_refl _⟩, hd H p⟩
theorem lc_enumT {K : PySem.W.Frag} {a : Addr} {xs : List V} {g : TG} {tt : TT} {te : TE} {vs : List Nat} {σ : L2.St} {H1 : Hp} {D : Addr} {Qd : Hp → Prop} (Pv : Nat → Hp → Prop) (h0 : Pv 0 (upd H1 D (.lst []))) (hl : ∀ i H, i ≤ xs.length → Pv i H → SqT K H a xs)
    (hs : ∀ i x T H, xs[i]? = some x → H T = none → Pv i H → g (.ref T) (wipe σ vs) (upd H T (.tup [.int (i : Nat), x])) fun σ2 H2 => wipe σ2 vs = wipe σ vs ∧ tt σ2 H2 fun b H3 =>
      if b = true then te σ2 H3 fun y H4 => ∃ acc, H4 D = some (.lst acc) ∧ acc.length < sizeLine ∧ Pv (i + 1) (upd H4 D (.lst (acc ++ [y]))) else Pv (i + 1) H3) (hd : ∀ H, Pv xs.length H → Qd H) :
    ∃ W : Nat → Nat → Hp → Prop, (∃ m, W 0 m (upd H1 D (.lst []))) ∧ ∀ i m H, W i m H →
      ((Itet K a).stop i H ∧ Qd H) ∨ ((Itet K a).go i H ∧ ∃ Nx : Hp → Prop, (∀ H', Nx H' → ∃ m', m' < m ∧ W (i + 1) m' H') ∧ ∀ x H', (Itet K a).yld i H x H' → g x (wipe σ vs) H' fun σ2 H2 => wipe σ2 vs = wipe σ vs ∧ tt σ2 H2 fun b H3 =>
        if b = true then te σ2 H3 fun y H4 => ∃ acc, H4 D = some (.lst acc) ∧ acc.length < sizeLine ∧ Nx (upd H4 D (.lst (acc ++ [y]))) else Nx H3) := by
  refine ⟨fun i m H => m = xs.length - i ∧ i ≤ xs.length ∧ Pv i H, ⟨xs.length, by simp, Nat.zero_le _, h0⟩, ?_⟩
  rintro i m H ⟨rfl, hi, p⟩
  have q := hl i H hi p
  by_cases hlt : i < xs.length
  · refine .inr ⟨⟨xs, xs[i], q, by simp [hlt]⟩, Pv (i + 1), fun H' p' => ⟨xs.length - (i + 1), by omega, rfl, hlt, p'⟩, fun x H' y => ?_⟩
    obtain ⟨T, z, rfl, hT, rfl, hz⟩ := y
    exact hs i z T _ (hz xs q) hT p
  · have e : i = xs.length := by omega
    subst e
    exact .inl ⟨⟨xs, q, rfl⟩, hd H p⟩
/-- the same where each element is a value that is known: new things may be made on the way -/
theorem lc_enumV {K : PySem.W.Frag} {a : Addr} {xs ys : List V} {g : TG} {tt : TT} {te : TE} {vs : List Nat} {σ : L2.St} {H : Hp} {D : Addr} {Qd : Hp → Prop} (hD : H D = none) (hS : SqL K H a xs) (hn : ys.length = xs.length) (hz : xs.length ≤ 1000000)
    (hs : ∀ (i : Nat) (x y : V) (T : Addr) (H' : Hp) (C : VK) (N : Hp → Prop), xs[i]? = some x → ys[i]? = some y → H' T = none → Same H H' → H' D ≠ none → (∀ H2, Same (upd H' T (.tup [.int (i : Nat), x])) H2 → C y H2) → g (.ref T) (wipe σ vs) (upd H' T (.tup [.int (i : Nat), x])) fun σ2 H2 => wipe σ2 vs = wipe σ vs ∧ tt σ2 H2 fun b H3 => if b = true then te σ2 H3 C else N H3)
    (hd : ∀ H', Same H H' → H' D = some (.lst ys) → Qd H') :
    ∃ W : Nat → Nat → Hp → Prop, (∃ m, W 0 m (upd H D (.lst []))) ∧ ∀ i m H, W i m H →
      ((Ite K a).stop i H ∧ Qd H) ∨ ((Ite K a).go i H ∧ ∃ Nx : Hp → Prop, (∀ H', Nx H' → ∃ m', m' < m ∧ W (i + 1) m' H') ∧ ∀ x H', (Ite K a).yld i H x H' → g x (wipe σ vs) H' fun σ2 H2 => wipe σ2 vs = wipe σ vs ∧ tt σ2 H2 fun b H3 =>
        if b = true then te σ2 H3 fun y H4 => ∃ acc, H4 D = some (.lst acc) ∧ acc.length < sizeLine ∧ Nx (upd H4 D (.lst (acc ++ [y]))) else Nx H3) := by
  refine lc_enum (K := K) (a := a) (xs := xs) (fun i H' => Same H H' ∧ H' D = some (.lst (ys.take i))) ⟨same_new hD, by rw [upd_same]; rfl⟩ (fun i H' _ p => p.1.seq hS) (fun i x T H' hx hT p => ?_) (fun H' p => ?_)
  · have hi : i < ys.length := by
      rw [hn]
      exact (List.getElem?_eq_some_iff.mp hx).1
    refine hs i x ys[i] T H' _ _ hx (List.getElem?_eq_getElem hi) hT p.1 (ne_none p.2) fun H2 s2 => ⟨_, s2 _ _ (same_new hT _ _ p.2), ?_, ?_, ?_⟩
    · rw [List.length_take]
      exact small1000000 (by omega)
    · exact same_put (p.1.trans ((same_new hT).trans s2)) hD
    · rw [upd_same, List.take_add_one, List.getElem?_eq_getElem hi]
      rfl
  · refine hd H' p.1 ?_
    have e := p.2
    rw [← hn, List.take_length] at e
    exact e
theorem lc_enumTV {K : PySem.W.Frag} {a : Addr} {xs ys : List V} {g : TG} {tt : TT} {te : TE} {vs : List Nat} {σ : L2.St} {H : Hp} {D : Addr} {Qd : Hp → Prop} (hD : H D = none) (hS : SqT K H a xs) (hn : ys.length = xs.length) (hz : xs.length ≤ 1000000)
    (hs : ∀ (i : Nat) (x y : V) (T : Addr) (H' : Hp) (C : VK) (N : Hp → Prop), xs[i]? = some x → ys[i]? = some y → H' T = none → Same H H' → H' D ≠ none → (∀ H2, Same (upd H' T (.tup [.int (i : Nat), x])) H2 → C y H2) → g (.ref T) (wipe σ vs) (upd H' T (.tup [.int (i : Nat), x])) fun σ2 H2 => wipe σ2 vs = wipe σ vs ∧ tt σ2 H2 fun b H3 => if b = true then te σ2 H3 C else N H3)
    (hd : ∀ H', Same H H' → H' D = some (.lst ys) → Qd H') :
    ∃ W : Nat → Nat → Hp → Prop, (∃ m, W 0 m (upd H D (.lst []))) ∧ ∀ i m H, W i m H →
      ((Itet K a).stop i H ∧ Qd H) ∨ ((Itet K a).go i H ∧ ∃ Nx : Hp → Prop, (∀ H', Nx H' → ∃ m', m' < m ∧ W (i + 1) m' H') ∧ ∀ x H', (Itet K a).yld i H x H' → g x (wipe σ vs) H' fun σ2 H2 => wipe σ2 vs = wipe σ vs ∧ tt σ2 H2 fun b H3 =>
        if b = true then te σ2 H3 fun y H4 => ∃ acc, H4 D = some (.lst acc) ∧ acc.length < sizeLine ∧ Nx (upd H4 D (.lst (acc ++ [y]))) else Nx H3) := by
  refine lc_enumT (K := K) (a := a) (xs := xs) (fun i H' => Same H H' ∧ H' D = some (.lst (ys.take i))) ⟨same_new hD, by rw [upd_same]; rfl⟩ (fun i H' _ p => same_sqt p.1 hS) (fun i x T H' hx hT p => ?_) (fun H' p => ?_)
  · have hi : i < ys.length := by
      rw [hn]
      exact (List.getElem?_eq_some_iff.mp hx).1
    refine hs i x ys[i] T H' _ _ hx (List.getElem?_eq_getElem hi) hT p.1 (ne_none p.2) fun H2 s2 => ⟨_, s2 _ _ (same_new hT _ _ p.2), ?_, ?_, ?_⟩
    · rw [List.length_take]
      exact small1000000 (by omega)
    · exact same_put (p.1.trans ((same_new hT).trans s2)) hD
    · rw [upd_same, List.take_add_one, List.getElem?_eq_getElem hi]
      rfl
  · refine hd H' p.1 ?_
    have e := p.2
    rw [← hn, List.take_length] at e
    exact e
/-- elements are data that are made on the way -/
theorem lc_enumD {K : PySem.W.Frag} {a : Addr} {xs : List V} {ys : List PyData} {g : TG} {tt : TT} {te : TE} {vs : List Nat} {σ : L2.St} {H : Hp} {D : Addr} {Qd : Hp → Prop} (M : Ms) (hM : Mk M H) (hD : H D = none) (hS : SqL K H a xs) (hn : ys.length = xs.length) (hz : xs.length ≤ 1000000)
    (hs : ∀ (i : Nat) (x : V) (y : PyData) (T : Addr) (H' : Hp) (C : VK) (N : Hp → Prop), xs[i]? = some x → ys[i]? = some y → H' T = none → Same H H' → Mk (also M D) (upd H' T (.tup [.int (i : Nat), x])) → (∀ v H2, Same (upd H' T (.tup [.int (i : Nat), x])) H2 → Rp (also M D) H2 v y → C v H2) → g (.ref T) (wipe σ vs) (upd H' T (.tup [.int (i : Nat), x])) fun σ2 H2 => wipe σ2 vs = wipe σ vs ∧ tt σ2 H2 fun b H3 => if b = true then te σ2 H3 C else N H3)
    (hd : ∀ H', Same H H' → Ld M H' D ys → Qd H') :
    ∃ W : Nat → Nat → Hp → Prop, (∃ m, W 0 m (upd H D (.lst []))) ∧ ∀ i m H, W i m H →
      ((Ite K a).stop i H ∧ Qd H) ∨ ((Ite K a).go i H ∧ ∃ Nx : Hp → Prop, (∀ H', Nx H' → ∃ m', m' < m ∧ W (i + 1) m' H') ∧ ∀ x H', (Ite K a).yld i H x H' → g x (wipe σ vs) H' fun σ2 H2 => wipe σ2 vs = wipe σ vs ∧ tt σ2 H2 fun b H3 =>
        if b = true then te σ2 H3 fun y H4 => ∃ acc, H4 D = some (.lst acc) ∧ acc.length < sizeLine ∧ Nx (upd H4 D (.lst (acc ++ [y]))) else Nx H3) := by
  refine lc_enum (K := K) (a := a) (xs := xs) (fun i H' => Same H H' ∧ ∃ acc, H' D = some (.lst acc) ∧ RpAll (also M D) H' acc (ys.take i)) ⟨same_new hD, [], upd_same, by rw [List.take_zero]; exact .nil⟩ (fun i H' _ p => p.1.seq hS) (fun i x T H' hx hT p => ?_) (fun H' p => ?_)
  · obtain ⟨s, acc, e, r⟩ := p
    have hi : i < ys.length := by
      rw [hn]
      exact (List.getElem?_eq_some_iff.mp hx).1
    have hl := r.length
    rw [List.length_take] at hl
    have s1 : Same H' (upd H' T (.tup [.int (i : Nat), x])) := same_new hT
    refine hs i x ys[i] T H' _ _ hx (List.getElem?_eq_getElem hi) hT s (((hM.gr (Gr.same s)).also (ne_none e)).gr (Gr.same s1)) fun v H2 s2 rv => ?_
    refine ⟨acc, s2 _ _ (s1 _ _ e), small1000000 (by omega), ?_, acc ++ [v], upd_same, ?_⟩
    · exact same_put (s.trans (s1.trans s2)) hD
    · rw [List.take_add_one, List.getElem?_eq_getElem hi]
      exact ((r.sx (Sx.same (s1.trans s2))).append (.one rv)).sx (Sx.put (.inr rfl))
  · obtain ⟨s, acc, e, r⟩ := p
    rw [← hn, List.take_length] at r
    exact hd H' s ⟨hM.out hD, acc, e, r.less also_le⟩
end D
namespace D
open PySem PySem.Spec PyProof.Rows L2
theorem mt_lcountK {K : PySem.W.Frag} {X : Cx} (hK : X.K = K) : MtR X "list.count" (rCntI K) := by subst hK; exact mt_lcount
end D
namespace D
open PySem PySem.Spec PyProof.Rows L2
section
variable {X : Cx} {K : PySem.W.Frag} {o e : Expr} {es : List Expr} {to : TE} {t : TA} {name : Str} {apos cpos : Pos} {T id : String} {r : V → List V → Hp → VK → Prop}
theorem pe_bm0K2 (hK : X.K = K) (pa : PlainAttrs T) (slot : Slot T name id) (hty : typeOf (.builtin id) = pure (.type "method_descriptor")) (hm : MtR X id r) (ho : PE X o to)
    (hbase : attributeBase o name X.env (eval o X.env) = eval o X.env := by rfl) (hline : (apos.endLine == cpos.line) = true := by rfl) : PE X (.Call (.Attribute o name apos) [] [] cpos) (tBM0 K T r to) := by
  subst hK
  exact pe_bm0 pa slot hty hm ho hbase hline
theorem pe_bmK2 (hK : X.K = K) (pa : PlainAttrs T) (slot : Slot T name id) (hty : typeOf (.builtin id) = pure (.type "method_descriptor")) (hm : MtR X id r) (ho : PE X o to) (ha : PA X (e :: es) t)
    (hbase : attributeBase o name X.env (eval o X.env) = eval o X.env := by rfl)
    (hfew : ((backTo cpos (starEach (e :: es) X.env)).all (fun x => !x.1) && (backToKw cpos (keywordEach [] X.env)).all (fun x => x.1.isSome)
      && decide ((e :: es).length + ([] : List Keyword).length + (if ([] : List Keyword).isEmpty then 0 else 1) < 30)) = true := by rfl)
    (hline : (apos.endLine == cpos.line) = true := by rfl) (hs : starEach (e :: es) X.env = (false, eval e X.env) :: starEach es X.env := by rfl) (hplain : (backTo cpos (starEach es X.env)).any (·.1) = false := by rfl) :
    PE X (.Call (.Attribute o name apos) (e :: es) [] cpos) (tBM K T r to t) := by
  subst hK
  exact pe_bm pa slot hty hm ho ha hbase hfew hline hs hplain
end
end D

namespace D
open PySem PySem.Spec PyProof.Rows L2
/-- comprehensions' loops, whatever their bodies -/
theorem rng_loop {n : Nat} {lo : Int} {Qd : Hp → Prop} {H0 : Hp} {B : V → Hp → (Hp → Prop) → Prop} (Pv : Nat → Hp → Prop) (h0 : Pv 0 H0) (hs : ∀ i H, i < n → Pv i H → B (.int (lo + (i : Nat))) H (Pv (i + 1))) (hd : ∀ H, Pv n H → Qd H) :
    ∃ W : Nat → Nat → Hp → Prop, (∃ m, W 0 m H0) ∧ ∀ i m H, W i m H → ((Itr lo n).stop i H ∧ Qd H) ∨ ((Itr lo n).go i H ∧ ∃ Nx : Hp → Prop, (∀ H', Nx H' → ∃ m', m' < m ∧ W (i + 1) m' H') ∧ ∀ x H', (Itr lo n).yld i H x H' → B x H' Nx) := by
  refine ⟨fun i m H => m = n - i ∧ i ≤ n ∧ Pv i H, ⟨_, rfl, Nat.zero_le _, h0⟩, ?_⟩
  rintro i m H ⟨rfl, hi, p⟩
  by_cases hlt : i < n
  · refine .inr ⟨hlt, Pv (i + 1), fun H' p' => ⟨n - (i + 1), by omega, rfl, hlt, p'⟩, fun x H' y => ?_⟩
    obtain ⟨rfl, rfl⟩ := y
    exact hs i _ hlt p
  · have e : i = n := by omega
    subst e
    exact .inl ⟨Nat.le_refl _, hd H p⟩
theorem list_loop {K : PySem.W.Frag} {a : Addr} {xs : List V} {Qd : Hp → Prop} {H0 : Hp} {B : V → Hp → (Hp → Prop) → Prop} (Pv : Nat → Hp → Prop) (h0 : Pv 0 H0) (hl : ∀ i H, i ≤ xs.length → Pv i H → SqL K H a xs) (hs : ∀ i x H, xs[i]? = some x → Pv i H → B x H (Pv (i + 1))) (hd : ∀ H, Pv xs.length H → Qd H) :
    ∃ W : Nat → Nat → Hp → Prop, (∃ m, W 0 m H0) ∧ ∀ i m H, W i m H → ((Itl K a).stop i H ∧ Qd H) ∨ ((Itl K a).go i H ∧ ∃ Nx : Hp → Prop, (∀ H', Nx H' → ∃ m', m' < m ∧ W (i + 1) m' H') ∧ ∀ x H', (Itl K a).yld i H x H' → B x H' Nx) := by
  refine ⟨fun i m H => m = xs.length - i ∧ i ≤ xs.length ∧ Pv i H, ⟨_, rfl, Nat.zero_le _, h0⟩, ?_⟩
  rintro i m H ⟨rfl, hi, p⟩
  have q := hl i H hi p
  by_cases hlt : i < xs.length
  · refine .inr ⟨⟨xs, xs[i], q, by simp [hlt]⟩, Pv (i + 1), fun H' p' => ⟨xs.length - (i + 1), by omega, rfl, hlt, p'⟩, fun x H' y => ?_⟩
    obtain ⟨e, y⟩ := y
    subst e
    exact hs i x _ (y xs q) p
  · have e : i = xs.length := by omega
    subst e
    exact .inl ⟨⟨xs, q, Nat.le_refl _⟩, hd H p⟩
theorem tup_loop {K : PySem.W.Frag} {a : Addr} {xs : List V} {Qd : Hp → Prop} {H0 : Hp} {B : V → Hp → (Hp → Prop) → Prop} (Pv : Nat → Hp → Prop) (h0 : Pv 0 H0) (hl : ∀ i H, i ≤ xs.length → Pv i H → SqT K H a xs) (hs : ∀ i x H, xs[i]? = some x → Pv i H → B x H (Pv (i + 1))) (hd : ∀ H, Pv xs.length H → Qd H) :
    ∃ W : Nat → Nat → Hp → Prop, (∃ m, W 0 m H0) ∧ ∀ i m H, W i m H → ((Itt K a).stop i H ∧ Qd H) ∨ ((Itt K a).go i H ∧ ∃ Nx : Hp → Prop, (∀ H', Nx H' → ∃ m', m' < m ∧ W (i + 1) m' H') ∧ ∀ x H', (Itt K a).yld i H x H' → B x H' Nx) := by
  refine ⟨fun i m H => m = xs.length - i ∧ i ≤ xs.length ∧ Pv i H, ⟨_, rfl, Nat.zero_le _, h0⟩, ?_⟩
  rintro i m H ⟨rfl, hi, p⟩
  have q := hl i H hi p
  by_cases hlt : i < xs.length
  · refine .inr ⟨⟨xs, xs[i], q, by simp [hlt]⟩, Pv (i + 1), fun H' p' => ⟨xs.length - (i + 1), by omega, rfl, hlt, p'⟩, fun x H' y => ?_⟩
    obtain ⟨e, y⟩ := y
    subst e
    exact hs i x _ (y xs q) p
  · have e : i = xs.length := by omega
    subst e
    exact .inl ⟨⟨xs, q, Nat.le_refl _⟩, hd H p⟩
/-- a dict made of pairs of whole numbers -/
def toldK (ps : List (Int × Int)) : List (Key × V) := ps.foldl (fun k p => putK k (.inl p.2) (.int p.1)) []
theorem putK_le (c : List (Key × V)) (k : Key) (x : V) : (putK c k x).length ≤ c.length + 1 := by
  unfold putK
  split
  · rw [List.length_map]; omega
  · rw [List.length_append]; exact Nat.le_refl _
theorem toldK_snoc (ps : List (Int × Int)) (p : Int × Int) : toldK (ps ++ [p]) = putK (toldK ps) (.inl p.2) (.int p.1) := by
  unfold toldK
  rw [List.foldl_append]
  rfl
theorem told_all (ps : List (Int × Int)) : ∀ qs : List (Int × Int), (∀ p ∈ qs, p ∈ ps) → ∀ s w, valV (toldK qs) (.inl s) = some w → ∃ v, w = .int v ∧ (v, s) ∈ ps := by
  suffices h : ∀ (qs : List (Int × Int)) (c : List (Key × V)), (∀ p ∈ qs, p ∈ ps) → (∀ s w, valV c (.inl s) = some w → ∃ v, w = .int v ∧ (v, s) ∈ ps) → ∀ s w, valV (qs.foldl (fun k p => putK k (.inl p.2) (.int p.1)) c) (.inl s) = some w → ∃ v, w = .int v ∧ (v, s) ∈ ps from fun qs hq => h qs [] hq (fun s w e => nomatch e)
  intro qs
  induction qs with
  | nil => intro c _ hc; exact hc
  | cons q r ih =>
    intro c hq hc
    refine ih _ (fun p hp => hq p (List.mem_cons_of_mem _ hp)) (fun s w e => ?_)
    rw [valV_put] at e
    split at e
    · rename_i e2
      cases e2
      cases e
      exact ⟨_, rfl, hq q List.mem_cons_self⟩
    · exact hc s w e
theorem told_mem : ∀ (qs : List (Int × Int)) (p : Int × Int), p ∈ qs → ∃ w, valV (toldK qs) (.inl p.2) = some w := by
  suffices h : ∀ (qs : List (Int × Int)) (c : List (Key × V)) (s : Int), ((∃ p ∈ qs, p.2 = s) ∨ ∃ w, valV c (.inl s) = some w) → ∃ w, valV (qs.foldl (fun k p => putK k (.inl p.2) (.int p.1)) c) (.inl s) = some w from fun qs p hp => h qs [] p.2 (.inl ⟨p, hp, rfl⟩)
  intro qs
  induction qs with
  | nil =>
    intro c s h
    rcases h with ⟨_, h, _⟩ | h
    · exact nomatch h
    · exact h
  | cons q r ih =>
    intro c s h
    refine ih _ s ?_
    rcases h with ⟨p, hp, e⟩ | ⟨w, e⟩
    · rcases List.mem_cons.mp hp with rfl | hp
      · exact .inr ⟨_, by rw [valV_put, if_pos (by rw [e])]⟩
      · exact .inl ⟨p, hp, e⟩
    · right
      rw [valV_put]
      split
      · exact ⟨_, rfl⟩
      · exact ⟨w, e⟩
/-- what such a dict tells of a pair -/
theorem told_get {ps : List (Int × Int)} {p : Int × Int} (h : p ∈ ps) : ∃ v, valV (toldK ps) (.inl p.2) = some (.int v) ∧ (v, p.2) ∈ ps := by
  obtain ⟨w, e⟩ := told_mem ps p h
  obtain ⟨v, rfl, hv⟩ := told_all ps ps (fun _ h => h) _ _ e
  exact ⟨v, e, hv⟩
end D

namespace D
open PySem PySem.Spec PyProof.Rows L2
/-! ### dict comprehensions whose keys are tuples (after the layer's own for ints and texts) -/
theorem d_dictSetT {X : Cx} {pins : List (Addr × Obj)} {σ : L2.St} {H : Hp} {s : Shared} {E : Value → Shared → Prop} {D : Addr} {kvs : List (List Key × V)} {k : List Key} {b : Addr} {v : V} {u r : Value} {Q : Unit → Shared → Prop} (hu : X.A.units + 1 < cLine) (I : Inv X pins σ H s) (hD : H D = some (.dT kvs)) (hz : kvs.length < sizeLine)
    (eb : H b = some (.tup (k.map kV))) (ry : RelV (.ref b) u) (rv : RelV v r) (h : ∀ s', Inv X pins σ (upd H D (.dT (putK kvs k v))) s' → Q () s') : wpAny (model X.prog X.w) X.A (dictSet D u r) Q E s := by
  cases (show u = Value.ref b from ry)
  obtain ⟨z, hd, xs, rel, dd⟩ := dt_of I.hok hD
  have hz' : xs.length ≤ sizeLine := by rw [← Paired.length rel]; exact z
  have hl : (putK kvs k v).length ≤ sizeLine := by have := length_putK kvs k v; omega
  refine wpAny_dictSet_heap (hsz := hz') (show (tupleKind (mixKind X.prog X.w)).room X.A from Nat.lt_of_succ_lt hu) (key_of I.hok eb) dd fun h' dd' hs => h _ ?_
  obtain ⟨q, es, ep, hq, h2, h3, h4, _, h5⟩ := dd'
  refine d_write I (by rw [hD]; exact True.intro) hs ⟨q, hq⟩ ⟨hl, hd, _, (rel.put k eb rv).keeps fun c ys ec => ?_, q, es, ep, hq, h2, h3, h4, h5⟩
  rw [upd_ne (ne_of ec hD (fun z => nomatch z))]
  exact ec
theorem key_rd {P : Program} {w : World} {H : Hp} {h : Heap} {a : Addr} {ks : List Key} (ok : HOk P w H h) (e : Rd H a (.tup (ks.map kV))) : (tupleKind (mixKind P w)).is h ks a := by
  obtain ⟨_, its, r, o, h1, h2, n, h3⟩ := (show ObjOk P w H h a (.tup (ks.map kV)) from rd_of ok e)
  exact ⟨o, its.toArray, n, h1, h2, h3, by simpa using items_are r⟩
section
variable {X : Cx}
/-- something holds of all contexts that a block may have -/
abbrev InBlk (X : Cx) (sc : Scope) (F : Cx → Prop) : Prop := ∀ (t : Shared) (G : Hp) (L : Addr) (cells : List (Str × Addr)) (feet : List Addr), F (X.blk t G sc (compEnvC sc cells L X.env) feet)
/-- what a comprehension does with a new dict at D: O what stands there, Put the storing of a pair -/
def tDcG (O : Addr → HO) (Put : Addr → (Hp → Prop) → V → V → Hp → Prop) (walk : TI) (g : TG) (tt : TT) (tk tv : TE) (own : List Nat) : TE := fun σ H Q => walk σ H fun J H1 => ∀ D, H1 D = none → ∃ W : Nat → Nat → Hp → Prop, (∃ m, W 0 m (upd H1 D (O D))) ∧ ∀ i m G, W i m G →
  (J.stop i G ∧ Q (.ref D) G) ∨ (J.go i G ∧ ∃ N : Hp → Prop, (∀ G', N G' → ∃ m', m' < m ∧ W (i + 1) m' G') ∧
    ∀ x G', J.yld i G x G' → g x (wipe σ own) G' fun σ2 G2 => wipe σ2 own = wipe σ own ∧ tt σ2 G2 fun b G3 => if b = true then tk σ2 G3 fun y G4 => tv σ2 G4 fun z G5 => Put D N y z G5 else N G3)
/-- the pair is put into the dict at D -/
def PutT (D : Addr) (N : Hp → Prop) (y z : V) (G : Hp) : Prop := ∃ kvs k b, y = .ref b ∧ G b = some (.tup (k.map kV)) ∧ G D = some (.dT kvs) ∧ kvs.length < sizeLine ∧ N (upd G D (.dT (putK kvs k z)))
/-- what a storing must be -/
def Stores (X : Cx) (Put : Addr → (Hp → Prop) → V → V → Hp → Prop) : Prop := ∀ (B : Cx) (pins : List (Addr × Obj)) (σ : L2.St) (G : Hp) (t : Shared) (D : Addr) (N : Hp → Prop) (y z : V) (u r : Value) (Q : Unit → Shared → Prop) (E : Value → Shared → Prop),
  B.prog = X.prog → B.w = X.w → B.A = X.A → B.K = X.K → Inv B pins σ G t → Put D N y z G → RelV y u → RelV z r → (∀ t' G', Inv B pins σ G' t' → N G' → Q () t') → wpAny (model B.prog B.w) B.A (dictSet D u r) Q E t
theorem pe_dcG {O : Addr → HO} {Put : Addr → (Hp → Prop) → V → V → Hp → Prop} {kx vx tgt it : Expr} {ifs : List Expr} {sc : Scope} {own : List (Str × Nat)} {pos : Pos} {walk : TI} {g : TG} {tt : TT} {tk tv : TE} (mk0 : ∀ (H : Hp) (h : Heap), sysModules < h.objs.size → ObjOk X.prog X.w H (h.push { cls := .type "dict", data := .dict #[] }) h.objs.size (O h.objs.size)) (store : Stores X Put) (calm : X.calm = true) (nod : X.N.Nodup)
    (pi : PI X tgt it walk) (bo : BlkOk X.N X.env.scope sc own) (pg : InBlk X sc fun B => PG B tgt g) (pt : InBlk X sc fun B => PTs B ifs tt) (pk : InBlk X sc fun B => PE B kx tk) (pv : InBlk X sc fun B => PE B vx tv)
    (plain : ∀ x, foldedSetIterable it X.env x = pure x := by intro _; rfl) : PE X (.DictComp kx vx [⟨tgt, it, ifs, 0⟩] sc pos) (tDcG O Put walk g tt tk tv (own.map (·.2))) := ⟨fun pins s σ H Q I h => by
  rw [arm_eval_DictComp]
  have free : ∀ y ∈ sc.names, y.2 = .free → ∃ c, X.env.cells.lookup y.1 = some c := fun y hy e => (bo.free y hy e).elim (fun k => I.ok.has _ (.inl k)) fun k => I.ok.has _ (.inr k)
  refine wpAny_comprehension_free (use := none) rfl plain (closure_ok free) bo.kind (fun y hy e => by rw [bo.uniq y hy, e]) ?_
  -- what is walked, then the empty dict
  refine thn (pi.run pins s σ H _ I h) fun xv s1 hx => thn hx ?_
  rintro itv s2 ⟨ad, feet, tn, J, H2, rfl, I2, T, at2, ft2, q⟩
  refine wpAny_newObj_type (newEnv_comp ?_)
  have fresh : H2 s2.heap.objs.size = none := I2.hok.fresh (Nat.le_refl _)
  obtain ⟨W, ⟨m0, w0⟩, turn⟩ := q _ fresh
  let s3 : Shared := { s2 with heap := s2.heap.push { cls := .type "dict", data := .dict #[] } }
  let D : Addr := s2.heap.objs.size
  let H3 : Hp := upd H2 D (O D)
  let L : Addr := s3.heap.objs.size
  let e3 : Env := compEnvC sc (cellsFrom (L + 1) sc.names (cloFrom X.env.cells sc.names [])) L X.env
  let s4 : Shared := { s3 with heap := pushCells (s3.heap.push { cls := .type "dict", data := .dict #[] }) sc.names }
  have I3 : Inv X pins σ H3 s3 := I2.laid (t' := s2.toks) (fun _ _ e => Heap.get?_push_of_some _ e) (Nat.le_refl _) (mk0 _ s2.heap I2.big)
  have grown : ∀ b o, s2.heap.get? b = some o → s3.heap.get? b = some o := fun _ _ e => Heap.get?_push_of_some _ e
  have low : ∀ b ∈ feet, b < s2.heap.objs.size := fun b hb => Heap.lt_size (T.obj _ _ at2 b hb).choose_spec.1
  have ft3 : ∀ b ∈ feet, FpOk X pins H3 b ∧ b < s3.heap.objs.size := fun b hb => ⟨⟨(upd_ne (Nat.ne_of_lt (low b hb))).trans (ft2 b hb).1, (ft2 b hb).2⟩, by show b < (s2.heap.push _).objs.size; rw [Heap.size_push]; exact Nat.lt_succ_of_lt (low b hb)⟩
  have at3 : tn 0 s3.heap := T.keep _ _ _ at2 fun b _ o e => grown b o e
  have I4 : Inv (X.blk s3 H3 sc e3 feet) [] (wipe σ (own.map (·.2))) H3 s4 := block_start I3 bo nod ft3
  have at4 : tn 0 s4.heap := T.keep _ _ _ at3 fun b _ o e => pushCells_keeps _ _ _ _ (Heap.get?_push_of_some _ e)
  -- the walker's own objects in the block's context
  have foot : ∀ {σ' : L2.St} {G : Hp} {t : Shared}, Inv (X.blk s3 H3 sc e3 feet) [] σ' G t → (∀ b ∈ feet, G b = none) → ∀ b ∈ feet, FpOk (X.blk s3 H3 sc e3 feet) [] G b := by
    intro σ' G t J' none b hb
    refine ⟨none b hb, (J'.ok.exf b hb).1, J'.ok.exfs b hb, .inl hb, fun x c e => (J'.ok.exf b hb).2 x c e, ?_⟩
    intro p hp
    exact nomatch (show p ∈ ([] : List (Addr × Obj)) from by simpa using hp)
  have loop : codeAny (model X.prog X.w) X.A (.compLoop (.DictComp kx vx [⟨tgt, it, ifs, 0⟩] sc pos) 0 (.ref ad) (.ref D) e3) (compPost (model X.prog X.w) X.A X.xe none (fun v t => ∃ x G, Inv X pins σ G t ∧ RelV x v ∧ Q x G) (.ref D) L) s4 := by
    refine compLoop_anyD (fun n t => ∃ i G, Inv (X.blk s3 H3 sc e3 feet) [] (wipe σ (own.map (·.2))) G t ∧ tn i t.heap ∧ (∀ b ∈ feet, G b = none) ∧ W i n G) ?_ m0 ⟨0, H3, I4, at4, fun b hb => (ft3 b hb).1.1, w0⟩
    rintro n t ⟨i, G, IG, atG, nG, wG⟩
    obtain ⟨stop, fin⟩ | ⟨go, N, less, step⟩ := turn i n G wG
    · refine thnF (T.done (X.blk s3 H3 sc e3 feet) rfl rfl rfl calm i [] t _ G (fun _ _ => False) IG (foot IG nG) atG stop) ?_
      rintro r t6 ⟨rfl, I6⟩
      have I7 : Inv X pins σ G t6 := I3.call' (ch := feet) I6.os I6.base I6.hok I6.bare fun b hb => let z := (ft3 b hb).1.2; ⟨z.2.2.1, z.1, z.2.2.2.1, z.2.2.2.2⟩
      obtain ⟨m, names, _⟩ := I6.loc
      obtain ⟨a0, a1, a2, a3, a4, a5⟩ := I3.fpOk (Nat.le_refl _) (show G L = none from I6.free)
      exact ⟨m, names, fun h'' kept => ⟨.ref D, G, I7.turned (t' := t6.toks) (fun b o hb e => (kept.2 b hb).trans e) a0 a1 a3 a4 a5, rfl, fin⟩⟩
    · refine thnF (T.item (X.blk s3 H3 sc e3 feet) rfl rfl rfl calm i [] t _ G (fun _ _ => False) IG (foot IG nG) atG go) ?_
      rintro r t6 ⟨u, rfl, h6⟩
      refine thnF h6 ?_
      rintro _ t7 ⟨x, G7, I7, r7, y7, at7, n7⟩
      refine thnF ((pg _ _ _ _ _).run _ t7 _ G7 x u _ (I7.pinned (foot I7 n7) (T.obj _ _ at7)) r7 (step x G7 y7)) ?_
      rintro _ t8 ⟨σ8, G8, I8, wp8, q8⟩
      refine thnF ((pt _ _ _ _ _).run _ t8 σ8 G8 _ I8 q8) ?_
      rintro b t9 ⟨G9, I9, q9⟩
      have back : ∀ {t' : Shared} {G' : Hp}, Inv (X.blk s3 H3 sc e3 feet) ([] ++ pinsAt feet t7.heap) σ8 G' t' → N G' → ∃ m, m < n ∧ ∃ i G, Inv (X.blk s3 H3 sc e3 feet) [] (wipe σ (own.map (·.2))) G t' ∧ tn i t'.heap ∧ (∀ b ∈ feet, G b = none) ∧ W i m G := by
        intro t' G' I' nx
        obtain ⟨m', lt, w'⟩ := less G' nx
        have held : ∀ b ∈ feet, ∀ o, t7.heap.get? b = some o → t'.heap.get? b = some o ∧ G' b = none := fun b hb o e => let z := I'.pin (b, o) (List.mem_append_right _ (List.mem_append_right _ (mem_pinsAt hb e))); ⟨z.1, z.2.1⟩
        refine ⟨m', lt, i + 1, G', I'.unpinned.weak (by rw [← wp8, wipe_length]) fun j v e => ?_, T.keep _ _ _ at7 fun b hb o e => (held b hb o e).1, fun b hb => ?_, w'⟩
        · exact (wipe_some (wp8 ▸ e)).1
        · obtain ⟨o, e, _⟩ := T.obj _ _ at7 b hb
          exact (held b hb o e).2
      by_cases yes : b = true
      · subst yes
        refine thnF ((pk _ _ _ _ _).run _ t9 σ8 G9 _ I9 q9) ?_
        rintro ku t10 ⟨ky, G10, I10, r10, q10⟩
        refine thnF ((pv _ _ _ _ _).run _ t10 σ8 G10 _ I10 q10) ?_
        rintro vu t11 ⟨vy, G11, I11, r11, putting⟩
        exact store (X.blk s3 H3 sc e3 feet) _ _ _ _ _ _ _ _ _ _ _ _ rfl rfl rfl rfl I11 putting r10 r11 fun t12 G12 I12 nx => back I12 nx
      · have no : b = false := by cases b with | true => exact absurd rfl yes | false => rfl
        subst no
        exact back I9 q9
  exact codeAny_compStart_dict loop (T.self X.A 0 _ _ _ at4 loop)⟩
/-- keys that are tuples of ints and texts -/
abbrev tDcT (walk : TI) (g : TG) (tt : TT) (tk tv : TE) (own : List Nat) : TE := tDcG (fun _ => .dT []) PutT walk g tt tk tv own
theorem stores_T (hu : X.A.units + 1 < cLine) : Stores X PutT := by
  rintro B pins σ G t D N y z u r Q E e1 e2 e3 e4 I ⟨kvs, k, kb, rfl, tup, dict, room, nx⟩ ry rz h
  exact d_dictSetT (by rw [e3]; exact hu) I dict room tup ry rz fun t' I' => h t' _ I' nx
theorem pe_dcT {kx vx tgt it : Expr} {ifs : List Expr} {sc : Scope} {own : List (Str × Nat)} {pos : Pos} {walk : TI} {g : TG} {tt : TT} {tk tv : TE} (hu : X.A.units + 1 < cLine) (calm : X.calm = true) (nod : X.N.Nodup)
    (pi : PI X tgt it walk) (bo : BlkOk X.N X.env.scope sc own) (pg : InBlk X sc fun B => PG B tgt g) (pt : InBlk X sc fun B => PTs B ifs tt) (pk : InBlk X sc fun B => PE B kx tk) (pv : InBlk X sc fun B => PE B vx tv)
    (plain : ∀ x, foldedSetIterable it X.env x = pure x := by intro _; rfl) : PE X (.DictComp kx vx [⟨tgt, it, ifs, 0⟩] sc pos) (tDcT walk g tt tk tv (own.map (·.2))) :=
  pe_dcG (fun _ h b => dt_empty h b) (stores_T hu) calm nod pi bo pg pt pk pv plain
/-! ### dicts whose keys are tuples that may be known to their objects -/
/-- the dict at a: kvs its pairs, ks its keys with the tuples that stand for them -/
def KX (kvs : List (List Key × V)) (ks : List (List Key × Addr)) (xs : List (List Key × Addr × Value)) : Prop := Paired (fun (p : List Key × V) (q : List Key × Addr × Value) => p.1 = q.1 ∧ RelV p.2 q.2.2) kvs xs ∧ xs.map (fun q => (q.1, q.2.1)) = ks
def dXo (P : Program) (w : World) (a : Addr) (kvs : List (List Key × V)) (ks : List (List Key × Addr)) : HO := .ext fun h => kvs.length ≤ sizeLine ∧ (a == sysModules) = false ∧ ∃ xs, KX kvs ks xs ∧ (∃ o es ep, h.get? a = some o ∧ o.ExactDict ∧ o.data = .dict es ep ∧ es.toList = xs.map (entryOfKey (tupleKind (mixKind P w)))) ∧ (xs.map (·.1)).Nodup
theorem dXo_ok {P : Program} {w : World} {H : Hp} {h : Heap} {a : Addr} {kvs : List (List Key × V)} {ks : List (List Key × Addr)} {xs : List (List Key × Addr × Value)} {o : Obj} {es : Array DictEntry} {ep : Nat} (l : kvs.length ≤ sizeLine) (n : (a == sysModules) = false) (r : KX kvs ks xs) (g : h.get? a = some o) (x : o.ExactDict) (d : o.data = .dict es ep)
    (e : es.toList = xs.map (entryOfKey (tupleKind (mixKind P w)))) (nd : (xs.map (·.1)).Nodup) : ObjOk P w H h a (dXo P w a kvs ks) := by
  refine ⟨⟨l, n, xs, r, ⟨o, es, ep, g, x, d, e⟩, nd⟩, ⟨o, g⟩, ?_⟩
  rintro h1 h2 ⟨l1, n1, xs1, r1, ⟨o1, es1, ep1, g1, x1, d1, e1⟩, nd1⟩ same
  exact ⟨l1, n1, xs1, r1, ⟨o1, es1, ep1, same o1 g1, x1, d1, e1⟩, nd1⟩
/-- the tuples stand -/
def KsAt (H : Hp) (ks : List (List Key × Addr)) : Prop := ∀ p ∈ ks, Rd H p.2 (.tup (p.1.map kV))
theorem dXo_at {P : Program} {w : World} {H : Hp} {h : Heap} {a : Addr} {kvs : List (List Key × V)} {ks : List (List Key × Addr)} (ok : HOk P w H h) (e : H a = some (dXo P w a kvs ks)) (t : KsAt H ks) :
    kvs.length ≤ sizeLine ∧ (a == sysModules) = false ∧ ∃ xs, KX kvs ks xs ∧ h.DictOfH (tupleKind (mixKind P w)) a xs := by
  obtain ⟨⟨l, n, xs, r, ⟨o, es, ep, g, x, d, e1⟩, nd⟩, _⟩ := ok a _ e
  refine ⟨l, n, xs, r, o, es, ep, g, x, d, e1, fun q hq => ?_, nd⟩
  have hk : (q.1, q.2.1) ∈ ks := by rw [← r.2]; exact List.mem_map.mpr ⟨q, hq, rfl⟩
  exact key_rd ok (t _ hk)
theorem paired_keys {F : (List Key × V) → (List Key × Addr × Value) → Prop} (hF : ∀ p q, F p q → p.1 = q.1) : ∀ {kvs : List (List Key × V)} {xs : List (List Key × Addr × Value)}, Paired F kvs xs → kvs.map (·.1) = xs.map (·.1) := by
  intro kvs xs r
  induction r with
  | nil => rfl
  | cons h t ih => rw [List.map_cons, List.map_cons, ih, hF _ _ h]
theorem kx_val {kvs : List (List Key × V)} {ks : List (List Key × Addr)} {xs : List (List Key × Addr × Value)} (r : KX kvs ks xs) (k : List Key) : RelO (valV kvs k) ((atKey xs k).map (·.2)) := by
  replace r := r.1
  induction r with
  | nil => exact True.intro
  | @cons p q ps qs h t ih =>
    by_cases c : p.1 = k
    · have c' : q.1 = k := h.1.symm.trans c
      rw [valV_pos c, show atKey (q :: qs) k = some q.2 by simp [atKey, List.find?_cons, c']]
      exact h.2
    · have c' : ¬ q.1 = k := fun z => c (h.1.trans z)
      rw [valV_neg c, show atKey (q :: qs) k = atKey qs k by simp [atKey, List.find?_cons, c']]
      exact ih
/-- the keys behind a storing -/
def ksPut (kvs : List (List Key × V)) (ks : List (List Key × Addr)) (k : List Key) (b : Addr) : List (List Key × Addr) := if (valV kvs k).isSome = true then ks else ks ++ [(k, b)]
theorem kx_put {kvs : List (List Key × V)} {ks : List (List Key × Addr)} {xs : List (List Key × Addr × Value)} (r : KX kvs ks xs) (k : List Key) (b : Addr) {y : V} {u : Value} (ry : RelV y u) : KX (putK kvs k y) (ksPut kvs ks k b) (storedH xs k b u) := by
  have e : (valV kvs k).isSome = (atKey xs k).isSome := by rw [(kx_val r k).isSome_eq, Option.isSome_map]
  obtain ⟨r, rk⟩ := r
  unfold putK storedH ksPut
  rw [valV_any, e]
  by_cases c : (atKey xs k).isSome = true
  · rw [if_pos c, if_pos c, if_pos c]
    refine ⟨?_, ?_⟩
    · clear rk e c
      induction r with
      | nil => exact .nil
      | @cons p q ps qs h t ih =>
        refine .cons ?_ ih
        show (if p.1 = k then (p.1, y) else p).1 = (putAt k u q).1 ∧ RelV (if p.1 = k then (p.1, y) else p).2 (putAt k u q).2.2
        unfold putAt
        by_cases d : p.1 = k
        · rw [if_pos d, if_pos (h.1.symm.trans d)]
          exact ⟨h.1, ry⟩
        · rw [if_neg d, if_neg (fun z => d (h.1.trans z))]
          exact h
    · rw [← rk, List.map_map]
      refine List.map_congr_left fun q _ => ?_
      show ((putAt k u q).1, (putAt k u q).2.1) = _
      unfold putAt
      split <;> rfl
  · rw [if_neg c, if_neg c, if_neg c]
    exact ⟨Paired.snoc r ⟨rfl, ry⟩, by rw [List.map_append, rk]; rfl⟩
def PutX (P : Program) (w : World) (D : Addr) (N : Hp → Prop) (y z : V) (G : Hp) : Prop := ∃ kvs ks k b, y = .ref b ∧ Rd G b (.tup (k.map kV)) ∧ G D = some (dXo P w D kvs ks) ∧ KsAt G ks ∧ kvs.length < sizeLine ∧ N (upd G D (dXo P w D (putK kvs k z) (ksPut kvs ks k b)))
theorem stores_X (hu : X.A.units + 1 < cLine) : Stores X (PutX X.prog X.w) := by
  rintro B pins σ G t D N y z u r Q E e1 e2 e3 e4 I ⟨kvs, ks, k, kb, rfl, tup, dict, kat, room, nx⟩ ry rz h
  cases (show u = Value.ref kb from ry)
  rw [← e1, ← e2] at dict nx
  obtain ⟨l, n, xs, rel, dd⟩ := dXo_at I.hok dict kat
  have lx : xs.length = kvs.length := (Paired.length rel.1).symm
  refine wpAny_dictSet_heap (hsz := by omega) (show (tupleKind (mixKind B.prog B.w)).room B.A from by rw [e3]; exact Nat.lt_of_succ_lt hu) (key_rd I.hok tup) dd fun h' dd' same => h _ _ ?_ nx
  obtain ⟨o, es, ep, g, x, d, e5, _, nd⟩ := dd'
  exact d_write I (by rw [dict]; exact True.intro) same ⟨o, g⟩ (dXo_ok (Nat.le_trans (length_putK kvs k z) room) n (kx_put rel k kb rz) g x d e5 nd)
theorem dXo_empty {P : Program} {w : World} (H : Hp) (h : Heap) (b : sysModules < h.objs.size) : ObjOk P w H (h.push { cls := .type "dict", data := .dict #[] }) h.objs.size (dXo P w h.objs.size [] []) :=
  dXo_ok (xs := []) (Nat.zero_le _) (beq_eq_false_iff_ne.mpr (Ne.symm (Nat.ne_of_lt b))) ⟨.nil, rfl⟩ (Heap.get?_push_size _ rfl) ⟨rfl, rfl, rfl⟩ rfl rfl List.nodup_nil
abbrev tDcX (P : Program) (w : World) (walk : TI) (g : TG) (tt : TT) (tk tv : TE) (own : List Nat) : TE := tDcG (fun D => dXo P w D [] []) (PutX P w) walk g tt tk tv own
theorem pe_dcX {P : Program} {w : World} (hP : X.prog = P) (hw : X.w = w) {kx vx tgt it : Expr} {ifs : List Expr} {sc : Scope} {own : List (Str × Nat)} {pos : Pos} {walk : TI} {g : TG} {tt : TT} {tk tv : TE} (hu : X.A.units + 1 < cLine) (calm : X.calm = true) (nod : X.N.Nodup)
    (pi : PI X tgt it walk) (bo : BlkOk X.N X.env.scope sc own) (pg : InBlk X sc fun B => PG B tgt g) (pt : InBlk X sc fun B => PTs B ifs tt) (pk : InBlk X sc fun B => PE B kx tk) (pv : InBlk X sc fun B => PE B vx tv)
    (plain : ∀ x, foldedSetIterable it X.env x = pure x := by intro _; rfl) : PE X (.DictComp kx vx [⟨tgt, it, ifs, 0⟩] sc pos) (tDcX P w walk g tt tk tv (own.map (·.2))) := by
  subst hP hw
  exact pe_dcG (fun H h b => dXo_empty H h b) (stores_X hu) calm nod pi bo pg pt pk pv plain
/-- d[k] of such a dict -/
def tXGet (P : Program) (w : World) (td ty : TE) : TE := fun σ H Q => td σ H fun x H1 => ty σ H1 fun y H2 => ∃ a kvs ks k b v, x = .ref a ∧ y = .ref b ∧ H2 a = some (dXo P w a kvs ks) ∧ KsAt H2 ks ∧ Rd H2 b (.tup (k.map kV)) ∧ valV kvs k = some v ∧ Q v H2
theorem pe_xget {P : Program} {w : World} (hP : X.prog = P) (hw : X.w = w) (hu : X.A.units + 1 < cLine) {o i : Expr} {td ty : TE} {pos : Pos} (ho : PE X o td) (hi : PE X i ty) (hs : NoSl i) : PE X (.Subscript o i pos) (tXGet P w td ty) := by
  subst hP hw
  refine ⟨fun pins s σ H Q I h => ?_⟩
  refine subD_of PySem.F.slot_dict_getitem.lookup hs (thn (ho.run pins s σ H _ I h) fun ov s1 ⟨x, H1, I1, rx, q1⟩ => thn (hi.run pins s1 σ H1 _ I1 q1) ?_)
  rintro iv s2 ⟨y, H2, I2, ry, a, kvs, ks, k, b, v, rfl, rfl, dict, kat, tup, has, q2⟩
  obtain rfl : ov = Value.ref a := rx
  cases (show iv = Value.ref b from ry)
  obtain ⟨l, n, xs, rel, dd⟩ := dXo_at I2.hok dict kat
  have rv := kx_val rel k
  rw [has] at rv
  obtain ⟨u, hp, ru⟩ := RelO.some_of rv
  obtain ⟨p, hp', rfl⟩ := Option.map_eq_some_iff.mp hp
  refine ⟨?_, wpAny_getItem_heap (tupleKind_room_in1 hu) (key_rd I2.hok tup) dd hp' ?_⟩
  · obtain ⟨o', es, ep, g, x, _⟩ := dd
    exact ⟨o', g, x.1⟩
  · exact ⟨v, H2, I2.tok _, ru, q2⟩
/-- deep membership, in lists and in tuples -/
def rInDT (K : PySem.W.Frag) : R2 := fun x y H Q => ∃ d ds, Dp K H x d ∧ Dp K H y (.tuple ds) ∧ SeqAt.shaped d = true ∧ SeqAt.shaped (.tuple ds) = true ∧ Q (.bl (ds.any fun z => PyData.eqv z d)) H
def rNotInDT (K : PySem.W.Frag) : R2 := fun x y H Q => ∃ d ds, Dp K H x d ∧ Dp K H y (.tuple ds) ∧ SeqAt.shaped d = true ∧ SeqAt.shaped (.tuple ds) = true ∧ Q (.bl (!ds.any fun z => PyData.eqv z d)) H
theorem op_inDT {K : PySem.W.Frag} (hK : X.K = K) (hu : X.A.units + 65 < cLine) : OpR X (compareOp .In) (rInDT K) := by
  subst hK
  intro pins s σ H x y v u Q I rx ry h
  obtain ⟨d, ds, hd, he, sd, se, q⟩ := h
  obtain ⟨as, r1⟩ := Dp.reads I d x v hd rx
  obtain ⟨bs, r2⟩ := Dp.reads I (.tuple ds) y u he ry
  exact SeqAt.in_tuple_reads r2 r1 (SeqAt.canLay_of_shaped se) (SeqAt.canLay_of_shaped sd) (room_in_shaped sd hu) ⟨.bl _, H, I, rfl, q⟩
theorem op_notInDT {K : PySem.W.Frag} (hK : X.K = K) (hu : X.A.units + 65 < cLine) : OpR X (compareOp .NotIn) (rNotInDT K) := by
  subst hK
  intro pins s σ H x y v u Q I rx ry h
  obtain ⟨d, ds, hd, he, sd, se, q⟩ := h
  obtain ⟨as, r1⟩ := Dp.reads I d x v hd rx
  obtain ⟨bs, r2⟩ := Dp.reads I (.tuple ds) y u he ry
  exact SeqAt.notIn_tuple_reads r2 r1 (SeqAt.canLay_of_shaped se) (SeqAt.canLay_of_shaped sd) (room_in_shaped sd hu) ⟨.bl _, H, I, rfl, q⟩
theorem op_inDK {K : PySem.W.Frag} (hK : X.K = K) (hu : X.A.units + 65 < cLine) : OpR X (compareOp .In) (rInD K) := by subst hK; exact op_inD hu
theorem op_notInDK {K : PySem.W.Frag} (hK : X.K = K) (hu : X.A.units + 65 < cLine) : OpR X (compareOp .NotIn) (rNotInD K) := by subst hK; exact op_notInD hu
/-- t.index(n), the first place, of a tuple of ints -/
def rTIdx (K : PySem.W.Frag) : V → List V → Hp → VK → Prop := fun x xs H Q => ∃ p, ∃ ys : List Int, ∃ z j, x = .ref p ∧ xs = [.int z] ∧ SqT K H p (ys.map V.int) ∧ ys[j]? = some z ∧ (∀ m, m < j → ys[m]? ≠ some z) ∧ Q (.int (j : Nat)) H
theorem flat_ints (ys : List Int) : (ys.map V.int).all flatV = true := by induction ys <;> simp_all [flatV]
theorem mt_tup_indexI {K : PySem.W.Frag} (hK : X.K = K) : MtR X "tuple.index" (rTIdx K) := by
  subst hK
  rintro pins s σ H _ _ v us Q I rx rs ⟨p, ys, z, j, rfl, rfl, reads, found, first, q⟩
  cases rx
  obtain ⟨_, rfl, tk, rfl⟩ := vals1 rs
  obtain ⟨its, vals, ⟨⟨_, dd, _, sl⟩, stands, rfl, n, rfl⟩, _⟩ := I.tuple reads
  have size : its.length = ys.length := by simpa using vals.length.symm
  have item : ∀ m : Nat, m < ys.length → ∃ t', its[m]? = some (Value.int (ys.getD m 0) t') := by
    intro m hm
    obtain ⟨w, hw, t', rfl⟩ := vals.get (i := m) (x := V.int (ys.getD m 0)) (by simp [hm])
    exact ⟨t', hw⟩
  have eqs : ∀ (m : Nat) (hm : m < its.toArray.size), eqU (V.int z) its.toArray[m] = decide (ys.getD m 0 = z) := by
    intro m hm
    obtain ⟨t', e⟩ := item m (by simpa [size] using hm)
    have e' : its.toArray[m] = Value.int (ys.getD m 0) t' := by
      have := (List.getElem?_eq_some_iff.mp e).2
      simpa using this
    rw [e']
    rfl
  have inside := (List.getElem?_eq_some_iff.mp found).1
  have jz : ys.getD j 0 = z := by rw [List.getD_eq_getElem?_getD, found]; rfl
  have answer := TI.tuple_indexAt p its.toArray n dd sl (.int z tk) (eqU (.int z)) j (by simpa [size] using inside) (by rw [eqs, jz]; exact decide_eq_true rfl) (fun m hm lt => by
    rw [eqs]
    refine decide_eq_false fun e => first m lt ?_
    have inm : m < ys.length := by simpa [size] using hm
    rw [List.getElem?_eq_getElem inm, ← e, List.getD_eq_getElem?_getD, List.getElem?_eq_getElem inm]
    rfl)
  exact call_meets PySem.F.slot_tuple_index ⟨_, stands, rfl⟩ PySem.F.entry_tuple_index (PySem.F.args_tuple_index_2 _ _) answer
    ⟨stands, fun w hw => mem_eqAt (x := .int z) ⟨tk, rfl⟩ rfl vals (flat_ints ys) w (by simpa using hw), ⟨.int (j : Nat), H, I.tok _, ⟨_, rfl⟩, q⟩⟩
end
/-! ### loops over enumerate and zip, whatever their bodies -/
theorem enumL_loop {K : PySem.W.Frag} {a : Addr} {xs : List V} {Qd : Hp → Prop} {H0 : Hp} {B : V → Hp → (Hp → Prop) → Prop} (Pv : Nat → Hp → Prop) (h0 : Pv 0 H0) (hl : ∀ i H, i ≤ xs.length → Pv i H → SqL K H a xs) (hs : ∀ i x T H, xs[i]? = some x → H T = none → Pv i H → B (.ref T) (upd H T (.tup [.int (i : Nat), x])) (Pv (i + 1))) (hd : ∀ H, Pv xs.length H → Qd H) :
    ∃ W : Nat → Nat → Hp → Prop, (∃ m, W 0 m H0) ∧ ∀ i m H, W i m H → ((Ite K a).stop i H ∧ Qd H) ∨ ((Ite K a).go i H ∧ ∃ Nx : Hp → Prop, (∀ H', Nx H' → ∃ m', m' < m ∧ W (i + 1) m' H') ∧ ∀ x H', (Ite K a).yld i H x H' → B x H' Nx) := by
  refine ⟨fun i m H => m = xs.length - i ∧ i ≤ xs.length ∧ Pv i H, ⟨_, rfl, Nat.zero_le _, h0⟩, ?_⟩
  rintro i m H ⟨rfl, hi, p⟩
  have q := hl i H hi p
  by_cases hlt : i < xs.length
  · refine .inr ⟨⟨xs, xs[i], q, by simp [hlt]⟩, Pv (i + 1), fun H' p' => ⟨xs.length - (i + 1), by omega, rfl, hlt, p'⟩, fun x H' y => ?_⟩
    obtain ⟨T, z, rfl, hT, rfl, hz⟩ := y
    exact hs i z T _ (hz xs q) hT p
  · have e : i = xs.length := by omega
    subst e
    exact .inl ⟨⟨xs, q, Nat.le_refl _⟩, hd H p⟩
theorem enumT_loop {K : PySem.W.Frag} {a : Addr} {xs : List V} {Qd : Hp → Prop} {H0 : Hp} {B : V → Hp → (Hp → Prop) → Prop} (Pv : Nat → Hp → Prop) (h0 : Pv 0 H0) (hl : ∀ i H, i ≤ xs.length → Pv i H → SqT K H a xs) (hs : ∀ i x T H, xs[i]? = some x → H T = none → Pv i H → B (.ref T) (upd H T (.tup [.int (i : Nat), x])) (Pv (i + 1))) (hd : ∀ H, Pv xs.length H → Qd H) :
    ∃ W : Nat → Nat → Hp → Prop, (∃ m, W 0 m H0) ∧ ∀ i m H, W i m H → ((Itet K a).stop i H ∧ Qd H) ∨ ((Itet K a).go i H ∧ ∃ Nx : Hp → Prop, (∀ H', Nx H' → ∃ m', m' < m ∧ W (i + 1) m' H') ∧ ∀ x H', (Itet K a).yld i H x H' → B x H' Nx) := by
  refine ⟨fun i m H => m = xs.length - i ∧ i ≤ xs.length ∧ Pv i H, ⟨_, rfl, Nat.zero_le _, h0⟩, ?_⟩
  rintro i m H ⟨rfl, hi, p⟩
  have q := hl i H hi p
  by_cases hlt : i < xs.length
  · refine .inr ⟨⟨xs, xs[i], q, by simp [hlt]⟩, Pv (i + 1), fun H' p' => ⟨xs.length - (i + 1), by omega, rfl, hlt, p'⟩, fun x H' y => ?_⟩
    obtain ⟨T, z, rfl, hT, rfl, hz⟩ := y
    exact hs i z T _ (hz xs q) hT p
  · have e : i = xs.length := by omega
    subst e
    exact .inl ⟨⟨xs, q, rfl⟩, hd H p⟩
end D
namespace D
open PySem PySem.Spec PyProof.Rows L2
section
variable {X : Cx}
/-- tuple(list): the new object is known to have no dict -/
def rTupF (K : PySem.W.Frag) : List V → Hp → VK → Prop := fun xs H Q => ∃ p ys, xs = [.ref p] ∧ SqL K H p ys ∧ ∀ l o, H l = none → o.cls = .type "tuple" → o.dict = none → Q (.ref l) (upd H l (.frz o (.tup ys)))
theorem call_tupleF {K : PySem.W.Frag} (hK : X.K = K) : CallR X (.type "tuple") (rTupF K) := by
  subst hK
  intro pins s σ H xs us Q I r h
  obtain ⟨p, ys, rfl, hq, q⟩ := h
  obtain ⟨u, rfl, rx⟩ := vals1 r
  cases rx
  obtain ⟨its, r', pl, hz⟩ := I.list hq
  have hlen := r'.length
  refine call_tuple_list pl.isList (fun h' kp => ?_) (by simp only [List.size_toArray] <;> omega)
  have I1 : Inv X pins σ H { s with heap := h' } := I.kept (t' := s.toks) kp
  have I2 : Inv X pins σ (upd H h'.objs.size (.frz { cls := .type "tuple", data := .seq its.toArray } (.tup ys))) { s with heap := h'.push { cls := .type "tuple", data := .seq its.toArray } } :=
    I1.laid (t' := s.toks) (fun b o e => Heap.get?_push_of_some _ e) (Nat.le_refl _) (show ObjOk X.prog X.w _ _ _ (.frz _ (.tup ys)) from ⟨Heap.get?_push_size _ rfl, hz, its, r', IsTup.new _ _⟩)
  exact ⟨.ref h'.objs.size, _, I2, rfl, q _ _ (I1.hok.fresh (Nat.le_refl _)) rfl rfl⟩
/-- t[lo:hi], the cut known to its object -/
def rSlF (K : PySem.W.Frag) : V → Option Int → Option Int → Hp → VK → Prop := fun x lo hi H Q => ∃ a xs, x = .ref a ∧ SqT K H a xs ∧
  (HT.sIx xs.length 0 lo = 0 ∧ HT.sIx xs.length xs.length hi = xs.length → Q (.ref a) H) ∧ (¬ (HT.sIx xs.length 0 lo = 0 ∧ HT.sIx xs.length xs.length hi = xs.length) → ∀ p o, H p = none → o.cls = .type "tuple" → o.dict = none → Q (.ref p) (upd H p (.frz o (.tup (cutV xs lo hi)))))
theorem sl_tupF {K : PySem.W.Frag} (hK : X.K = K) : SlR X (rSlF K) := by
  subst hK
  rintro pins s σ H _ v vl vu lo hi sl Q I rx hs pl pu ⟨a, xs, rfl, reads, all, part⟩
  by_cases whole : HT.sIx xs.length 0 lo = 0 ∧ HT.sIx xs.length xs.length hi = xs.length
  · exact sl_tupA pins s σ H _ v vl vu lo hi sl Q I rx hs pl pu ⟨a, xs, rfl, reads, all, fun z => absurd whole z⟩
  · cases rx
    obtain ⟨its, vals, stands, small⟩ := I.tuple reads
    have size : its.toArray.size = xs.length := by rw [List.size_toArray]; exact vals.length.symm
    refine ⟨"tuple", _, PyProof.Rows.slot_tuple_getitem.lookup, stands.typeIs, HT.getItem_tuple_cut stands hs pl pu (by rw [size]; exact whole) ?_ (by rw [size]; exact small)⟩
    rw [size]
    have cut := (vals.drop (HT.sIx xs.length 0 lo)).take (HT.sIx xs.length xs.length hi - HT.sIx xs.length 0 lo)
    let ob : Obj := { cls := .type "tuple", data := .seq ((its.drop (HT.sIx xs.length 0 lo)).take (HT.sIx xs.length xs.length hi - HT.sIx xs.length 0 lo)).toArray }
    have good : ObjOk X.prog X.w (upd H s.heap.objs.size (.frz ob (.tup (cutV xs lo hi)))) (s.heap.push ob) s.heap.objs.size (.frz ob (.tup (cutV xs lo hi))) := ⟨Heap.get?_push_size _ rfl, Nat.le_trans (cutV_length xs lo hi) small, _, cut, IsTup.new _ _⟩
    exact ⟨.ref s.heap.objs.size, _, I.laid (t' := s.toks) (fun b ob e => Heap.get?_push_of_some _ e) (Nat.le_refl _) good, rfl, part whole _ ob (I.hok.fresh (Nat.le_refl _)) rfl rfl⟩
def tyTup (x : V) (H : Hp) : Prop := ∃ a o u, x = .ref a ∧ H a = some (.frz o u) ∧ o.cls = .type "tuple" ∧ o.dict = none
theorem ty_tup : TyOk X "tuple" tyTup := by
  intro pins σ H s x v I r h
  obtain ⟨a, o, u, rfl, e, hc, hd⟩ := h
  cases r
  obtain ⟨e2, _⟩ := I.hok a _ e
  refine ⟨⟨o, e2, hc⟩, fun b eb => ?_⟩
  cases eb
  exact ⟨o, e2, hd⟩
end
/-- rows -/
def RowAt (M : Ms) (H : Hp) (v : V) (ns : List Int) : Prop := ∃ a, v = .ref a ∧ ¬ M a ∧ Rd H a (.tup (ns.map V.int))
def RowF (M : Ms) (H : Hp) (v : V) (ns : List Int) : Prop := ∃ a o, v = .ref a ∧ ¬ M a ∧ H a = some (.frz o (.tup (ns.map V.int))) ∧ o.cls = .type "tuple" ∧ o.dict = none
theorem RowF.row {M : Ms} {H : Hp} {v : V} {ns : List Int} (h : RowF M H v ns) : RowAt M H v ns := by
  obtain ⟨a, o, e, n, ha, _⟩ := h
  exact ⟨a, e, n, .inr ⟨o, ha⟩⟩
theorem RowAt.sx {M : Ms} {H H' : Hp} {v : V} {ns : List Int} (h : RowAt M H v ns) (s : Sx M H H') : RowAt M H' v ns := by
  obtain ⟨a, e, n, ha⟩ := h
  exact ⟨a, e, n, sx_rd s n ha⟩
theorem RowF.sx {M : Ms} {H H' : Hp} {v : V} {ns : List Int} (h : RowF M H v ns) (s : Sx M H H') : RowF M H' v ns := by
  obtain ⟨a, o, e, n, ha, r⟩ := h
  exact ⟨a, o, e, n, s _ _ n ha, r⟩
theorem RowAt.less {M N : Ms} {H : Hp} {v : V} {ns : List Int} (h : RowAt M H v ns) (f : ∀ a, N a → M a) : RowAt N H v ns := by
  obtain ⟨a, e, n, ha⟩ := h
  exact ⟨a, e, fun z => n (f a z), ha⟩
theorem RowF.less {M N : Ms} {H : Hp} {v : V} {ns : List Int} (h : RowF M H v ns) (f : ∀ a, N a → M a) : RowF N H v ns := by
  obtain ⟨a, o, e, n, ha⟩ := h
  exact ⟨a, o, e, fun z => n (f a z), ha⟩
theorem RowF.fresh {M : Ms} {H : Hp} {v : V} {ns : List Int} {p : Addr} (hp : H p = none) (h : RowF M H v ns) : RowF (also M p) H v ns := by
  obtain ⟨a, o, e, n, ha, r⟩ := h
  refine ⟨a, o, e, fun z => ?_, ha, r⟩
  rcases z with z | z
  · exact n z
  · rw [show a = p from z, hp] at ha
    cases ha
end D

namespace D
open PySem PySem.Spec PyProof.Rows L2
theorem hu65 {A : Around} {k : Nat} (hr : Room k A) : A.units + 65 < cLine := by have := hr.un; omega
/-! ### idents and matches -/
abbrev IP := Int × Int
def idp (ws : List Int) : List IP := ws.mapIdx fun i w => (w, (((ws.take i).count w : Nat) : Int))
theorem idp_len (ws : List Int) : (idp ws).length = ws.length := List.length_mapIdx
theorem idp_at {ws : List Int} {i : Nat} {w : Int} (h : ws[i]? = some w) : (idp ws)[i]? = some (w, (((ws.take i).count w : Nat) : Int)) := by
  unfold idp
  rw [List.getElem?_mapIdx, h]
  rfl
theorem nodup_get {α : Type} {l : List α} : l.Nodup ↔ ∀ i j : Nat, i < j → j < l.length → l[i]? ≠ l[j]? := by
  unfold List.Nodup
  rw [List.pairwise_iff_getElem]
  constructor
  · intro h i j hij hj e
    rw [List.getElem?_eq_getElem (Nat.lt_trans hij hj), List.getElem?_eq_getElem hj] at e
    exact h i j (Nat.lt_trans hij hj) hj hij (Option.some.inj e)
  · intro h i j hi hj hij e
    exact h i j hij hj (by rw [List.getElem?_eq_getElem hi, List.getElem?_eq_getElem hj, e])
theorem idp_nodup (ws : List Int) : (idp ws).Nodup := by
  rw [nodup_get]
  intro i j hij hj
  have hj' : j < ws.length := by rw [idp_len] at hj; exact hj
  have hi' : i < ws.length := Nat.lt_trans hij hj'
  have ei : ws[i]? = some ws[i] := List.getElem?_eq_getElem hi'
  have ej : ws[j]? = some ws[j] := List.getElem?_eq_getElem hj'
  rw [idp_at ei, idp_at ej]
  intro e
  have e' := Option.some.inj e
  have e1 : ws[i] = ws[j] := congrArg Prod.fst e'
  have e2 : (((ws.take i).count ws[i] : Nat) : Int) = ((ws.take j).count ws[j] : Nat) := congrArg Prod.snd e'
  have e3 : (ws.take i).count ws[i] = (ws.take j).count ws[j] := Int.ofNat.inj e2
  rw [← e1] at e3
  have s1 : List.Sublist ((ws.take (i + 1))) (ws.take j) := by
    have : ws.take (i + 1) = (ws.take j).take (i + 1) := by rw [List.take_take]; congr 1; omega
    rw [this]
    exact List.take_sublist _ _
  have c1 := s1.count_le ws[i]
  rw [List.take_add_one, ei, List.count_append] at c1
  have : List.count ws[i] (some ws[i]).toList = 1 := by simp
  omega
def pos (B : List IP) (x : IP) : Option Nat := if x ∈ B then some (B.idxOf x) else none
theorem pos_snoc {B : List IP} {b : IP} (hb : b ∉ B) (x : IP) : pos (B ++ [b]) x = if x = b then some B.length else pos B x := by
  unfold pos
  by_cases e : x = b
  · subst e
    rw [if_pos rfl, if_pos (by simp), List.idxOf_append, if_neg hb]
    simp
  · rw [if_neg e]
    by_cases m : x ∈ B
    · rw [if_pos m, if_pos (by simp [m]), List.idxOf_append, if_pos m]
    · rw [if_neg m, if_neg (by simp [m, e])]
theorem pos_take {B : List IP} (hB : B.Nodup) {i : Nat} {b : IP} (h : B[i]? = some b) (x : IP) : pos (B.take (i + 1)) x = if x = b then some i else pos (B.take i) x := by
  have hi : i < B.length := (List.getElem?_eq_some_iff.mp h).1
  have hb : b ∉ B.take i := by
    intro hm
    obtain ⟨j, hj⟩ := List.mem_iff_getElem?.mp hm
    have hji : j < i := by
      have := (List.getElem?_eq_some_iff.mp hj).1
      rw [List.length_take] at this
      omega
    rw [List.getElem?_take_of_lt hji] at hj
    exact (nodup_get.mp hB) j i hji hi (hj.trans h.symm)
  have e : B.take (i + 1) = B.take i ++ [b] := by rw [List.take_add_one, h]; rfl
  have := pos_snoc hb x
  rw [← e, List.length_take, Nat.min_eq_left (Nat.le_of_lt hi)] at this
  exact this
theorem pos_lt {B : List IP} {x : IP} {i : Nat} (h : pos B x = some i) : i < B.length ∧ B[i]? = some x := by
  unfold pos at h
  split at h
  · rename_i m
    cases h
    have hl := List.idxOf_lt_length_of_mem m
    exact ⟨hl, by rw [List.getElem?_eq_getElem hl, List.getElem_idxOf hl]⟩
  · cases h
/-- the key of an ident in a dict -/
def kk (x : IP) : List Key := [.inl x.1, .inl x.2]
theorem kk_inj {x y : IP} (h : kk x = kk y) : x = y := by
  have h' : [(Sum.inl x.1 : Key), .inl x.2] = [.inl y.1, .inl y.2] := h
  injection h' with h1 h2
  injection h2 with h2 _
  exact Prod.ext (Sum.inl.inj h1) (Sum.inl.inj h2)
/-- what a dict tells of idents -/
def Tells (kvs : List (List Key × V)) (B : List IP) : Prop := ∀ x, valV kvs (kk x) = (pos B x).map fun (i : Nat) => V.int (i : Int)
theorem tells_nil : Tells [] [] := fun x => by
  unfold pos
  rw [if_neg (by simp)]
  rfl
theorem tells_put {kvs : List (List Key × V)} {B : List IP} (hB : B.Nodup) {i : Nat} {b : IP} (h : B[i]? = some b) (t : Tells kvs (B.take i)) : Tells (putK kvs (kk b) (.int (i : Nat))) (B.take (i + 1)) := fun x => by
  rw [valV_put, pos_take hB h]
  by_cases e : x = b
  · subst e
    rw [if_pos rfl, if_pos rfl]
    rfl
  · rw [if_neg (fun z => e (kk_inj z)), if_neg e]
    exact t x
def mst (B : List IP) (x : IP) (j : Nat) : List IP := match pos B x with
  | some i => [((i : Int), (j : Int))]
  | none => []
def mt (B N : List IP) : List IP := (N.mapIdx fun j x => mst B x j).flatten
theorem mt_step (B : List IP) {N : List IP} {j : Nat} {x : IP} (h : N[j]? = some x) : mt B (N.take (j + 1)) = mt B (N.take j) ++ mst B x j := by
  have hj : j < N.length := (List.getElem?_eq_some_iff.mp h).1
  unfold mt
  rw [List.take_add_one, h]
  show (List.mapIdx _ (List.take j N ++ [x])).flatten = _
  rw [List.mapIdx_append, List.flatten_append]
  congr 1
  rw [List.length_take, Nat.min_eq_left (Nat.le_of_lt hj)]
  show [mst B x (0 + j)].flatten = _
  rw [Nat.zero_add]
  simp
theorem mst_take {B : List IP} (hB : B.Nodup) {i : Nat} {b : IP} (h : B[i]? = some b) (x : IP) (j : Nat) : mst (B.take (i + 1)) x j = mst (B.take i) x j ++ if b = x then [((i : Int), (j : Int))] else [] := by
  have hn : b = x → pos (B.take i) x = none := fun e => by
    subst e
    unfold pos
    rw [if_neg]
    intro hm
    obtain ⟨k, hk⟩ := List.mem_iff_getElem?.mp hm
    have hji : k < i := by
      have := (List.getElem?_eq_some_iff.mp hk).1
      rw [List.length_take] at this
      omega
    rw [List.getElem?_take_of_lt hji] at hk
    exact (nodup_get.mp hB) k i hji (List.getElem?_eq_some_iff.mp h).1 (hk.trans h.symm)
  unfold mst
  rw [pos_take hB h]
  by_cases e : x = b
  · rw [if_pos e, hn e.symm, if_pos e.symm]
    rfl
  · rw [if_neg e, if_neg (fun z => e z.symm), List.append_nil]
theorem mst_nil (x : IP) (j : Nat) : mst [] x j = [] := by
  unfold mst pos
  rw [if_neg (by simp)]
theorem mst_mem {B : List IP} {x : IP} {j : Nat} {p : IP} (h : p ∈ mst B x j) : ∃ i, i < B.length ∧ p = ((i : Int), (j : Int)) := by
  unfold mst at h
  split at h
  · rename_i i e
    exact ⟨i, (pos_lt e).1, List.mem_singleton.mp h⟩
  · exact nomatch h
theorem mt_mem {B N : List IP} {p : IP} (h : p ∈ mt B N) : ∃ i j : Nat, i < B.length ∧ j < N.length ∧ p = ((i : Int), (j : Int)) := by
  unfold mt at h
  obtain ⟨l, hl, hp⟩ := List.mem_flatten.mp h
  obtain ⟨j, hj, rfl⟩ := List.mem_mapIdx.mp hl
  obtain ⟨i, hi, e⟩ := mst_mem hp
  exact ⟨i, j, hi, hj, e⟩
theorem mst_len (B : List IP) (x : IP) (j : Nat) : (mst B x j).length ≤ 1 := by
  unfold mst
  split <;> simp
theorem mt_len (B N : List IP) : (mt B N).length ≤ N.length := by
  suffices h : ∀ n, n ≤ N.length → (mt B (N.take n)).length ≤ n by
    have := h N.length (Nat.le_refl _)
    rw [List.take_length] at this
    exact this
  intro n
  induction n with
  | zero => intro _; simp [mt]
  | succ n ih =>
    intro h
    rw [mt_step B (List.getElem?_eq_getElem (by omega : n < N.length)), List.length_append]
    have := ih (by omega)
    have := mst_len B N[n] n
    omega
/-- slips -/
def atI0 (l : List Int) (i : Int) : Int := l.getD i.toNat 0
theorem atI0_nat {l : List Int} {i : Nat} {x : Int} (h : l[i]? = some x) : atI0 l (i : Int) = x := by
  unfold atI0
  rw [Int.toNat_natCast, List.getD_eq_getElem?_getD, h]
  rfl
def sst (o n : List Int) (p : IP) : List IP := if atI0 o p.1 = atI0 n p.2 then [] else [(atI0 o p.1, atI0 n p.2)]
def slp (o n : List Int) (ms : List IP) : List IP := (ms.map (sst o n)).flatten
theorem slp_step (o n : List Int) {ms : List IP} {j : Nat} {p : IP} (h : ms[j]? = some p) : slp o n (ms.take (j + 1)) = slp o n (ms.take j) ++ sst o n p := by
  unfold slp
  rw [List.take_add_one, h, List.map_append, List.flatten_append]
  simp
theorem slp_len (o n : List Int) : ∀ ms : List IP, (slp o n ms).length ≤ ms.length
  | [] => Nat.le_refl _
  | p :: r => by
    have h1 := slp_len o n r
    have h2 : (sst o n p).length ≤ 1 := by unfold sst; split <;> simp
    show ((sst o n p) ++ slp o n r).length ≤ r.length + 1
    rw [List.length_append]
    omega
/-- lost items -/
def lst1 (o : List Int) (ms : List IP) (x : Int) (j : Nat) : List Int := if x ∈ o ∧ (((o.idxOf x : Nat) : Int), (j : Int)) ∉ ms then [x] else []
def lsts (o n : List Int) (ms : List IP) : List Int := (n.mapIdx fun j x => lst1 o ms x j).flatten
theorem lsts_step (o : List Int) (ms : List IP) {n : List Int} {j : Nat} {x : Int} (h : n[j]? = some x) : lsts o (n.take (j + 1)) ms = lsts o (n.take j) ms ++ lst1 o ms x j := by
  have hj : j < n.length := (List.getElem?_eq_some_iff.mp h).1
  unfold lsts
  rw [List.take_add_one, h]
  show (List.mapIdx _ (List.take j n ++ [x])).flatten = _
  rw [List.mapIdx_append, List.flatten_append]
  congr 1
  rw [List.length_take, Nat.min_eq_left (Nat.le_of_lt hj)]
  show [lst1 o ms x (0 + j)].flatten = _
  rw [Nat.zero_add]
  simp
theorem lsts_len (o n : List Int) (ms : List IP) : (lsts o n ms).length ≤ n.length := by
  suffices h : ∀ k, k ≤ n.length → (lsts o (n.take k) ms).length ≤ k by
    have := h n.length (Nat.le_refl _)
    rw [List.take_length] at this
    exact this
  intro k
  induction k with
  | zero => intro _; simp [lsts]
  | succ k ih =>
    intro h
    rw [lsts_step o ms (List.getElem?_eq_getElem (by omega : k < n.length)), List.length_append]
    have := ih (by omega)
    have : (lst1 o ms n[k] k).length ≤ 1 := by unfold lst1; split <;> simp
    omega
/-- deep facts of pairs -/
theorem pD_lay (p : IP) : (pD p).canLay0 = true := by simp [pD, PyData.canLay0, PyData.canLayAll0]
theorem pD_depth (p : IP) : (pD p).depth = 1 := by simp [pD, PyData.depth, PyData.depthAll]
theorem pDs_lay : ∀ ps : List IP, PyData.canLayAll0 (ps.map pD) = true
  | [] => rfl
  | p :: r => by simp [PyData.canLayAll0, pD_lay p, pDs_lay r]
theorem pDs_depth : ∀ ps : List IP, PyData.depthAll (ps.map pD) ≤ 1
  | [] => Nat.zero_le _
  | p :: r => by
    have := pDs_depth r
    simp only [List.map_cons, PyData.depthAll, pD_depth p]
    omega
theorem pD_shaped (p : IP) : SeqAt.shaped (pD p) = true := by
  refine Bool.and_eq_true_iff.mpr ⟨pD_lay p, decide_eq_true ?_⟩
  rw [pD_depth]
  decide
theorem pDs_shapedL (ps : List IP) : SeqAt.shaped (.list (ps.map pD)) = true := by
  refine Bool.and_eq_true_iff.mpr ⟨by simp [PyData.canLay0, pDs_lay ps], decide_eq_true ?_⟩
  have := pDs_depth ps
  simp only [PyData.depth]
  omega
theorem pDs_shapedT (ps : List IP) : SeqAt.shaped (.tuple (ps.map pD)) = true := by
  refine Bool.and_eq_true_iff.mpr ⟨by simp [PyData.canLay0, pDs_lay ps], decide_eq_true ?_⟩
  have := pDs_depth ps
  simp only [PyData.depth]
  omega
theorem pD_eqv (p q : IP) : PyData.eqv (pD p) (pD q) = decide (p = q) := by
  simp only [pD, PyData.eqv, PyData.eqvAll, Bool.and_true]
  rw [Bool.eq_iff_iff]
  simp only [Bool.and_eq_true, decide_eq_true_iff, beq_iff_eq, Prod.ext_iff]
theorem pD_any (ps : List IP) (p : IP) : ((ps.map pD).any fun z => PyData.eqv z (pD p)) = decide (p ∈ ps) := by
  rw [List.any_map, Bool.eq_iff_iff, List.any_eq_true, decide_eq_true_iff]
  constructor
  · rintro ⟨x, hx, e⟩
    have e' : PyData.eqv (pD x) (pD p) = true := e
    rw [pD_eqv, decide_eq_true_iff] at e'
    rw [← e']
    exact hx
  · intro h
    exact ⟨p, h, by show PyData.eqv (pD p) (pD p) = true; rw [pD_eqv]; exact decide_eq_true rfl⟩
end D
namespace D
open PySem PySem.Spec PyProof.Rows L2
/-! ### a list of data that grows beside -/
def Acc (M : Ms) (H : Hp) (D : Addr) (H' : Hp) (ys : List PyData) : Prop := H D = none ∧ Same H H' ∧ ∃ acc, H' D = some (.lst acc) ∧ RpAll (also M D) H' acc ys
theorem Acc.new {M : Ms} {H : Hp} {D : Addr} (hD : H D = none) : Acc M H D (upd H D (.lst [])) [] := ⟨hD, same_new hD, [], upd_same, .nil⟩
theorem Acc.keep {M : Ms} {H H1 H2 : Hp} {D : Addr} {ys : List PyData} (h : Acc M H D H1 ys) (s : Same H1 H2) : Acc M H D H2 ys := by
  obtain ⟨hD, s0, acc, e, r⟩ := h
  exact ⟨hD, s0.trans s, acc, s _ _ e, r.sx (Sx.same s)⟩
theorem Acc.same {M : Ms} {H H1 : Hp} {D : Addr} {ys : List PyData} (h : Acc M H D H1 ys) : Same H H1 := h.2.1
theorem Acc.at {M : Ms} {H H1 : Hp} {D : Addr} {ys : List PyData} (h : Acc M H D H1 ys) : ∃ acc, H1 D = some (.lst acc) ∧ acc.length = ys.length := by
  obtain ⟨hD, s0, acc, e, r⟩ := h
  exact ⟨acc, e, r.length⟩
theorem Acc.put {M : Ms} {H H1 : Hp} {D : Addr} {ys : List PyData} {v : V} {y : PyData} (h : Acc M H D H1 ys) (r : Rp (also M D) H1 v y) (hl : ys.length ≤ 1000000) : ∃ acc, H1 D = some (.lst acc) ∧ acc.length < sizeLine ∧ Acc M H D (upd H1 D (.lst (acc ++ [v]))) (ys ++ [y]) := by
  obtain ⟨hD, s0, acc, e, ra⟩ := h
  refine ⟨acc, e, small1000000 (by rw [ra.length]; exact hl), hD, same_put s0 hD, acc ++ [v], upd_same, ?_⟩
  exact (ra.append (.one r)).sx (Sx.put (.inr rfl))
theorem Acc.mk {M : Ms} {H H1 : Hp} {D : Addr} {ys : List PyData} (h : Acc M H D H1 ys) (hM : Mk M H) : Mk (also M D) H1 := by
  obtain ⟨hD, s0, acc, e, r⟩ := h
  exact (hM.gr (Gr.same s0)).also (ne_none e)
theorem Acc.fin {M : Ms} {H H1 : Hp} {D : Addr} {ys : List PyData} (h : Acc M H D H1 ys) (hM : Mk M H) : Ld M H1 D ys := by
  obtain ⟨hD, s0, acc, e, r⟩ := h
  exact ⟨hM.out hD, acc, e, r.less also_le⟩
theorem Acc.rp {M : Ms} {H H1 : Hp} {D : Addr} {ys : List PyData} (h : Acc M H D H1 ys) (hM : Mk M H) : Rp M H1 (.ref D) (.list ys) := (h.fin hM).rp
/-- what stood ahead is read in the same way beside the list -/
theorem Acc.old {M : Ms} {H H1 : Hp} {D : Addr} {ys : List PyData} {v : V} {d : PyData} (h : Acc M H D H1 ys) (r : Rp M H v d) : Rp (also M D) H1 v d := (r.fresh h.1).sx (Sx.same h.2.1)
theorem Acc.oldM {M : Ms} {H H1 : Hp} {D : Addr} {ys : List PyData} {v : V} {d : PyData} (h : Acc M H D H1 ys) (r : Rp M H v d) : Rp M H1 v d := r.sx (Sx.same h.2.1)
end D
namespace D
open PySem PySem.Spec PyProof.Rows L2
theorem Rp.newT {M : Ms} {H : Hp} {p : Addr} {us : List V} {ds : List PyData} (hM : Mk M H) (hp : H p = none) (r : RpAll M H us ds) : Rp M (upd H p (.tup us)) (.ref p) (.tuple ds) := .tup (hM.out hp) (.inl upd_same) (r.sx (Sx.new hp))
theorem Rp.newL {M : Ms} {H : Hp} {p : Addr} {us : List V} {ds : List PyData} (hM : Mk M H) (hp : H p = none) (r : RpAll M H us ds) : Rp M (upd H p (.lst us)) (.ref p) (.list ds) := .lst (hM.out hp) (.inl upd_same) (r.sx (Sx.new hp))
theorem Mk.new {M : Ms} {H : Hp} {p : Addr} {o : HO} (hM : Mk M H) : Mk M (upd H p o) := hM.gr Gr.upd
def unI : PyData → Int
  | .int i => i
  | _ => 0
theorem perm_ints {es : List PyData} {l : List Int} (h : es.Perm (l.map PyData.int)) : ∃ ns : List Int, ns.Perm l ∧ es = ns.map PyData.int := by
  refine ⟨es.map unI, ?_, ?_⟩
  · have h1 := h.map unI
    rw [List.map_map] at h1
    have e : l.map (unI ∘ PyData.int) = l := by
      have : (unI ∘ PyData.int) = id := rfl
      rw [this, List.map_id]
    rw [e] at h1
    exact h1
  · rw [List.map_map]
    have e : ∀ x ∈ es, (PyData.int ∘ unI) x = x := fun x hx => by
      obtain ⟨i, _, rfl⟩ := List.mem_map.mp (h.mem_iff.mp hx)
      rfl
    exact (List.map_id es).symm.trans (List.map_congr_left fun x hx => (e x hx).symm)
def ten : List Int := [0, 1, 2, 3, 4, 5, 6, 7, 8, 9]
theorem ten_take (n : Nat) : (ten.take n).Nodup ∧ ∀ x ∈ ten.take n, 0 ≤ x ∧ x ≤ 9 :=
  ⟨(show ten.Nodup by decide).sublist (List.take_sublist n ten), fun x hx => (show ∀ x ∈ ten, 0 ≤ x ∧ x ≤ 9 by decide) x (List.mem_of_mem_take hx)⟩
def mxd (m : Nat) (s : Fm) : Nat := max m s.dep
theorem FmAt.two {M : Ms} {H : Hp} {f : Fm} {xs : List V} (h : FmAt M H f xs) : (∃ y z, xs = [.str y, z] ∧ (y = sIs ∨ y = sGet) ∧ f.dep = 1) ∨ ∃ y r, xs = .str y :: r ∧ r ≠ [] ∧ y ≠ sIs ∧ y ≠ sGet ∧ RpAll M H r (f.subs.map Fm.enc) ∧ f.dep = f.subs.foldl mxd 0 + 1 := by
  cases h with
  | is n => exact .inl ⟨_, _, rfl, .inl rfl, rfl⟩
  | get x => exact .inl ⟨_, _, rfl, .inr rfl, rfl⟩
  | @sum f g u w a b =>
    refine .inr ⟨_, _, rfl, by simp, by decide +kernel, by decide +kernel, .cons a (.one b), ?_⟩
    show max f.dep g.dep + 1 = max (max 0 f.dep) g.dep + 1
    omega
  | @same f g u w a b =>
    refine .inr ⟨_, _, rfl, by simp, by decide +kernel, by decide +kernel, .cons a (.one b), ?_⟩
    show max f.dep g.dep + 1 = max (max 0 f.dep) g.dep + 1
    omega
  | @pick f g k u w z a b c =>
    refine .inr ⟨_, _, rfl, by simp, by decide +kernel, by decide +kernel, .cons a (.cons b (.one c)), ?_⟩
    show max f.dep (max g.dep k.dep) + 1 = max (max (max 0 f.dep) g.dep) k.dep + 1
    omega
theorem ints_mem {l : List Int} (h : ∀ n ∈ l, 0 ≤ n ∧ n ≤ 9) {v : V} (hv : v ∈ l.map V.int) : ∃ n, v = .int n ∧ 0 ≤ n ∧ n ≤ 9 := by
  obtain ⟨n, hn, rfl⟩ := List.mem_map.mp hv
  exact ⟨n, rfl, h n hn⟩
/-- a draw of a row -/
def DrR (K : PySem.W.Frag) (M : Ms) (b : Addr) (H : Hp) (R : List Int → Prop) (Q : VK) : Prop := ∀ v H' ns, Sx (one b) H H' → Gr H H' → Bag K M H' b → RowF M H' v ns → R ns → Q v H'
end D

namespace D
open PySem PySem.Spec PyProof.Rows L2
/-! ### rows that a key mixes up -/
theorem flat_ne {α β : Type} (f : α → List β) (l : List α) : (l.map f).flatten ≠ [] ↔ ∃ x ∈ l, f x ≠ [] := by
  induction l with
  | nil => simp
  | cons a r ih =>
    rw [List.map_cons, List.flatten_cons]
    constructor
    · intro h
      by_cases c : f a = []
      · rw [c, List.nil_append] at h
        obtain ⟨x, hx, e⟩ := ih.mp h
        exact ⟨x, List.mem_cons_of_mem _ hx, e⟩
      · exact ⟨a, List.mem_cons_self, c⟩
    · rintro ⟨x, hx, e⟩ z
      obtain ⟨z1, z2⟩ := List.append_eq_nil_iff.mp z
      rcases List.mem_cons.mp hx with rfl | hx
      · exact e z1
      · exact ih.mpr ⟨x, hx, e⟩ z2
theorem flat_ne_idx {α β : Type} (f : Nat → α → List β) (l : List α) : (l.mapIdx f).flatten ≠ [] ↔ ∃ (j : Nat) (x : α), l[j]? = some x ∧ f j x ≠ [] := by
  have h := flat_ne (fun y => y) (l.mapIdx f)
  rw [List.map_id'] at h
  rw [h]
  constructor
  · rintro ⟨y, hy, e⟩
    obtain ⟨j, hj⟩ := List.mem_iff_getElem?.mp hy
    rw [List.getElem?_mapIdx] at hj
    obtain ⟨x, hx, rfl⟩ := Option.map_eq_some_iff.mp hj
    exact ⟨j, x, hx, e⟩
  · rintro ⟨j, x, hx, e⟩
    exact ⟨f j x, List.mem_iff_getElem?.mpr ⟨j, by rw [List.getElem?_mapIdx, hx]; rfl⟩, e⟩
theorem pos_of {B : List IP} (hB : B.Nodup) {i : Nat} {x : IP} (h : B[i]? = some x) : pos B x = some i := by
  have hm : x ∈ B := List.mem_of_getElem? h
  have hi := (List.getElem?_eq_some_iff.mp h).1
  have h2 := List.idxOf_lt_length_of_mem hm
  have e2 : B[B.idxOf x]? = some x := by rw [List.getElem?_eq_getElem h2, List.getElem_idxOf h2]
  unfold pos
  rw [if_pos hm]
  rcases Nat.lt_trichotomy (B.idxOf x) i with c | c | c
  · exact absurd (e2.trans h.symm) (nodup_get.mp hB _ _ c hi)
  · rw [c]
  · exact absurd (h.trans e2.symm) (nodup_get.mp hB _ _ c h2)
theorem mem_mt {B N : List IP} (hB : B.Nodup) (i j : Nat) : ((i : Int), (j : Int)) ∈ mt B N ↔ ∃ x, B[i]? = some x ∧ N[j]? = some x := by
  constructor
  · intro h
    unfold mt at h
    obtain ⟨l, hl, hp⟩ := List.mem_flatten.mp h
    obtain ⟨k, hk, rfl⟩ := List.mem_mapIdx.mp hl
    unfold mst at hp
    cases e : pos B N[k] with
    | none => rw [e] at hp; exact nomatch hp
    | some m =>
      rw [e] at hp
      have hp' := List.mem_singleton.mp hp
      injection hp' with h1 h2
      have h1' : i = m := Int.ofNat.inj h1
      have h2' : j = k := Int.ofNat.inj h2
      subst h1' h2'
      exact ⟨_, (pos_lt e).2, List.getElem?_eq_getElem hk⟩
  · rintro ⟨x, h1, h2⟩
    unfold mt
    refine List.mem_flatten.mpr ⟨mst B x j, List.mem_iff_getElem?.mpr ⟨j, by rw [List.getElem?_mapIdx, h2]; rfl⟩, ?_⟩
    unfold mst
    rw [pos_of hB h1]
    exact List.mem_singleton.mpr rfl
def badB (o n : List Int) (B N : List IP) : Bool := !(slp o n (mt B N)).isEmpty || !(lsts o n (mt B N)).isEmpty
theorem idx_of {n : List Int} (h : n.Nodup) {i : Nat} {x : Int} (e : n[i]? = some x) : n.idxOf x = i := by
  have hi := (List.getElem?_eq_some_iff.mp e).1
  have hx : x ∈ n := List.mem_of_getElem? e
  have h2 := List.idxOf_lt_length_of_mem hx
  have e2 : n[n.idxOf x]? = some x := by rw [List.getElem?_eq_getElem h2, List.getElem_idxOf h2]
  rcases Nat.lt_trichotomy (n.idxOf x) i with c | c | c
  · exact absurd (e2.trans e.symm) (nodup_get.mp h _ _ c hi)
  · exact c
  · exact absurd (e.trans e2.symm) (nodup_get.mp h _ _ c h2)
theorem bad_iff {o n : List Int} {B N : List IP} (ho : o.Nodup) (hB : B.Nodup) (lB : B.length = o.length) (lN : N.length = n.length) :
    badB o n B N = true ↔ ∃ (i j : Nat) (x y : Int) (u v : IP), o[i]? = some x ∧ n[j]? = some y ∧ B[i]? = some u ∧ N[j]? = some v ∧ decide (u = v) ≠ decide (x = y) := by
  have e1 : badB o n B N = true ↔ (slp o n (mt B N) ≠ [] ∨ lsts o n (mt B N) ≠ []) := by
    unfold badB
    rw [Bool.or_eq_true]
    constructor
    · rintro (h | h)
      · left; intro z; rw [z] at h; exact nomatch h
      · right; intro z; rw [z] at h; exact nomatch h
    · rintro (h | h)
      · left; cases e : slp o n (mt B N) with
        | nil => exact absurd e h
        | cons a r => rfl
      · right; cases e : lsts o n (mt B N) with
        | nil => exact absurd e h
        | cons a r => rfl
  rw [e1]
  have at_ : ∀ {i : Nat}, i < o.length → ∃ u, B[i]? = some u := fun {i} h => ⟨B[i]'(by omega), List.getElem?_eq_getElem _⟩
  constructor
  · rintro (h | h)
    · obtain ⟨p, hp, e⟩ := (flat_ne (sst o n) (mt B N)).mp h
      obtain ⟨i, j, hi, hj, rfl⟩ := mt_mem hp
      obtain ⟨w, h1, h2⟩ := (mem_mt hB i j).mp hp
      have x1 : o[i]? = some (o[i]'(by omega)) := List.getElem?_eq_getElem _
      have x2 : n[j]? = some (n[j]'(by omega)) := List.getElem?_eq_getElem _
      refine ⟨i, j, _, _, w, w, x1, x2, h1, h2, ?_⟩
      rw [decide_eq_true rfl]
      intro z
      have z' := of_decide_eq_true z.symm
      apply e
      unfold sst
      rw [atI0_nat x1, atI0_nat x2, if_pos z']
    · obtain ⟨j, x, hx, e⟩ := (flat_ne_idx (fun j x => lst1 o (mt B N) x j) n).mp h
      have hc : x ∈ o ∧ (((o.idxOf x : Nat) : Int), (j : Int)) ∉ mt B N := by
        by_cases c : x ∈ o ∧ (((o.idxOf x : Nat) : Int), (j : Int)) ∉ mt B N
        · exact c
        · exact absurd (if_neg c) e
      have hix := List.idxOf_lt_length_of_mem hc.1
      have hj := (List.getElem?_eq_some_iff.mp hx).1
      obtain ⟨u, hu⟩ := at_ hix
      have hv : N[j]? = some (N[j]'(by omega)) := List.getElem?_eq_getElem _
      refine ⟨o.idxOf x, j, x, x, u, _, by rw [List.getElem?_eq_getElem hix, List.getElem_idxOf hix], hx, hu, hv, ?_⟩
      rw [decide_eq_true (show x = x from rfl)]
      intro z
      have z' := of_decide_eq_true z
      exact hc.2 ((mem_mt hB _ j).mpr ⟨u, hu, by rw [hv, z']⟩)
  · rintro ⟨i, j, x, y, u, v, hx, hy, hu, hv, hne⟩
    by_cases c : u = v
    · left
      subst c
      have hp : ((i : Int), (j : Int)) ∈ mt B N := (mem_mt hB i j).mpr ⟨u, hu, hv⟩
      refine (flat_ne (sst o n) (mt B N)).mpr ⟨_, hp, ?_⟩
      unfold sst
      rw [atI0_nat hx, atI0_nat hy, if_neg]
      · simp
      · intro z
        apply hne
        rw [decide_eq_true rfl, decide_eq_true z]
    · have xy : x = y := by
        by_cases z : x = y
        · exact z
        · exact absurd (by rw [decide_eq_false c, decide_eq_false z]) hne
      subst xy
      right
      refine (flat_ne_idx (fun j x => lst1 o (mt B N) x j) n).mpr ⟨j, x, hy, ?_⟩
      have hm : x ∈ o := List.mem_of_getElem? hx
      show lst1 o (mt B N) x j ≠ []
      unfold lst1
      rw [if_pos]
      · simp
      · refine ⟨hm, fun z => ?_⟩
        rw [idx_of ho hx] at z
        obtain ⟨w, h1, h2⟩ := (mem_mt hB i j).mp z
        exact c ((Option.some.inj (hu.symm.trans h1)).trans (Option.some.inj (h2.symm.trans hv)))
end D

namespace D
open PySem PySem.Spec PyProof.Rows L2
section
variable {X : Cx} {C g : Addr} {n : Nat} {CX : CXT} {sp : Sp} {E : XK} {fd : FuncData} {ps : List Str}
theorem room_in1 {A : Around} (r : Room (n + 1) A) : Room n A.in1 := ⟨r.hd, by have := r.dp; show A.depth + 3 * n + 5 < _; omega, by have := r.un; show A.units + 1 + 16 * n + 200 < _; omega⟩
/-- a def is run one step in -/
theorem run_in1 {pins : List (Addr × Obj)} {σ : L2.St} {H : Hp} {s : Shared} {Q : VK} {us : List Value} {vs : List V} (F : FnOk X.prog X.w X.K X.mg X.base CX n g fd ps sp) (hr : Room (n + 1) X.A) (hb : Binds X.K fd ps []) (hx : Passes CX X E)
    (I : Inv X pins σ H s) (r : Vals vs us) (h : sp vs H Q E) : wpAny (model X.prog X.w) X.A.in1 (call (.ref g) us) (EP X pins σ Q) X.xe s := by
  have hl : (us ++ []).length = ps.length := by rw [List.append_nil, ← r.length]; exact F.len _ _ _ _ h
  have bd := hb s us I.kIn hl
  rw [List.append_nil] at bd
  refine wpAny_call (codeAny_mono (F.run X.A.in1 X.stack s H ⟨us, []⟩ us vs Q E (room_in1 hr) I.env0.in1 bd r h) fun r s' hq => ?_)
  match r, hq with
  | .error e, hq => exact hx pins σ H s e s' I hq
  | .ok (.ret u), hq => exact I.after hq
  | .ok .next, hq => exact False.elim hq
  | .ok .brk, hq => exact False.elim hq
  | .ok .cont, hq => exact False.elim hq
/-- what an instance's own subscript reads: the def at g answers for the instance and the index -/
def tOwnIx (C : Addr) (sp : Sp) (E : XK) (to ti : TE) : TE := fun σ H Q => to σ H fun x H1 => ti σ H1 fun y H2 => ∃ a dx fs, x = .ref a ∧ H2 a = some (.ins C dx fs) ∧ sp [x, y] H2 Q E
theorem pe_ownIx {o i : Expr} {to ti : TE} {pos : Pos} (ho : PE X o to) (hi : PE X i ti) (hs : PySem.W.findIn X.K (.ref C) "__getitem__" = some (some (.ref g))) (hf : PySem.W.fnIn X.K g = true) (hg : PySem.W.isFn X.K (.ref g) = true)
    (F : FnOk X.prog X.w X.K X.mg X.base CX n g fd ps sp) (hb : Binds X.K fd ps []) (hr : Room (n + 1) X.A) (hx : Passes CX X E)
    (hsl : ∀ ov iv, subscripted i true ov iv = runValue (.builtin "lifetime.subscript" ⟨[ov, iv], []⟩)) : PE X (.Subscript o i pos) (tOwnIx C sp E to ti) := by
  refine ⟨fun pins s σ H Q I h => ?_⟩
  refine Subscript_ (thn (ho.run pins s σ H _ I h) fun ov s1 ⟨x, H1, I1, rx, q1⟩ => thn (hi.run pins s1 σ H1 _ I1 q1) fun iv s2 ⟨y, H2, I2, ry, a, dx, fs, ex, ha, q⟩ => ?_)
  subst ex
  obtain rfl : ov = Value.ref a := rx
  obtain ⟨mA, O, _⟩ := ins_get I2.hok ha
  obtain ⟨od, J, _⟩ := O.look
  obtain ⟨m, hF⟩ := I2.fr
  exact PySem.W.sub_K hF I2.ok.mod.kin J hs hf hg (run_in1 (us := [.ref a, iv]) (vs := [.ref a, y]) F hr hb hx I2 (.cons rfl (.cons ry .nil)) q) (hsl _ _)
/-- the store into an instance by its own def -/
theorem wp_ownPut {prog : Program} {w : World} {A : Around} {Ex : Value → Shared → Prop} {s : Shared} {K : PySem.W.Frag} {x C f : Addr} {ox : Obj} {od : Option Obj} {i v : Value} {Q : Unit → Shared → Prop} (hK : K.In s.heap) (J : PySem.W.InstAt s.heap x ox C od)
    (hq : PySem.W.noSeq K C = true) (hs : PySem.W.findIn K (.ref C) "__setitem__" = some (some (.ref f))) (hf : PySem.W.isFn K (.ref f) = true)
    (h : wpAny (model prog w) A (call (.ref f) [.ref x, i, v]) (fun _ => Q ()) Ex s) : wpAny (model prog w) A (setItem (.ref x) i v) Q Ex s := by
  unfold setItem sequenceKey
  have called : wpAny (model prog w) A (callSpecial? (.ref x) "__setitem__" [i, v]) (fun r => match r with | some _ => Q () | none => fun _ => False) Ex s :=
    PySem.W.special_fn hK J hs (beq_iff_eq.mp hf) h
  refine wpAny_holding (wpAny_bind (wpAny_bind (J.type.here (wpAny_bind ((PySem.W.anyM_none hK hq).here ?_)))))
  rw [if_pos (by rfl : (!false) = true)]
  refine wpAny_pure (wpAny_bind (wpAny_mono called (fun r s' z => ?_) fun _ _ z => z))
  match r, z with
  | some _, z => exact wpAny_pure z
/-- x[i] = v, an own def's store -/
def sOwnPut (C : Addr) (sp : Sp) (E : XK) (to ti tv : TE) : TS := fun D σ H => tv σ H fun v H1 => to σ H1 fun x H2 => ti σ H2 fun y H3 => ∃ a dx fs, x = .ref a ∧ H3 a = some (.ins C dx fs) ∧ sp [x, y, v] H3 (fun _ H4 => D.nx σ H4) E
theorem ps_ownPut {o i value : Expr} {pos pos' : Pos} {to ti tv : TE} (ho : PE X o to) (hi : PE X i ti) (hv : PE X value tv) (hq : PySem.W.noSeq X.K C = true) (hs : PySem.W.findIn X.K (.ref C) "__setitem__" = some (some (.ref g))) (hf : PySem.W.isFn X.K (.ref g) = true)
    (F : FnOk X.prog X.w X.K X.mg X.base CX n g fd ps sp) (hb : Binds X.K fd ps []) (hr : Room (n + 1) X.A) (hx : Passes CX X E) (sw : swapsWith value (some (.Subscript o i pos')) pos.line X.env = pure false) :
    PS X (.Assign [.Subscript o i pos'] value pos) (sOwnPut C sp E to ti tv) := by
  refine ⟨fun pins s σ H D I h => ?_⟩
  refine wpAny_Assign_Subscript (thn (hv.run pins s σ H _ I h) fun r s1 ⟨v, H1, I1, rv, q1⟩ => thn (ho.run pins s1 σ H1 _ I1 q1) fun u s2 ⟨x, H2, I2, rx, q2⟩ => thn (hi.run pins s2 σ H2 _ I2 q2) fun iv s3 ⟨y, H3, I3, ry, a, dx, fs, ex, ha, q⟩ => ?_) sw
  subst ex
  obtain rfl : u = Value.ref a := rx
  obtain ⟨mA, O, _⟩ := ins_get I3.hok ha
  obtain ⟨od, J, _⟩ := O.look
  refine wp_ownPut I3.kIn J hq hs hf (wpAny_mono (run_fn (us := [.ref a, iv, r]) (vs := [.ref a, y, v]) F (hr.mono (Nat.le_succ n)) hb .nil hx I3 (.cons rfl (.cons ry (.cons rv .nil))) q) (fun w s' z => ?_) fun _ _ z => z)
  obtain ⟨z', H', I', _, qz⟩ := z
  exact ⟨σ, H', I', qz⟩
theorem pi_zipAK {K : PySem.W.Frag} {e e2 : Expr} {ta : TA} {p pos tpos : Pos} {elts : List Expr} {kk : Nat} (hK : X.K = K) (hg : Gl X "zip") (hm : X.mg "zip" = none) (ha : PA X [e, e2] ta)
    (hs : starEach [e, e2] X.env = (false, eval e X.env) :: starEach [e2] X.env := by rfl) (hpl : (backTo pos (starEach [e2] X.env)).any (·.1) = false := by rfl) :
    PI X (.Tuple elts kk tpos) (.Call (.Name "zip" p) [e, e2] [] pos) (RZ.iZipA K ta) := by subst hK; exact RZ.pi_zipA hg hm ha hs hpl
end
/-- the loop over two tuples side by side, whatever its body -/
theorem zipT_loop {K : PySem.W.Frag} {a b : Addr} {xs ys : List V} {Qd : Hp → Prop} {H0 : Hp} {B : V → Hp → (Hp → Prop) → Prop} (he : xs.length = ys.length) (Pv : Nat → Hp → Prop) (h0 : Pv 0 H0) (hl : ∀ i H, i ≤ xs.length → Pv i H → SqT K H a xs ∧ SqT K H b ys)
    (hs : ∀ i x y T H, xs[i]? = some x → ys[i]? = some y → H T = none → Pv i H → B (.ref T) (upd H T (.tup [x, y])) (Pv (i + 1))) (hd : ∀ H, Pv xs.length H → Qd H) :
    ∃ W : Nat → Nat → Hp → Prop, (∃ m, W 0 m H0) ∧ ∀ i m H, W i m H → ((RZ.ItzT K a b).stop i H ∧ Qd H) ∨ ((RZ.ItzT K a b).go i H ∧ ∃ Nx : Hp → Prop, (∀ H', Nx H' → ∃ m', m' < m ∧ W (i + 1) m' H') ∧ ∀ x H', (RZ.ItzT K a b).yld i H x H' → B x H' Nx) := by
  refine ⟨fun i m H => m = xs.length - i ∧ i ≤ xs.length ∧ Pv i H, ⟨_, rfl, Nat.zero_le _, h0⟩, ?_⟩
  rintro i m H ⟨rfl, hi, p⟩
  obtain ⟨q1, q2⟩ := hl i H hi p
  by_cases hlt : i < xs.length
  · refine .inr ⟨⟨xs, ys, xs[i], ys[i]'(by omega), q1, q2, by simp [hlt], List.getElem?_eq_getElem _⟩, Pv (i + 1), fun H' p' => ⟨xs.length - (i + 1), by omega, rfl, hlt, p'⟩, fun x H' y => ?_⟩
    obtain ⟨T, u, v, rfl, hT, rfl, z1, z2⟩ := y
    exact hs i u v T _ (z1 xs q1) (z2 ys q2) hT p
  · have e : i = xs.length := by omega
    subst e
    exact .inl ⟨⟨xs, ys, q1, q2, .inl (Nat.le_refl _)⟩, hd H p⟩
/-- keys of pairs -/
def idk (p : IP) : List Key := [.inl p.1, .inl p.2]
theorem idk_inj {p q : IP} (h : idk p = idk q) : p = q := by
  unfold idk at h
  injection h with h1 h2
  injection h2 with h2 _
  exact Prod.ext (Sum.inl.inj h1) (Sum.inl.inj h2)
theorem idk_kV (p : IP) : (idk p).map kV = [.int p.1, .int p.2] := rfl
/-- a dict of whole numbers by pairs -/
def DN (kvs : List (List Key × V)) (N : IP → Option Int) : Prop := ∀ p : IP, valV kvs (idk p) = (N p).map V.int
def shownN (l : List IP) (N : IP → Option Int) : IP → Option Int := fun x => if x ∈ l then some ((N x).getD 0) else none
theorem DN.put {kvs : List (List Key × V)} {N : IP → Option Int} (h : DN kvs N) (p : IP) (w : Int) : DN (putK kvs (idk p) (.int w)) (fun x => if x = p then some w else N x) := fun x => by
  rw [valV_put]
  dsimp only
  by_cases c : x = p
  · rw [if_pos (by rw [c]), if_pos c]
    rfl
  · rw [if_neg (fun z => c (idk_inj z)), if_neg c]
    exact h x
theorem DN.show {kvs : List (List Key × V)} {N : IP → Option Int} {l : List IP} {n : IP} (h : DN kvs (shownN l N)) : DN (putK kvs (idk n) (.int ((N n).getD 0))) (shownN (l ++ [n]) N) := fun x => by
  rw [h.put n _ x]
  unfold shownN
  dsimp only
  by_cases c : x = n
  · subst c
    rw [if_pos rfl, if_pos (List.mem_append_right _ (List.mem_singleton.mpr rfl))]
  · rw [if_neg c]
    by_cases d : x ∈ l
    · rw [if_pos d, if_pos (List.mem_append_left _ d)]
    · rw [if_neg d, if_neg (fun z => (List.mem_append.mp z).elim d fun e => c (List.mem_singleton.mp e))]
theorem putK_len {κ : Type} [DecidableEq κ] {c : List (κ × V)} {k : κ} {x y : V} (h : valV c k = some y) : (putK c k x).length = c.length := by
  unfold putK
  rw [if_pos]
  · exact List.length_map _
  · unfold valV at h
    obtain ⟨q, hq, _⟩ := Option.map_eq_some_iff.mp h
    have hq2 := List.find?_some (p := fun kv : κ × V => decide (kv.1 = k)) hq
    exact List.any_eq_true.mpr ⟨q, List.mem_of_find?_eq_some hq, hq2⟩
theorem putK_more {κ : Type} [DecidableEq κ] (c : List (κ × V)) (k : κ) (x : V) : (putK c k x).length ≤ c.length + 1 := by
  unfold putK
  split
  · rw [List.length_map]; omega
  · rw [List.length_append]; exact Nat.le_refl _
end D

namespace D
open PySem PySem.Spec PyProof.Rows L2
section
variable {X : Cx} {es : List Expr} {t : TA} {pos : Pos}
theorem pe_notTK {K : PySem.W.Frag} {a : Expr} {ta : TE} (hK : X.K = K) (ha : PE X a ta) : PE X (.UnaryOp .Not a pos) (tNotT K ta) := by subst hK; exact pe_notT ha
/-- a written tuple, known to its object -/
def tTupF (t : TA) : TE := fun σ H Q => t σ H fun xs H1 => xs.length ≤ sizeLine ∧ ∀ p o, H1 p = none → o.cls = .type "tuple" → o.dict = none → Q (.ref p) (upd H1 p (.frz o (.tup xs)))
theorem pe_tupF {x1} (h : PA X es t) : PE X (.Tuple es x1 pos) (tTupF t) := by
  refine ⟨fun held st sl G C J want => ?_⟩
  refine wpAny_Tuple_spliced (thn (h.run pos held st sl G _ J want) fun vals st2 ⟨items, G2, J2, rel, fits, fin⟩ => ⟨by rw [← rel.length]; exact fits, ?_⟩)
  have unused : G2 st2.heap.objs.size = none := J2.hok.fresh (Nat.le_refl _)
  let made : Obj := { cls := .type "tuple", data := .seq vals.toArray }
  refine ⟨.ref st2.heap.objs.size, upd G2 st2.heap.objs.size (.frz made (.tup items)), J2.laid (t' := st2.toks) (fun _ _ old => Heap.get?_push_of_some _ old) (Nat.le_refl _) ?_, rfl, fin _ made unused rfl rfl⟩
  exact (show ObjOk X.prog X.w _ _ _ (.frz made (.tup items)) from ⟨Heap.get?_push_size _ rfl, fits, vals, rel, ⟨_, Heap.get?_push_size _ rfl, rfl, _, rfl⟩⟩)
/-- t + u, known to its object -/
def rCatF (K : PySem.W.Frag) : R2 := fun x y H Q => ∃ a b xs ys, x = .ref a ∧ y = .ref b ∧ SqT K H a xs ∧ SqT K H b ys ∧ xs.length + ys.length ≤ sizeLine ∧
  (xs = [] → Q (.ref b) H) ∧ (xs ≠ [] → ys = [] → Q (.ref a) H) ∧ (xs ≠ [] → ys ≠ [] → ∀ p o, H p = none → o.cls = .type "tuple" → o.dict = none → Q (.ref p) (upd H p (.frz o (.tup (xs ++ ys)))))
theorem op_catF {K : PySem.W.Frag} (hK : X.K = K) : OpR X (binaryOp .Add) (rCatF K) := by
  subst hK
  intro held st sl G x y v u C J relx rely want
  obtain ⟨one', two, left, right, rfl, rfl, readL, readR, fits, none1, none2, both⟩ := want
  by_cases emp : left = []
  · exact op_catA held st sl G _ _ v u C J relx rely ⟨one', two, left, right, rfl, rfl, readL, readR, fits, none1, fun no => absurd emp no, fun no => absurd emp no⟩
  cases relx
  cases rely
  obtain ⟨itemsL, relL, tupL, _⟩ := J.tuple readL
  obtain ⟨itemsR, relR, tupR, _⟩ := J.tuple readR
  refine HT.cat_tup tupL tupR (fun no => emp (relL.nil_iff.mp no)) (fun no => ⟨.ref one', G, J, rfl, none2 emp (relR.nil_iff.mp no)⟩) (fun full => ?_) (by rw [← relL.length, ← relR.length]; exact fits)
  let made : Obj := { cls := .type "tuple", data := .seq (itemsL ++ itemsR).toArray }
  refine ⟨.ref st.heap.objs.size, _, J.laid (t' := st.toks) (o := .frz made (.tup (left ++ right))) (fun _ _ old => Heap.get?_push_of_some _ old) (Nat.le_refl _) ?_, rfl, both emp (fun no => full (relR.nil_iff.mpr no)) _ made (J.hok.fresh (Nat.le_refl _)) rfl rfl⟩
  exact ⟨Heap.get?_push_size _ rfl, by rw [List.length_append]; exact fits, _, relL.append relR, IsTup.new _ _⟩
theorem dcG_core {pins : List (Addr × Obj)} {s : Shared} {σ : L2.St} {H : Hp} {Q : VK} {O : Addr → HO} {Put : Addr → (Hp → Prop) → V → V → Hp → Prop} {kx vx tgt it : Expr} {ifs : List Expr} {sc : Scope} {own : List (Str × Nat)} {pos pos' : Pos} {walk : TI} {g : TG} {tt : TT} {tk tv : TE} {use : Option (Value → Sem Unit)} {Qf : Value → Shared → Prop}
    (mk0 : ∀ (H : Hp) (h : Heap), sysModules < h.objs.size → ObjOk X.prog X.w H (h.push { cls := .type "dict", data := .dict #[] }) h.objs.size (O h.objs.size)) (store : Stores X Put) (calm : X.calm = true) (nod : X.N.Nodup) (I : Inv X pins σ H s)
    (pi : PI X tgt it walk) (bo : BlkOk X.N X.env.scope sc own) (pg : InBlk X sc fun B => PG B tgt g) (pt : InBlk X sc fun B => PTs B ifs tt) (pk : InBlk X sc fun B => PE B kx tk) (pv : InBlk X sc fun B => PE B vx tv)
    (plain : ∀ x, foldedSetIterable it X.env x = pure x) (h : tDcG O Put walk g tt tk tv (own.map (·.2)) σ H Q)
    (behind : ∀ made frame st names G, Inv X pins σ G st → Q (.ref made) G → st.heap.Ns frame names → FpOk X pins G frame → compPost (model X.prog X.w) X.A X.xe use Qf (.ref made) frame (.ok .next) st) :
    wpAny (model X.prog X.w) X.A (comprehension (.DictComp kx vx [⟨tgt, it, ifs, 0⟩] sc pos) sc X.env pos' newDict false (eval it X.env) use) Qf X.xe s := by
  have free : ∀ y ∈ sc.names, y.2 = .free → ∃ c, X.env.cells.lookup y.1 = some c := fun y hy e => (bo.free y hy e).elim (fun k => I.ok.has _ (.inl k)) fun k => I.ok.has _ (.inr k)
  refine wpAny_comprehension_free (use := use) rfl plain (closure_ok free) bo.kind (fun y hy e => by rw [bo.uniq y hy, e]) ?_
  -- what is walked, then the empty dict
  refine thn (pi.run pins s σ H _ I h) fun xv s1 hx => thn hx ?_
  rintro itv s2 ⟨ad, feet, tn, J, H2, rfl, I2, T, at2, ft2, q⟩
  refine wpAny_newObj_type (newEnv_comp ?_)
  have fresh : H2 s2.heap.objs.size = none := I2.hok.fresh (Nat.le_refl _)
  obtain ⟨W, ⟨m0, w0⟩, turn⟩ := q _ fresh
  let s3 : Shared := { s2 with heap := s2.heap.push { cls := .type "dict", data := .dict #[] } }
  let D : Addr := s2.heap.objs.size
  let H3 : Hp := upd H2 D (O D)
  let L : Addr := s3.heap.objs.size
  let e3 : Env := compEnvC sc (cellsFrom (L + 1) sc.names (cloFrom X.env.cells sc.names [])) L X.env
  let s4 : Shared := { s3 with heap := pushCells (s3.heap.push { cls := .type "dict", data := .dict #[] }) sc.names }
  have I3 : Inv X pins σ H3 s3 := I2.laid (t' := s2.toks) (fun _ _ e => Heap.get?_push_of_some _ e) (Nat.le_refl _) (mk0 _ s2.heap I2.big)
  have grown : ∀ b o, s2.heap.get? b = some o → s3.heap.get? b = some o := fun _ _ e => Heap.get?_push_of_some _ e
  have low : ∀ b ∈ feet, b < s2.heap.objs.size := fun b hb => Heap.lt_size (T.obj _ _ at2 b hb).choose_spec.1
  have ft3 : ∀ b ∈ feet, FpOk X pins H3 b ∧ b < s3.heap.objs.size := fun b hb => ⟨⟨(upd_ne (Nat.ne_of_lt (low b hb))).trans (ft2 b hb).1, (ft2 b hb).2⟩, by show b < (s2.heap.push _).objs.size; rw [Heap.size_push]; exact Nat.lt_succ_of_lt (low b hb)⟩
  have at3 : tn 0 s3.heap := T.keep _ _ _ at2 fun b _ o e => grown b o e
  have I4 : Inv (X.blk s3 H3 sc e3 feet) [] (wipe σ (own.map (·.2))) H3 s4 := block_start I3 bo nod ft3
  have at4 : tn 0 s4.heap := T.keep _ _ _ at3 fun b _ o e => pushCells_keeps _ _ _ _ (Heap.get?_push_of_some _ e)
  -- the walker's own objects in the block's context
  have foot : ∀ {σ' : L2.St} {G : Hp} {t : Shared}, Inv (X.blk s3 H3 sc e3 feet) [] σ' G t → (∀ b ∈ feet, G b = none) → ∀ b ∈ feet, FpOk (X.blk s3 H3 sc e3 feet) [] G b := by
    intro σ' G t J' none b hb
    refine ⟨none b hb, (J'.ok.exf b hb).1, J'.ok.exfs b hb, .inl hb, fun x c e => (J'.ok.exf b hb).2 x c e, ?_⟩
    intro p hp
    exact nomatch (show p ∈ ([] : List (Addr × Obj)) from by simpa using hp)
  have loop : codeAny (model X.prog X.w) X.A (.compLoop (.DictComp kx vx [⟨tgt, it, ifs, 0⟩] sc pos) 0 (.ref ad) (.ref D) e3) (compPost (model X.prog X.w) X.A X.xe use Qf (.ref D) L) s4 := by
    refine compLoop_anyD (fun n t => ∃ i G, Inv (X.blk s3 H3 sc e3 feet) [] (wipe σ (own.map (·.2))) G t ∧ tn i t.heap ∧ (∀ b ∈ feet, G b = none) ∧ W i n G) ?_ m0 ⟨0, H3, I4, at4, fun b hb => (ft3 b hb).1.1, w0⟩
    rintro n t ⟨i, G, IG, atG, nG, wG⟩
    obtain ⟨stop, fin⟩ | ⟨go, N, less, step⟩ := turn i n G wG
    · refine thnF (T.done (X.blk s3 H3 sc e3 feet) rfl rfl rfl calm i [] t _ G (fun _ _ => False) IG (foot IG nG) atG stop) ?_
      rintro r t6 ⟨rfl, I6⟩
      have I7 : Inv X pins σ G t6 := I3.call' (ch := feet) I6.os I6.base I6.hok I6.bare fun b hb => let z := (ft3 b hb).1.2; ⟨z.2.2.1, z.1, z.2.2.2.1, z.2.2.2.2⟩
      obtain ⟨m, names, _⟩ := I6.loc
      exact behind D L t6 m G I7 fin names (I3.fpOk (Nat.le_refl _) (show G L = none from I6.free))
    · refine thnF (T.item (X.blk s3 H3 sc e3 feet) rfl rfl rfl calm i [] t _ G (fun _ _ => False) IG (foot IG nG) atG go) ?_
      rintro r t6 ⟨u, rfl, h6⟩
      refine thnF h6 ?_
      rintro _ t7 ⟨x, G7, I7, r7, y7, at7, n7⟩
      refine thnF ((pg _ _ _ _ _).run _ t7 _ G7 x u _ (I7.pinned (foot I7 n7) (T.obj _ _ at7)) r7 (step x G7 y7)) ?_
      rintro _ t8 ⟨σ8, G8, I8, wp8, q8⟩
      refine thnF ((pt _ _ _ _ _).run _ t8 σ8 G8 _ I8 q8) ?_
      rintro b t9 ⟨G9, I9, q9⟩
      have back : ∀ {t' : Shared} {G' : Hp}, Inv (X.blk s3 H3 sc e3 feet) ([] ++ pinsAt feet t7.heap) σ8 G' t' → N G' → ∃ m, m < n ∧ ∃ i G, Inv (X.blk s3 H3 sc e3 feet) [] (wipe σ (own.map (·.2))) G t' ∧ tn i t'.heap ∧ (∀ b ∈ feet, G b = none) ∧ W i m G := by
        intro t' G' I' nx
        obtain ⟨m', lt, w'⟩ := less G' nx
        have held : ∀ b ∈ feet, ∀ o, t7.heap.get? b = some o → t'.heap.get? b = some o ∧ G' b = none := fun b hb o e => let z := I'.pin (b, o) (List.mem_append_right _ (List.mem_append_right _ (mem_pinsAt hb e))); ⟨z.1, z.2.1⟩
        refine ⟨m', lt, i + 1, G', I'.unpinned.weak (by rw [← wp8, wipe_length]) fun j v e => ?_, T.keep _ _ _ at7 fun b hb o e => (held b hb o e).1, fun b hb => ?_, w'⟩
        · exact (wipe_some (wp8 ▸ e)).1
        · obtain ⟨o, e, _⟩ := T.obj _ _ at7 b hb
          exact (held b hb o e).2
      by_cases yes : b = true
      · subst yes
        refine thnF ((pk _ _ _ _ _).run _ t9 σ8 G9 _ I9 q9) ?_
        rintro ku t10 ⟨ky, G10, I10, r10, q10⟩
        refine thnF ((pv _ _ _ _ _).run _ t10 σ8 G10 _ I10 q10) ?_
        rintro vu t11 ⟨vy, G11, I11, r11, putting⟩
        exact store (X.blk s3 H3 sc e3 feet) _ _ _ _ _ _ _ _ _ _ _ _ rfl rfl rfl rfl I11 putting r10 r11 fun t12 G12 I12 nx => back I12 nx
      · have no : b = false := by cases b with | true => exact absurd rfl yes | false => rfl
        subst no
        exact back I9 q9
  exact codeAny_compStart_dict loop (T.self X.A 0 _ _ _ at4 loop)
theorem ps_setDcG {i : Nat} {y : Str} {py : Pos} {O : Addr → HO} {Put : Addr → (Hp → Prop) → V → V → Hp → Prop} {kx vx tgt it : Expr} {ifs : List Expr} {sc : Scope} {own : List (Str × Nat)} {pos spos : Pos} {walk : TI} {g : TG} {tt : TT} {tk tv : TE}
    (mk0 : ∀ (H : Hp) (h : Heap), sysModules < h.objs.size → ObjOk X.prog X.w H (h.push { cls := .type "dict", data := .dict #[] }) h.objs.size (O h.objs.size)) (store : Stores X Put) (calm : X.calm = true) (nod : X.N.Nodup) (hy : X.N[i]? = some y) (hyl : X.env.scope.names.lookup y = some .local)
    (hsw : swapsWith (.DictComp kx vx [⟨tgt, it, ifs, 0⟩] sc pos) (some (.Name y py)) spos.line X.env = pure true)
    (pi : PI X tgt it walk) (bo : BlkOk X.N X.env.scope sc own) (pg : InBlk X sc fun B => PG B tgt g) (pt : InBlk X sc fun B => PTs B ifs tt) (pk : InBlk X sc fun B => PE B kx tk) (pv : InBlk X sc fun B => PE B vx tv)
    (plain : ∀ x, foldedSetIterable it X.env x = pure x := by intro _; rfl) :
    PS X (.Assign [.Name y py] (.DictComp kx vx [⟨tgt, it, ifs, 0⟩] sc pos) spos) (tAsg (tDcG O Put walk g tt tk tv (own.map (·.2))) (gName i)) := by
  refine ⟨fun held st sl G ends J want => ?_⟩
  rw [exec_Assign_Name_used _ _ _ _ hsw]
  refine wpAny_bind (wpAny_standAt ?_)
  refine wpAny_bind ?_
  show wpAny _ X.A (do let _ ← comprehension (.DictComp kx vx [⟨tgt, it, ifs, 0⟩] sc pos) sc X.env (firstIterPos [⟨tgt, it, ifs, 0⟩] pos) newDict false (eval it X.env) (some (assign (.Name y py) X.env))) _ _ st
  have want : tDcG O Put walk g tt tk tv (own.map (·.2)) sl G (fun x G1 => gName i x sl G1 ends.nx) := want
  refine wpAny_bind (thn (dcG_core (Qf := fun _ st' => SP X held ends .next st') mk0 store calm nod J pi bo pg pt pk pv plain want fun made frame st2 names G2 J2 fin ns foot => ?_) fun _ _ last => wpAny_pure (wpAny_pure last))
  show wpAny _ _ (assign (.Name y py) X.env (.ref made)) _ _ _
  refine wpAny_assign_Name (store_ok2 (v := V.ref made) J2 nod hy (.inl hyl) rfl (fun st3 J3 ⟨place, same, way⟩ => ?_) (.inr hyl))
  obtain ⟨c0, c1, c2, c3, c4, c5⟩ := foot
  have apart : frame ≠ place := by
    rcases way with way | way
    · rw [way]; exact c1
    · exact fun e => c4 y place way e.symm
  refine ⟨names, ns.sameBut same apart, fun st4 same4 => ?_⟩
  exact ⟨_, G2, J3.turned (t' := st3.toks) (fun b _ out e => (same4.2 b out).trans e) c0 c1 c3 c4 c5, fin⟩
theorem sw_trueD {kx vx : Expr} {gs : List Comprehension} {scope : Scope} {pos py : Pos} {y : Str} {l : Nat} {env : Env} (hk : env.scope.kind = .function) (hy : env.scope.names.lookup y = some .local) (hl : (py.line == pos.line) = true)
    (ha : (scope.names.any fun (n, k) => n == y && (k == .local || k == .cell)) = false) : swapsWith (.DictComp kx vx gs scope pos) (some (.Name y py)) l env = pure true := by
  have kind : env.kindOf y = some .local := hy
  have block : env.blockKind = .function := by
    unfold Env.blockKind
    rw [hk]
    rfl
  unfold swapsWith
  simp only [block, kind, ha, Expr.pos, hl]
  rfl
theorem ps_setDcX {P : Program} {w : World} (hP : X.prog = P) (hw : X.w = w) {i : Nat} {y : Str} {py : Pos} {kx vx tgt it : Expr} {ifs : List Expr} {sc : Scope} {own : List (Str × Nat)} {pos spos : Pos} {walk : TI} {g : TG} {tt : TT} {tk tv : TE} (hu : X.A.units + 1 < cLine) (calm : X.calm = true) (nod : X.N.Nodup) (hy : X.N[i]? = some y) (hyl : X.env.scope.names.lookup y = some .local)
    (hsw : swapsWith (.DictComp kx vx [⟨tgt, it, ifs, 0⟩] sc pos) (some (.Name y py)) spos.line X.env = pure true)
    (pi : PI X tgt it walk) (bo : BlkOk X.N X.env.scope sc own) (pg : InBlk X sc fun B => PG B tgt g) (pt : InBlk X sc fun B => PTs B ifs tt) (pk : InBlk X sc fun B => PE B kx tk) (pv : InBlk X sc fun B => PE B vx tv)
    (plain : ∀ x, foldedSetIterable it X.env x = pure x := by intro _; rfl) :
    PS X (.Assign [.Name y py] (.DictComp kx vx [⟨tgt, it, ifs, 0⟩] sc pos) spos) (tAsg (tDcX P w walk g tt tk tv (own.map (·.2))) (gName i)) := by
  subst hP hw
  exact ps_setDcG (fun H h b => dXo_empty H h b) (stores_X hu) calm nod hy hyl hsw pi bo pg pt pk pv plain
theorem ps_setDcT {i : Nat} {y : Str} {py : Pos} {kx vx tgt it : Expr} {ifs : List Expr} {sc : Scope} {own : List (Str × Nat)} {pos spos : Pos} {walk : TI} {g : TG} {tt : TT} {tk tv : TE} (hu : X.A.units + 1 < cLine) (calm : X.calm = true) (nod : X.N.Nodup) (hy : X.N[i]? = some y) (hyl : X.env.scope.names.lookup y = some .local)
    (hsw : swapsWith (.DictComp kx vx [⟨tgt, it, ifs, 0⟩] sc pos) (some (.Name y py)) spos.line X.env = pure true)
    (pi : PI X tgt it walk) (bo : BlkOk X.N X.env.scope sc own) (pg : InBlk X sc fun B => PG B tgt g) (pt : InBlk X sc fun B => PTs B ifs tt) (pk : InBlk X sc fun B => PE B kx tk) (pv : InBlk X sc fun B => PE B vx tv)
    (plain : ∀ x, foldedSetIterable it X.env x = pure x := by intro _; rfl) :
    PS X (.Assign [.Name y py] (.DictComp kx vx [⟨tgt, it, ifs, 0⟩] sc pos) spos) (tAsg (tDcT walk g tt tk tv (own.map (·.2))) (gName i)) :=
  ps_setDcG (fun _ h b => dt_empty h b) (stores_T hu) calm nod hy hyl hsw pi bo pg pt pk pv plain
end
/-- a row with one item more -/
theorem cat_row {K : PySem.W.Frag} {M : Ms} {H : Hp} {v u : V} {r : List Int} {x : Int} {Q : VK} (h : RowF M H v r) (hu : RowF M H u [x]) (lr : r.length ≤ 1000) (hM : Mk M H) (q : ∀ z H', Same H H' → RowF M H' z (r ++ [x]) → Q z H') : rCatF K v u H Q := by
  obtain ⟨a, o, rfl, na, ha, h1, h2⟩ := id h
  obtain ⟨b, o2, rfl, nb, hb, h3, h4⟩ := id hu
  refine ⟨a, b, _, _, rfl, rfl, .inl (.inr ⟨o, ha⟩), .inl (.inr ⟨o2, hb⟩), ?_, fun z => ?_, fun _ z => absurd z (by simp), fun z _ p o3 hp h5 h6 => ?_⟩
  · rw [List.length_map]
    exact Nat.le_of_lt (small1000000 (by show _ + 1 ≤ _; omega))
  · have e : r = [] := by simpa using z
    subst e
    exact q _ _ (Same.refl _) hu
  · refine q _ _ (same_new hp) ⟨p, o3, rfl, hM.out hp, ?_, h5, h6⟩
    rw [upd_same, List.map_append]
theorem row_new {M : Ms} {H : Hp} {p : Addr} {o : Obj} {ns : List Int} (hM : Mk M H) (hp : H p = none) (h1 : o.cls = .type "tuple") (h2 : o.dict = none) : RowF M (upd H p (.frz o (.tup (ns.map V.int)))) (.ref p) ns := ⟨p, o, rfl, hM.out hp, upd_same, h1, h2⟩
/-- rows in a list -/
def RowsAt (good : List Int → Prop) (M : Ms) (H : Hp) (xs : List V) (nss : List (List Int)) : Prop := xs.length = nss.length ∧ ∀ (i : Nat) (ns : List Int), nss[i]? = some ns → ∃ w, xs[i]? = some w ∧ RowF M H w ns ∧ good ns
section
variable {good : List Int → Prop} {M : Ms} {H H' : Hp} {xs : List V} {nss : List (List Int)}
theorem RowsAt.get (h : RowsAt good M H xs nss) {i : Nat} {x : V} (hx : xs[i]? = some x) : ∃ ns, nss[i]? = some ns ∧ RowF M H x ns ∧ good ns := by
  have hi : i < nss.length := by rw [← h.1]; exact (List.getElem?_eq_some_iff.mp hx).1
  obtain ⟨w, hw, q, g⟩ := h.2 i _ (List.getElem?_eq_getElem hi)
  rw [hx] at hw
  cases hw
  exact ⟨_, List.getElem?_eq_getElem hi, q, g⟩
theorem RowsAt.mem (h : RowsAt good M H xs nss) {x : V} (hx : x ∈ xs) : ∃ ns, ns ∈ nss ∧ RowF M H x ns ∧ good ns := by
  obtain ⟨i, hi⟩ := List.mem_iff_getElem?.mp hx
  obtain ⟨ns, h1, h2, h3⟩ := h.get hi
  exact ⟨ns, List.mem_of_getElem? h1, h2, h3⟩
theorem RowsAt.sx (h : RowsAt good M H xs nss) (s : Sx M H H') : RowsAt good M H' xs nss := ⟨h.1, fun i ns e => by
  obtain ⟨w, h1, h2, h3⟩ := h.2 i ns e
  exact ⟨w, h1, h2.sx s, h3⟩⟩
theorem RowsAt.nil : RowsAt good M H [] [] := ⟨rfl, fun i ns e => by simp at e⟩
theorem RowsAt.append {ys : List V} {mss : List (List Int)} (h : RowsAt good M H xs nss) (g : RowsAt good M H ys mss) : RowsAt good M H (xs ++ ys) (nss ++ mss) := by
  refine ⟨by rw [List.length_append, List.length_append, h.1, g.1], fun i ns e => ?_⟩
  by_cases c : i < nss.length
  · rw [List.getElem?_append_left c] at e
    rw [List.getElem?_append_left (by rw [h.1]; exact c)]
    exact h.2 i ns e
  · rw [List.getElem?_append_right (by omega)] at e
    rw [List.getElem?_append_right (by rw [h.1]; omega), h.1]
    exact g.2 _ ns e
theorem RowsAt.one {w : V} {ns : List Int} (q : RowF M H w ns) (g : good ns) : RowsAt good M H [w] [ns] := ⟨rfl, fun i ms e => by
  cases i with
  | zero => cases e; exact ⟨w, rfl, q, g⟩
  | succ i => simp at e⟩
theorem RowsAt.less {N : Ms} (h : RowsAt good M H xs nss) (f : ∀ a, N a → M a) : RowsAt good N H xs nss := ⟨h.1, fun i ns e => by
  obtain ⟨w, h1, h2, h3⟩ := h.2 i ns e
  exact ⟨w, h1, h2.less f, h3⟩⟩
theorem RowsAt.fresh {p : Addr} (h : RowsAt good M H xs nss) (hp : H p = none) : RowsAt good (also M p) H xs nss := ⟨h.1, fun i ns e => by
  obtain ⟨w, h1, h2, h3⟩ := h.2 i ns e
  exact ⟨w, h1, h2.fresh hp, h3⟩⟩
end
end D

namespace D
open PySem PySem.Spec PyProof.Rows L2
/-! ### own errors with one field or more -/
section
variable {K : PySem.W.Frag}
/-- __init__ of an error with one field -/
def sp_err1 (K : PySem.W.Frag) (C : Addr) (f : Str) : Sp := fun vs H Q _ => ∃ (a : Addr) (y : V), vs = [.ref a, y] ∧ OexC K C ∧ PySem.W.findIn K (.ref C) f = some none ∧ H a = some (exo a C none) ∧
  ∀ dx, H dx = none → dx ≠ a → Q .non (upd (upd H dx (exd dx [(f, y)])) a (exo a C (some dx)))
theorem made_heap {H : Hp} {a dx : Addr} {o1 o2 o3 o4 : HO} (ha : H a = none) (ne : dx ≠ a) : upd (del (upd (upd (upd H a o1) dx o2) a o3) a) dx o4 = upd H dx o4 := by
  funext b
  by_cases h1 : b = dx
  · rw [h1, upd_same, upd_same]
  · rw [upd_ne h1, upd_ne h1]
    by_cases h2 : b = a
    · rw [h2, del_same, ha]
    · rw [del_ne h2, upd_ne h2, upd_ne h1, upd_ne h2]
/-- the making of an error with one field: what is asked behind its argument -/
theorem mk_err1 {C : Addr} {f : Str} {H : Hp} {v : V} {E : XK} (ox : OexC K C) (no : PySem.W.findIn K (.ref C) f = some none) (h : ∀ d, H d = none → E (.ref C) (some d) (upd H d (.xd [(f, v)]))) :
    [v].length ≤ 1000 ∧ ∀ a, H a = none → sp_err1 K C f (.ref a :: ([v] ++ [])) (upd H a (exo a C none))
      (fun u H2 => u = .non ∧ ∃ (d : Addr) (fs : List (Str × V)), H2 a = some (exo a C (some d)) ∧ H2 d = some (exd d fs) ∧ H d = none ∧ E (.ref C) (some d) (upd (del H2 a) d (.xd fs))) (fun _ _ _ => False) := by
  refine ⟨by show 1 ≤ 1000; decide, fun a ha => ⟨a, v, rfl, ox, no, upd_same, fun dx hdx hne => ⟨rfl, dx, [(f, v)], upd_same, ?_, ?_, ?_⟩⟩⟩
  · rw [upd_ne hne, upd_same]
  · rw [upd_ne hne] at hdx
    exact hdx
  · rw [made_heap ha hne]
    rw [upd_ne hne] at hdx
    exact h dx hdx
/-- __init__ of an error with two fields -/
def sp_err2 (K : PySem.W.Frag) (C : Addr) (f g : Str) : Sp := fun vs H Q _ => ∃ (a : Addr) (y z : V), vs = [.ref a, y, z] ∧ OexC K C ∧ PySem.W.findIn K (.ref C) f = some none ∧ PySem.W.findIn K (.ref C) g = some none ∧ H a = some (exo a C none) ∧
  ∀ dx, H dx = none → dx ≠ a → Q .non (upd (upd (upd H dx (exd dx [(f, y)])) a (exo a C (some dx))) dx (exd dx [(g, z), (f, y)]))
/-- isinstance facts of an error class -/
theorem kit_err {D C : Addr} {b : Bool} (hd : PySem.W.hasDictIn K C = true) (ty : PySem.W.typeIn K (.ref C) = some (.type "type")) (ne : D ≠ C) (h : PySem.W.subIn K (.ref D) (.ref C) = some b) : PySem.W.kitOne K (.ref D) (.ref C) = some b := by
  obtain ⟨cd, hc, _⟩ := PySem.W.any_some hd
  unfold PySem.W.kitOne
  rw [if_neg (by simpa using ne)]
  show (if ((PySem.W.clsIn K C).isSome && PySem.W.typeIn K (.ref C) == some (.type "type")) = true then PySem.W.subIn K (.ref D) (.ref C) else none) = some b
  rw [if_pos (by rw [hc, ty]; rfl), h]
theorem kit_self {D : Addr} : PySem.W.kitOne K (.ref D) (.ref D) = some true := by
  unfold PySem.W.kitOne
  rw [if_pos (beq_self_eq_true _)]
theorem kit_ty2 {D : Addr} {t : String} {b : Bool} (m : PySem.W.kitMeta t = true) (h : PySem.W.subIn K (.ref D) (.type t) = some b) : PySem.W.kitOne K (.ref D) (.type t) = some b := by
  unfold PySem.W.kitOne
  rw [if_neg (fun z => nomatch (beq_iff_eq.mp z : Value.ref D = Value.type t))]
  show (if PySem.W.kitMeta t = true then PySem.W.subIn K (.ref D) (.type t) else none) = some b
  rw [if_pos m, h]
end
section
variable {X : Cx} {C g : Addr} {n : Nat} {CX : CXT} {sp : Sp} {E : L2.St → XK} {fd : FuncData} {ps : List Str}
/-- isinstance(e, c), e the error that the suite holds -/
def rIsX (K : PySem.W.Frag) (cls : Value) (d : Option Addr) (a : Addr) : List V → Hp → VK → Prop := fun xs H Q => ∃ (D dd : Addr) (fs : List (Str × V)) (c : V) (cv : Value) (b : Bool), cls = .ref D ∧ d = some dd ∧ ExcC K D ∧ H dd = some (.xd fs) ∧
  xs = [.ref a, c] ∧ (∀ u, RelV c u → u = cv) ∧ PySem.W.kitOne K (.ref D) cv = some b ∧ Q (.bl b) H
theorem inst_exc {X : Cx} {pins : List (Addr × Obj)} {σ : L2.St} {H : Hp} {s : Shared} {a D dd : Addr} {oe : Obj} {fs : List (Str × V)} (I : Inv X pins σ H s) (get : s.heap.get? a = some oe) (hz : Zc (.ref D) (some dd) oe) (hf : ∃ vs, oe.data = .fields vs) (ed : H dd = some (.xd fs)) :
    ∃ od, PySem.W.InstAt s.heap a oe D (some od) := by
  have there : ObjOk X.prog X.w H s.heap dd (.xd fs) := I.hok dd _ ed
  obtain ⟨mA, hns, _⟩ := there
  obtain ⟨od, ho, _⟩ := lookIn_ns hns
  obtain ⟨vs, hd⟩ := hf
  exact ⟨od, get, hz.1, by unfold PySem.W.notCls; rw [hd] <;> rfl, by rw [hz.2]; exact ho⟩
theorem call_isX {a : Addr} {oe : Obj} {cls : Value} {d : Option Addr} {pn : List (Addr × Obj)} (hz : Zc cls d oe) (hf : ∃ vs, oe.data = .fields vs) : CallR (X.suite a ((a, oe) :: pn)) (.builtin "isinstance") (rIsX X.K cls d a) := by
  intro held s sl G args vals want J rel h
  obtain ⟨D, dd, fs, c, cv, b, rfl, rfl, EC, ed, rfl, known, kit, q⟩ := h
  match vals, rel with
  | [_, _], .cons rx (.cons rt .nil) =>
    cases rx
    have ec := known _ rt
    subst ec
    obtain ⟨get, _⟩ := J.pin (a, oe) (List.mem_append.mpr (.inl List.mem_cons_self))
    obtain ⟨od, inst⟩ := inst_exc J get hz hf ed
    obtain ⟨cdD, hcD, _⟩ := PySem.W.any_some EC.hd
    exact PySem.W.kia_one (PySem.W.kitx_exc (by rw [hcD]; rfl) EC.hg EC.hk EC.hs EC.ha EC.hn EC.ht EC.hm) J.kIn inst kit (fun z => nomatch z) fun tk => ⟨.bl b, G, J.kept (t' := tk) fun _ _ z => z, rfl, q⟩
/-- isinstance(e, (c, ..)) -/
def rIsXT (K : PySem.W.Frag) (cls : Value) (d : Option Addr) (a : Addr) : List V → Hp → VK → Prop := fun xs H Q => ∃ (D dd p : Addr) (fs : List (Str × V)) (cs : List Addr) (b : Bool), cls = .ref D ∧ d = some dd ∧ ExcC K D ∧ H dd = some (.xd fs) ∧
  xs = [.ref a, .ref p] ∧ H p = some (.tup (cs.map V.ref)) ∧ PySem.W.kitAny K (.ref D) (cs.map Value.ref) = some b ∧ Q (.bl b) H
theorem vals_refs : ∀ {cs : List Addr} {vals : List Value}, Vals (cs.map V.ref) vals → vals = cs.map Value.ref
  | [], _, .nil => rfl
  | c :: r, _, .cons h t => by
    cases h
    rw [vals_refs t]
    rfl
theorem call_isXT {a : Addr} {oe : Obj} {cls : Value} {d : Option Addr} {pn : List (Addr × Obj)} (hz : Zc cls d oe) (hf : ∃ vs, oe.data = .fields vs) : CallR (X.suite a ((a, oe) :: pn)) (.builtin "isinstance") (rIsXT X.K cls d a) := by
  intro held s sl G args vals want J rel h
  obtain ⟨D, dd, p, fs, cs, b, rfl, rfl, EC, ed, rfl, tup, kit, q⟩ := h
  match vals, rel with
  | [_, _], .cons rx (.cons rt .nil) =>
    cases rx
    cases rt
    obtain ⟨get, _⟩ := J.pin (a, oe) (List.mem_append.mpr (.inl List.mem_cons_self))
    obtain ⟨od, inst⟩ := inst_exc J get hz hf ed
    obtain ⟨cdD, hcD, _⟩ := PySem.W.any_some EC.hd
    obtain ⟨_, its, rv, ⟨⟨tc, tdict, tdata, tslots⟩, ho, hc, m, hd⟩⟩ := (show ObjOk X.prog X.w G s.heap p (.tup (cs.map V.ref)) from J.hok p _ tup)
    dsimp only at hc hd
    subst hc hd
    have ei := vals_refs rv
    subst ei
    exact PySem.W.kia_tup (PySem.W.kitx_exc (by rw [hcD]; rfl) EC.hg EC.hk EC.hs EC.ha EC.hn EC.ht EC.hm) J.kIn inst ho kit (fun z => nomatch z) fun tk => ⟨.bl b, G, J.kept (t' := tk) fun _ _ z => z, rfl, q⟩
/-! ### what may raise within a try -/
/-- a def is run one step in, what it raises goes on -/
theorem run_in1S {pins : List (Addr × Obj)} {σ : L2.St} {H : Hp} {s : Shared} {Q : VK} {us : List Value} {vs : List V} (F : FnOk X.prog X.w X.K X.mg X.base CX n g fd ps sp) (hr : Room (n + 1) X.A) (hb : Binds X.K fd ps []) (hx : PassesAt CX X σ (E σ))
    (I : Inv X pins σ H s) (r : Vals vs us) (h : sp vs H Q (E σ)) : wpAny (model X.prog X.w) X.A.in1 (call (.ref g) us) (EP X pins σ Q) X.xe s := by
  have size : (us ++ []).length = ps.length := by rw [List.append_nil, ← r.length]; exact F.len _ _ _ _ h
  have bd := hb s us I.kIn size
  rw [List.append_nil] at bd
  refine wpAny_call (codeAny_mono (F.run X.A.in1 X.stack s H ⟨us, []⟩ us vs Q (E σ) (room_in1 hr) I.env0.in1 bd r h) fun out s' told => ?_)
  match out, told with
  | .error e, told => exact hx pins H s e s' I told
  | .ok (.ret u), told => exact I.after told
  | .ok .next, told => exact False.elim told
  | .ok .brk, told => exact False.elim told
  | .ok .cont, told => exact False.elim told
def tOwnIxS (C : Addr) (sp : Sp) (E : L2.St → XK) (to ti : TE) : TE := fun σ H Q => to σ H fun x H1 => ti σ H1 fun y H2 => ∃ a dx fs, x = .ref a ∧ H2 a = some (.ins C dx fs) ∧ sp [x, y] H2 Q (E σ)
theorem pe_ownIxS {o i : Expr} {to ti : TE} {pos : Pos} (ho : PE X o to) (hi : PE X i ti) (hs : PySem.W.findIn X.K (.ref C) "__getitem__" = some (some (.ref g))) (hf : PySem.W.fnIn X.K g = true) (hg : PySem.W.isFn X.K (.ref g) = true)
    (F : FnOk X.prog X.w X.K X.mg X.base CX n g fd ps sp) (hb : Binds X.K fd ps []) (hr : Room (n + 1) X.A) (hx : ∀ σ, PassesAt CX X σ (E σ))
    (hsl : ∀ ov iv, subscripted i true ov iv = runValue (.builtin "lifetime.subscript" ⟨[ov, iv], []⟩)) : PE X (.Subscript o i pos) (tOwnIxS C sp E to ti) := by
  refine ⟨fun pins s σ H Q I h => ?_⟩
  refine Subscript_ (thn (ho.run pins s σ H _ I h) fun ov s1 ⟨x, H1, I1, rx, q1⟩ => thn (hi.run pins s1 σ H1 _ I1 q1) fun iv s2 ⟨y, H2, I2, ry, a, dx, fs, ex, ha, q⟩ => ?_)
  subst ex
  obtain rfl : ov = Value.ref a := rx
  obtain ⟨mA, O, _⟩ := ins_get I2.hok ha
  obtain ⟨od, J, _⟩ := O.look
  obtain ⟨m, hF⟩ := I2.fr
  exact PySem.W.sub_K hF I2.ok.mod.kin J hs hf hg (run_in1S (us := [.ref a, iv]) (vs := [.ref a, y]) F hr hb (hx σ) I2 (.cons rfl (.cons ry .nil)) q) (hsl _ _)
/-- a method that may raise -/
def tMethS (C : Addr) (m : Str) (sp : Sp) (E : L2.St → XK) (ta : TE) (t : TA) : TE := fun σ H Q => ta σ H fun x H1 => ∃ a dx fs, x = .ref a ∧ H1 a = some (.ins C dx fs) ∧ fs.lookup m = none ∧ t σ H1 fun vs H2 => sp (x :: vs) H2 Q (E σ)
theorem pe_methS {o e : Expr} {es : List Expr} {m : Str} {f : Addr} {pos apos : Pos} {ta : TE} {t : TA} {pl : Sem Bool} (he : PE X o ta) (c : Cls X.K C) (hm : Meth X.K C m f) (F : FnOk X.prog X.w X.K X.mg X.base CX n f fd ps sp) (hr : Room n X.A) (hb : Binds X.K fd ps []) (hx : ∀ σ, PassesAt CX X σ (E σ)) (ha : PA X (e :: es) t)
    (hst : starEach (e :: es) X.env = (false, eval e X.env) :: starEach es X.env := by rfl) (hpl : (backTo pos (starEach es X.env)).any (·.1) = false := by rfl)
    (ht : eval (.Call (.Attribute o m apos) (e :: es) [] pos) X.env = (do
      let ov ← eval o X.env
      standAt apos.atName
      let (f, first) ← holding [ov] (getMethod ov m pl)
      callWith pos f first (backTo pos (starEach (e :: es) X.env)) (backToKw pos (keywordEach [] X.env))) := by rfl) :
    PE X (.Call (.Attribute o m apos) (e :: es) [] pos) (tMethS C m sp E ta t) := by
  refine ⟨fun held st sl G want J told => ?_⟩
  refine PySem.W.methodCall_KW (pl := pl) (thn (he.run held st sl G _ J told) fun u st1 ⟨x, G1, J1, rx, a, dx, fs, ex, ea, l, q⟩ => ?_) ht
  subst ex
  obtain rfl : u = Value.ref a := rx
  refine getmeth_ok J1 ea c hm l (PySem.W.callWith_K (first := [.ref a]) (h₀ := X.base) J1.ok.mod.kin hm.kp (thn (ha.run pos held st1 sl G1 _ J1 q) fun vals st2 ⟨vs, G2, J2, rel, q2⟩ => ⟨J2.kIn, ?_⟩) hst hpl)
  exact run_fnS (us := .ref a :: vals) (vs := .ref a :: vs) F hr hb (hx sl) J2 (.cons rfl rel) q2
/-- x[i] = v, an own def's store that may raise -/
def sOwnPutS (C : Addr) (sp : Sp) (E : L2.St → XK) (to ti tv : TE) : TS := fun D σ H => tv σ H fun v H1 => to σ H1 fun x H2 => ti σ H2 fun y H3 => ∃ a dx fs, x = .ref a ∧ H3 a = some (.ins C dx fs) ∧ sp [x, y, v] H3 (fun _ H4 => D.nx σ H4) (E σ)
theorem ps_ownPutS {o i value : Expr} {pos pos' : Pos} {to ti tv : TE} (ho : PE X o to) (hi : PE X i ti) (hv : PE X value tv) (hq : PySem.W.noSeq X.K C = true) (hs : PySem.W.findIn X.K (.ref C) "__setitem__" = some (some (.ref g))) (hf : PySem.W.isFn X.K (.ref g) = true)
    (F : FnOk X.prog X.w X.K X.mg X.base CX n g fd ps sp) (hb : Binds X.K fd ps []) (hr : Room (n + 1) X.A) (hx : ∀ σ, PassesAt CX X σ (E σ)) (sw : swapsWith value (some (.Subscript o i pos')) pos.line X.env = pure false) :
    PS X (.Assign [.Subscript o i pos'] value pos) (sOwnPutS C sp E to ti tv) := by
  refine ⟨fun pins s σ H D I h => ?_⟩
  refine wpAny_Assign_Subscript (thn (hv.run pins s σ H _ I h) fun r s1 ⟨v, H1, I1, rv, q1⟩ => thn (ho.run pins s1 σ H1 _ I1 q1) fun u s2 ⟨x, H2, I2, rx, q2⟩ => thn (hi.run pins s2 σ H2 _ I2 q2) fun iv s3 ⟨y, H3, I3, ry, a, dx, fs, ex, ha, q⟩ => ?_) sw
  subst ex
  obtain rfl : u = Value.ref a := rx
  obtain ⟨mA, O, _⟩ := ins_get I3.hok ha
  obtain ⟨od, J, _⟩ := O.look
  refine wp_ownPut I3.kIn J hq hs hf (wpAny_mono (run_fnS (us := [.ref a, iv, r]) (vs := [.ref a, y, v]) F (hr.mono (Nat.le_succ n)) hb (hx σ) I3 (.cons rfl (.cons ry (.cons rv .nil))) q) (fun w s' z => ?_) fun _ _ z => z)
  obtain ⟨z', H', I', _, qz⟩ := z
  exact ⟨σ, H', I', qz⟩
end
end D

namespace D
open PySem PySem.Spec PyProof.Rows L2
/-! ### list(o), o of an own class whose __iter__ hands an iterator over a tuple out -/
/-- at it an iterator over the tuple at t, the next place is i -/
def ItT (t it : Addr) (i : Nat) : HO := .ext fun h => h.IsTupleIter it t i
/-- something stands at it -/
def AnyO (it : Addr) : HO := .ext fun h => ∃ o, h.get? it = some o
section
variable {P : Program} {w : World} {H : Hp} {h : Heap} {t it : Addr} {i : Nat}
theorem itT_ok (e : h.IsTupleIter it t i) : ObjOk P w H h it (ItT t it i) := ⟨e, ⟨_, e.choose_spec.1⟩, fun h1 h2 q k => by
  obtain ⟨o, ho, r⟩ := q
  exact ⟨o, k _ ho, r⟩⟩
theorem any_ok {o : Obj} (e : h.get? it = some o) : ObjOk P w H h it (AnyO it) := ⟨⟨_, e⟩, ⟨_, e⟩, fun h1 h2 q k => by
  obtain ⟨o, ho⟩ := q
  exact ⟨o, k _ ho⟩⟩
end
section
variable {X : Cx} {pins : List (Addr × Obj)} {σ : L2.St} {H : Hp} {s : Shared} {t it : Addr} {i : Nat}
theorem itT_get (I : Inv X pins σ H s) (e : H it = some (ItT t it i)) : s.heap.IsTupleIter it t i := (I.hok it _ e).1
/-- iter(t), t a tuple -/
def rIterT (K : PySem.W.Frag) : List V → Hp → VK → Prop := fun xs H Q => ∃ (t : Addr) (zs : List V), xs = [.ref t] ∧ SqT K H t zs ∧ ∀ it, H it = none → Q (.ref it) (upd H it (ItT t it 0))
theorem call_iterT : CallR X (.builtin "iter") (rIterT X.K) := by
  intro pins s σ H xs us Q I r h
  obtain ⟨t, zs, rfl, hq, q⟩ := h
  obtain rfl := Vals.ref1 r
  obtain ⟨its, rv, ⟨o, ho, hc, n, hd⟩, hz⟩ := I.tuple hq
  refine Calls.call_function_entry (by decide +kernel) (by decide +kernel) PySem.W.kdk_entry_iter (PySem.W.kdk_args_iter _) ?_
  unfold Builtin.«iter»
  refine wpAny_bind (m := someArgs "iter" 1 2 _) (wpAny_of_eq (a := [Value.ref t]) (by first | rfl | kernel_rfl!) ?_)
  show wpAny _ _ (pyIter (.ref t) >>= _) _ _ _
  refine wpAny_bind (wpAny_pyIter_tuple (items := its.toArray) ⟨o, ho, hc, n, hd⟩ ?_)
  refine wpAny_pure ⟨_, rfl, ?_⟩
  exact ⟨.ref s.heap.objs.size, _, I.laid (t' := s.toks) (fun b u e => Heap.get?_push_of_some _ e) (Nat.le_refl _) (itT_ok ⟨_, Heap.get?_push_size _ rfl, rfl, rfl⟩), rfl, q _ (I.hok.fresh (Nat.le_refl _))⟩
end
section
variable {prog : Program} {w : World} {A : Around} {E : Value → Shared → Prop} {s : Shared}
theorem tuple_end2 {it t : Addr} {i : Nat} {items : Array Value} {Q : Option Value → Shared → Prop} (hh : A.handled = none)
    (hit : s.heap.IsTupleIter it t i) (ht : s.heap.IsTuple t items) (hx : items[i]? = none)
    (hQ : ∀ h', (∃ o, h'.get? it = some o) → Heap.ExtBut it s.heap h' → Q none { s with heap := h' }) : wpAny (model prog w) A (pyNext (.ref it)) Q E s := by
  obtain ⟨o, ho, hc, hd⟩ := id hit
  obtain ⟨ol, hol, _, nl, hdl⟩ := ht
  unfold pyNext
  refine wpAny_bind (wpAny_attempt (wpAny_callSpecial?_slot (name := Str.ofString "__next__") hit.typeIs F.slot_tuple_iterator_next
    (wpAny_call_entry F.slot_tuple_iterator_next hit.typeIs F.entry_tuple_iterator_next ?_ (F.args_tuple_iterator_next_1 _))))
  show wpAny _ _ (field (.ref it) 0 >>= _) _ _ s
  refine wpAny_bind (wpAny_field ho hd (x := .ref t) rfl ?_)
  show wpAny _ _ (if (Value.ref t == Value.none) = true then _ else _) _ _ s
  rw [if_neg (show ¬ ((Value.ref t == Value.none) = true) from Bool.false_ne_true)]
  show wpAny _ _ (field (.ref it) 1 >>= _) _ _ s
  refine wpAny_bind (wpAny_field ho hd (x := .int i 0) rfl ?_)
  show wpAny _ _ (seqItems? (.ref t) >>= _) _ _ s
  refine wpAny_bind (wpAny_seqItems hol hdl ?_)
  simp only [Int.toNat_natCast, hx]
  refine wpAny_bind (wpAny_rule (wpAny_bind (wpAny_setField ho hd (by simp) ?_)))
  show wpAny _ _ (newExc (.type "StopIteration") [] >>= _) _ _ _
  refine wpAny_bind ?_
  simp only [newExc, newTuple]
  refine wpAny_bind (wpAny_newObj_type ?_ (by size_fits))
  refine wpAny_bind (m := firstArgMember _ _) (wpAny_of_eq (a := Value.none) (by first | rfl | (simp only [firstArgMember]; rfl)) ?_)
  refine wpAny_newObj_type ?_ (by size_fits)
  simp only [raiseNew]
  refine wpAny_bind (wpAny_handled ?_)
  first | rw [show A.in1.handled = none from hh] | rw [hh]
  refine wpAny_bind (wpAny_pure (wpAny_throw ?_))
  refine wpAny_bind (wpAny_isInstance (T := "StopIteration") (b := true) ⟨_, Heap.get?_push_size _ rfl, rfl⟩ PySem.isSubtype_stop ?_)
  refine wpAny_pure (hQ _ ⟨_, Heap.get?_push_of_some _ (Heap.get?_push_of_some _ (Heap.get?_update_self _ ho (Obj.isFreed_of_fields (Obj.data_mapFields hd _))))⟩ (((Heap.SameBut.update ..).extBut.push _).push _))
end
/-- a class whose instances have an own __iter__, without __len__ and __length_hint__ -/
structure ItK (K : PySem.W.Frag) (C fi : Addr) : Prop where
  it : PySem.W.findIn K (.ref C) "__iter__" = some (some (.ref fi))
  itF : PySem.W.isFn K (.ref fi) = true
  nolen : PySem.W.findIn K (.ref C) "__len__" = some none
  nohint : PySem.W.findIn K (.ref C) "__length_hint__" = some none
section
variable {X : Cx} {pins : List (Addr × Obj)} {σ : L2.St} {H : Hp} {s : Shared}
theorem hintK {M : Model} {A : Around} {E : Value → Shared → Prop} {Q : Bool → Shared → Prop} {K : PySem.W.Frag} {a C fi : Addr} {ox : Obj} {od : Option Obj} (hc : ItK K C fi) (hK : K.In s.heap) (J : PySem.W.InstAt s.heap a ox C od) (h : Q true s) :
    wpAny M A (Builtin.List.listLengthHint (.ref a)) Q E s := by
  unfold Builtin.List.listLengthHint
  refine wpAny_bind (wpAny_bind (J.type.here ((PySem.W.looks_findIn hK hc.nolen).here ?_)))
  refine PySem.W.KFB.if_not rfl ?_
  refine PySem.W.KFB.if_not rfl ?_
  refine wpAny_bind (wpAny_bind (J.type.here ((PySem.W.looks_findIn hK hc.nohint).here ?_)))
  exact wpAny_pure h
theorem it_loop {A1 : Around} {it t q : Addr} {xs : List V} {H0 : Hp} {Rs : Result → Shared → Prop} (hh : A1.handled = none) (nqi : q ≠ it) (nti : t ≠ it) (hT : SqT X.K H0 t xs) (htq : t ≠ q) (hl : xs.length ≤ 1000)
    (hdone : ∀ H s, Inv X pins σ H s → (∀ b, b ≠ it → b ≠ q → H b = H0 b) → H q = some (.lst xs) → H it ≠ none → Rs (.ok (.ret .none)) s) :
    ∀ (k i : Nat) (H : Hp) (s : Shared), xs.length - i = k → i ≤ xs.length → Inv X pins σ H s → (∀ b, b ≠ it → b ≠ q → H b = H0 b) → H q = some (.lst (xs.take i)) → H it = some (ItT t it i) →
      codeAny (model X.prog X.w) A1 (.builtin "list.extend.loop" ⟨[.ref q, .ref it, .none], []⟩) Rs s := by
  intro k
  induction k with
  | zero =>
    intro i H s hk hi I hH hq hit
    have ei : i = xs.length := by omega
    subst ei
    have hT' : SqT X.K H t xs := by
      unfold SqT Rd at hT ⊢
      rw [hH t nti htq]
      exact hT
    obtain ⟨its, rv, pl, hz⟩ := I.tuple hT'
    refine codeAny_builtin PySem.F.entry_extend_loop ?_
    rw [Around.under_plainId PySem.F.plain_extend_loop _]
    show wpAny _ A1.in1 (pyNext (.ref it) >>= _) _ _ s
    refine wpAny_bind (tuple_end2 (items := its.toArray) hh (itT_get I hit) (by obtain ⟨o, ho, hc, n, hd⟩ := pl; exact ⟨o, ho, hc, n, hd⟩) (by have := rv.length; simp [← this]) fun h' he hb => ?_)
    have mu : Mut (H it) := by rw [hit]; exact True.intro
    obtain ⟨o', ho'⟩ := he
    have I' := I.write (x := it) (e := it) (t' := s.toks) (o := AnyO it) (h' := h') mu (.inl rfl) (fun b o nb z => hb b o nb z) ⟨_, ho'⟩ (any_ok ho')
    refine wpAny_pure (hdone _ _ I' (fun b h1 h2 => by rw [upd_ne h1]; exact hH b h1 h2) ?_ ?_)
    · rw [upd_ne nqi, hq, List.take_length]
    · rw [upd_same]
      exact fun z => nomatch z
  | succ k ih =>
    intro i H s hk hi I hH hq hit
    have hlt : i < xs.length := by omega
    have hT' : SqT X.K H t xs := by
      unfold SqT Rd at hT ⊢
      rw [hH t nti htq]
      exact hT
    obtain ⟨its, rv, pl, hz⟩ := I.tuple hT'
    obtain ⟨u, hu, ru⟩ := rv.get (i := i) (List.getElem?_eq_getElem hlt)
    refine codeAny_builtin PySem.F.entry_extend_loop ?_
    rw [Around.under_plainId PySem.F.plain_extend_loop _]
    show wpAny _ A1.in1 (pyNext (.ref it) >>= _) _ _ s
    refine wpAny_bind (wpAny_pyNext_tuple_item (items := its.toArray) (x := u) (itT_get I hit) (by obtain ⟨o, ho, hc, n, hd⟩ := pl; exact ⟨o, ho, hc, n, hd⟩) (by rw [List.getElem?_toArray]; exact hu) fun h' e' sb => ?_)
    have mu : Mut (H it) := by rw [hit]; exact True.intro
    have I' := I.write (x := it) (e := it) (t' := s.toks) (o := ItT t it (i + 1)) (h' := h') mu (.inl rfl) (fun b o nb z => (sb.2 b nb).trans z) ⟨_, e'.choose_spec.1⟩ (itT_ok e')
    have hq' : upd H it (ItT t it (i + 1)) q = some (.lst (xs.take i)) := by rw [upd_ne nqi]; exact hq
    show wpAny _ A1.in1 (updateSeq q (·.push u) >>= _) _ _ _
    obtain ⟨z, its2, c, r2, e⟩ := I'.lstM hq'
    have hlen : (xs.take i).length = i := by rw [List.length_take]; omega
    obtain ⟨r2, hl2, e⟩ := (⟨r2, e⟩ : _ ∧ _ ∧ _)
    have l2 : its2.length = i := by rw [← r2.length, hlen]
    refine wpAny_bind (wpAny_updateSeq e rfl (wpAny_pure ⟨plainId_quiet PySem.F.plain_extend_loop _, ?_⟩) (by rw [List.size_toArray, l2, sizeLine_eq]; omega) (by show (its2.toArray.push u).size ≤ sizeLine + 1; rw [Array.size_push, List.size_toArray, l2, sizeLine_eq]; omega))
    refine ih (i + 1) _ _ (by omega) hlt (I'.lset (its' := its2 ++ [u]) (ys := xs.take (i + 1)) (t' := s.toks) hq' e (by simp) ?_ (by rw [List.length_take, sizeLine_eq]; omega)) (fun b h1 h2 => ?_) upd_same ?_
    · rw [List.take_add_one, List.getElem?_eq_getElem hlt]
      exact r2.append (.cons ru .nil)
    · rw [upd_ne h2, upd_ne h1]
      exact hH b h1 h2
    · rw [upd_ne (Ne.symm nqi), upd_same]

/-- list(o): __iter__ hands an iterator over a tuple out -/
def rListIt (K : PySem.W.Frag) (C : Addr) (sp : Sp) (E : XK) : List V → Hp → VK → Prop := fun xs H Q => ∃ a dx fs, xs = [.ref a] ∧ H a = some (.ins C dx fs) ∧
  ∀ q, H q = none → sp [.ref a] (upd H q (.lst [])) (fun v H' => ∃ it t zs, v = .ref it ∧ H' it = some (ItT t it 0) ∧ SqT K H' t zs ∧ t ≠ it ∧ t ≠ q ∧ q ≠ it ∧ H' q = some (.lst []) ∧ H' a = some (.ins C dx fs) ∧ zs.length ≤ 1000 ∧
    ∀ H'', (∀ b, b ≠ it → b ≠ q → H'' b = H' b) → H'' q = some (.lst zs) → H'' it ≠ none → Q (.ref q) H'') E
variable {CI : CXT} {C fi : Addr} {fdI : FuncData} {psI : List Str} {spI : Sp} {EI : XK} {n : Nat}
theorem extend_it {a dx q : Addr} {fs : List (Str × V)} {Hq : Hp} {Q : VK} (sb : Sub X n X.A.in1.in1) (hA : X.A.in1.handled = none) (hc : ItK X.K C fi) (FI : FnOk X.prog X.w X.K X.mg X.base CI n fi fdI psI spI) (bI : Binds X.K fdI psI []) (xI : Passes CI X EI) (I2 : Inv X pins σ Hq s) (hqq : Hq q = some (.lst [])) (ha2 : Hq a = some (.ins C dx fs))
    (hsp : spI [.ref a] Hq (fun v H' => ∃ it t zs, v = .ref it ∧ H' it = some (ItT t it 0) ∧ SqT X.K H' t zs ∧ t ≠ it ∧ t ≠ q ∧ q ≠ it ∧ H' q = some (.lst []) ∧ H' a = some (.ins C dx fs) ∧ zs.length ≤ 1000 ∧
      ∀ H'', (∀ b, b ≠ it → b ≠ q → H'' b = H' b) → H'' q = some (.lst zs) → H'' it ≠ none → Q (.ref q) H'') EI) :
    wpAny (model X.prog X.w) X.A.in1.in1 (Builtin.List.listExtendWith (.ref q) (.ref a) .none)
      (fun fin s' => match fin with | .done f => wants (fun r s₂ => r = .none ∧ EP X pins σ Q (.ref q) s₂) X.xe (.ok f) s' | .again c' => c'.quiet = true ∧ codeAny (model X.prog X.w) X.A.in1 c' (wants (fun r s₂ => r = .none ∧ EP X pins σ Q (.ref q) s₂) X.xe) s') (fun e s' => wants (fun r s₂ => r = .none ∧ EP X pins σ Q (.ref q) s₂) X.xe (.error e) s') s := by
  have hne : q ≠ a := ne_of hqq ha2 (fun z => nomatch z)
  obtain ⟨mA, J, _⟩ := ins_get I2.hok ha2
  obtain ⟨od, J, _⟩ := J.look
  obtain ⟨m0, hF⟩ := I2.fr
  unfold Builtin.List.listExtendWith
  refine wpAny_bind (J.type.here ?_)
  have h1 : Builtin.List.listSameRef (.ref q) (.ref a) = false := by simp [Builtin.List.listSameRef, hne]
  have h2 : (Value.ref C == Value.type "list") = false := rfl
  have h3 : (Value.ref C == Value.type "tuple") = false := rfl
  simp only [h1, h2, h3, Bool.or_false, Bool.false_eq_true, if_false]
  refine wpAny_bind (PySem.W.owit_iter hF I2.ok.mod.kin J hc.it hc.itF ?_)
  have e0 : Env0 X.prog X.w X.K X.mg X.base X.A.in1.in1 X.stack s Hq := by
    have e := I2.env0
    exact ⟨by rw [sb.fr]; exact e.frames, e.mod, e.bs, e.bsz, e.funs, e.frf, e.hok, e.bare⟩
  have hl := FI.len _ _ _ _ hsp
  have r2 : Vals [V.ref a] [Value.ref a] := .cons rfl .nil
  refine wpAny_call (codeAny_mono (FI.run X.A.in1.in1 X.stack s Hq ⟨[.ref a], []⟩ [.ref a] [.ref a] _ EI sb.room e0 (by
    have := bI s [.ref a] I2.kIn (by simpa using hl)
    simpa using this) r2 hsp) fun r s' hq' => ?_)
  cases r with
  | error e => exact xI pins σ Hq s e s' I2 hq'
  | ok fl =>
    cases fl with
    | next => exact False.elim hq'
    | brk => exact False.elim hq'
    | cont => exact False.elim hq'
    | ret u =>
      obtain ⟨v, H', I', rv, it, t, zs, ev, hit, hT, nti, ntq, nqi, hq2, ha', hz, q2⟩ := I2.after hq'
      subst ev
      cases rv
      unfold PySem.W.OwitIt
      have hty := (itT_get I' hit).typeIs (s := s')
      refine wpAny_specialOf hty F.slot_tuple_iterator_next.lookup ?_
      obtain ⟨mA', J', _⟩ := ins_get I'.hok ha'
      obtain ⟨od', J', _⟩ := J'.look
      refine wpAny_bind (wpAny_holding (hintK hc I'.kIn J' ?_))
      obtain ⟨z, its, k, r3, hl3, e3⟩ := I'.lstM hq2
      cases r3
      have hloop : ∀ s2, Inv X pins σ H' s2 → codeAny (model X.prog X.w) X.A.in1 (.builtin "list.extend.loop" ⟨[.ref q, .ref it, .none], []⟩) (wants (fun r s₂ => r = .none ∧ EP X pins σ Q (.ref q) s₂) X.xe) s2 := fun s2 I4 =>
        it_loop (A1 := X.A.in1) hA nqi nti hT ntq hz (fun H5 s5 I5 a1 a2 a3 => ⟨rfl, .ref q, H5, I5, rfl, q2 H5 a1 a2 a3⟩) _ 0 H' s2 rfl (Nat.zero_le _) I4 (fun _ _ _ => rfl) hq2 hit
      refine wpAny_ite_split (fun _ => ?_) (fun _ => wpAny_pure ⟨plainId_quiet PySem.F.plain_extend_loop _, hloop s' I'⟩)
      refine wpAny_bind (wpAny_rule ?_)
      refine wpAny_bind ?_
      show wpAny _ _ (updateSeq q (·.push .none) >>= fun _ => updateSeq q (·.pop)) _ _ _
      refine wpAny_bind (wpAny_updateSeq e3 rfl ?_)
      have I3 := I'.lset (f := (·.push Value.none)) (its' := [Value.none]) (ys := [.non]) (t' := s'.toks) hq2 e3 (by simp) (.cons rfl .nil) (by rw [List.length_singleton, sizeLine_eq]; decide)
      obtain ⟨z4, its4, k4, r4, hl4, e4⟩ := I3.lstM upd_same
      obtain ⟨u4, rfl, ru4⟩ := r4.one
      refine wpAny_updateSeq e4 rfl ?_ (by show 1 ≤ sizeLine; rw [sizeLine_eq]; decide) (by show 0 ≤ sizeLine + 1; exact Nat.zero_le _)
      refine wpAny_pure ⟨plainId_quiet PySem.F.plain_extend_loop _, hloop _ ?_⟩
      have I5 := I3.lset (f := (·.pop)) (its := [u4]) (its' := []) (ys := []) (t' := s'.toks) upd_same e4 (by rfl) .nil (Nat.zero_le _)
      rw [upd_upd] at I5
      have hH : upd H' q (.lst []) = H' := by
        funext b
        by_cases hb : b = q
        · rw [hb, upd_same, hq2]
        · rw [upd_ne hb]
      rw [hH] at I5
      exact I5
theorem call_listIt (hc : ItK X.K C fi) (FI : FnOk X.prog X.w X.K X.mg X.base CI n fi fdI psI spI) (bI : Binds X.K fdI psI []) (xI : Passes CI X EI) (hr : Room (n + 2) X.A) : CallR X (.type "list") (rListIt X.K C spI EI) := by
  intro pins s σ H xs us Q I rv h
  obtain ⟨a, dx, fs, rfl, ha, hq⟩ := h
  obtain ⟨u, rfl, ru⟩ := rv.one
  cases ru
  have sb : Sub X n X.A.in1.in1 := (Sub.in1 (Sub.in1 (⟨hr, rfl⟩ : Sub X (n + 2) X.A)))
  refine callType_codes (Q₁ := fun obj s₁ => obj = .ref s.heap.objs.size ∧ s₁ = { s with heap := s.heap.push { cls := .type "list", data := .seq #[] } }) PySem.F.called_list (PySem.F.typeCall_list_1 _) PySem.F.entry_list_init
    (code_list_new _ ⟨rfl, rfl⟩) fun obj s₁ h₁ => ?_
  obtain ⟨rfl, rfl⟩ := h₁
  have hS : (s.heap.push { cls := .type "list", data := .seq #[] }).get? s.heap.objs.size = some { cls := .type "list", data := .seq #[] } := Heap.get?_push_size _ rfl
  refine ⟨⟨_, hS, rfl⟩, PySem.F.args_list_init_2 _ _, ?_⟩
  have fr : H s.heap.objs.size = none := I.hok.fresh (Nat.le_refl _)
  have hsp := hq _ fr
  have I1 : Inv X pins σ (upd H s.heap.objs.size (.lst [])) { s with heap := s.heap.push { cls := .type "list", data := .seq #[] } } := I.lnew (its := []) (t' := s.toks) .nil (Nat.zero_le _)
  show wpAny _ _ (do let old ← Builtin.List.listItems (.ref s.heap.objs.size); Builtin.List.listUpdate (.ref s.heap.objs.size) (fun _ => #[]); letGo old.toList.reverse; Builtin.List.listExtendWith (.ref s.heap.objs.size) (.ref a) .none) _ _ _
  refine wpAny_bind ?_
  unfold Builtin.List.listItems
  refine wpAny_bind (wpAny_seqItems hS rfl (wpAny_pure ?_))
  show wpAny _ _ (updateSeq s.heap.objs.size (fun _ => #[]) >>= fun _ => letGo (#[] : Array Value).toList.reverse >>= fun _ => Builtin.List.listExtendWith (.ref s.heap.objs.size) (.ref a) .none) _ _ _
  refine wpAny_bind (wpAny_updateSeq hS rfl ?_)
  have I2 := I1.lset (f := fun _ => #[]) (its := []) (its' := []) (ys := []) (t' := s.toks) upd_same hS rfl .nil (Nat.zero_le _)
  rw [upd_upd] at I2
  refine wpAny_bind (wpAny_letGo ?_)
  have ha2 : upd H s.heap.objs.size (.lst []) a = some (.ins C dx fs) := by rw [upd_ne (ne_of_none ha fr)]; exact ha
  exact extend_it sb hr.hd hc FI bI xI I2 upd_same ha2 hsp
end
end D

namespace D
open PySem PySem.Spec PyProof.Rows L2
/-! ### texts as rows of signs -/
abbrev sg (z : Str) : List Nat := z.cps.toList
theorem sg_len (z : Str) : (sg z).length = z.length := Array.length_toList
theorem sg_ext {a b : Str} (h : sg a = sg b) : a = b := by
  cases a
  cases b
  congr 1
  exact Array.toList_inj.mp h
theorem sg_app (a b : Str) : sg (a ++ b) = sg a ++ sg b := Array.toList_append
theorem sg_one (c : Nat) : sg ⟨#[c]⟩ = [c] := rfl
theorem sg_cut (z : Str) (k : Nat) : sg (cutS z none (some (k : Int))) = (sg z).take k := by
  unfold cutS
  show ((z.cps.toList.drop 0).take (HT.sIx z.length z.length (some (k : Int)) - 0)) = _
  rw [HT.sIx_nat, List.drop_zero, Nat.sub_zero, ← sg_len]
  by_cases c : k ≤ (sg z).length
  · rw [Nat.min_eq_left c]
  · rw [Nat.min_eq_right (by omega), List.take_of_length_le (Nat.le_refl _), List.take_of_length_le (by omega)]
theorem sg_from (z : Str) (k : Nat) : sg (cutS z (some (k : Int)) none) = (sg z).drop k := by
  unfold cutS
  show ((z.cps.toList.drop (HT.sIx z.length 0 (some (k : Int)))).take (HT.sIx z.length z.length none - HT.sIx z.length 0 (some (k : Int)))) = _
  rw [HT.sIx_nat, HT.sIx_none, ← sg_len]
  by_cases c : k ≤ (sg z).length
  · rw [Nat.min_eq_left c, List.take_of_length_le (by rw [List.length_drop]; exact Nat.le_refl _)]
  · rw [Nat.min_eq_right (by omega), List.drop_of_length_le (Nat.le_refl _), List.drop_of_length_le (by omega)]
    simp
theorem sg_join0 : ∀ ys : List Str, sg (Str.join (Str.ofString "") ys) = (ys.map sg).flatten
  | [] => rfl
  | [y] => by
    show sg y = _
    simp
  | x :: y :: r => by
    show sg (x ++ (Str.ofString "") ++ Str.join (Str.ofString "") (y :: r)) = _
    rw [sg_app, sg_app, sg_join0 (y :: r), show sg (Str.ofString "") = [] from by decide +kernel]
    simp
end D

namespace D
open PySem PySem.Spec PyProof.Rows L2
/-! ### errors whose suites call defs -/
section
variable {X : Cx} {e : Expr} {es : List Expr} {ta : TA} {p pos : Pos}
/-- the making of an own error, outside of a suite, for the ways out that tell its context -/
theorem pmk_oexN {CX : CXT} {x : Str} {C fI : Addr} {k : Nat} {fd : FuncData} {ps : List Str} {sp : Sp} {ds : List Value} {dvs : List V} (T : OexC X.K C) (iC : PySem.W.findIn X.K (.ref C) "__init__" = some (some (.ref fI))) (tI : PySem.W.typeIn X.K (.ref fI) = some (.type "function"))
    (F1 : FnOk X.prog X.w X.K X.mg X.base CX k fI fd ps sp) (hr : Room (k + 1) X.A) (hb : Binds X.K fd ps ds) (hd : Vals dvs ds) (hx : Passes CX X (fun _ _ _ => False)) (hg : Gl X x) (hm : X.mg x = some (.ref C)) (ha : PA X (e :: es) ta)
    (hdb : (x == ("__debug__" : Str)) = false := by decide) (he : starEach (e :: es) X.env = (false, eval e X.env) :: starEach es X.env := by rfl) (hpl : (backTo pos (starEach es X.env)).any (·.1) = false := by rfl) :
    L2N.PMk X (.Call (.Name x p) (e :: es) [] pos) (tMkO C sp dvs ta) := by
  intro pins s σ H Q I h
  obtain ⟨nm, q, N, bs, bm, sn, sub, ab, col, dd, k0, k1, k2, k3, k5, hC, hbm⟩ := T.cls
  refine wpAny_Call_Name_kw (ld_glob I hg hm ?_ hdb)
  refine PySem.W.callWith_K (h₀ := X.base) I.ok.mod.kin T.kC (thn (ha.run pos pins s σ H _ I h) fun us s1 ⟨vs, H1, I1, r1, hz, q1⟩ => ⟨I1.kIn, ?_⟩) he hpl
  show wpAny _ _ (call (.ref C) us) _ _ _
  obtain ⟨hp, g, dr, tk, os⟩ := s1
  have hsz : hp.objs.size ≤ hp.objs.size + 1 := Nat.le_succ _
  have hn : H1 (hp.objs.size + 1) = none := I1.hok.fresh hsz
  have hq := q1 (hp.objs.size + 1) hn
  have kk : ∀ b o, hp.get? b = some o → ((hp.push (PySem.W.kdv_tup us)).push (PySem.HandSPX.excO C hp.objs.size)).get? b = some o := fun b o e => Heap.get?_push_of_some _ (Heap.get?_push_of_some _ e)
  have hget : ((hp.push (PySem.W.kdv_tup us)).push (PySem.HandSPX.excO C hp.objs.size)).get? (hp.objs.size + 1) = some (PySem.HandSPX.excO C hp.objs.size) := by heap_get
  have I2 : Inv X pins σ (upd H1 (hp.objs.size + 1) (exo (hp.objs.size + 1) C none)) ⟨(hp.push (PySem.W.kdv_tup us)).push (PySem.HandSPX.excO C hp.objs.size), g, dr, tk, os⟩ :=
    I1.laid (t' := tk) (a := hp.objs.size + 1) (o := exo (hp.objs.size + 1) C none) (h' := (hp.push (PySem.W.kdv_tup us)).push (PySem.HandSPX.excO C hp.objs.size)) kk hsz (exo_ok hget)
  have r2 : Vals (V.ref (hp.objs.size + 1) :: (vs ++ dvs)) (Value.ref (hp.objs.size + 1) :: (us ++ ds)) := .cons rfl (r1.append hd)
  have hl : (Value.ref (hp.objs.size + 1) :: us ++ ds).length = ps.length := by
    have e := r2.length
    rw [F1.len _ _ _ _ hq] at e
    exact e.symm
  have hus : us.length ≤ sizeLine := by
    rw [← Paired.length r1, sizeLine_eq]
    omega
  refine wpAny_call (PySem.HandSPX.call_own F.excBase_ValueError (fun Y => PySem.HandSPX.refsVE_contains Y bm hbm) (I1.kIn _ _ hC) (PySem.W.looks_findIn I1.kIn iC) (fun self => PySem.W.bind_fn I1.kIn self tI) hus
    (codeAny_mono (F1.run _ X.stack _ _ ⟨Value.ref (hp.objs.size + 1) :: us, []⟩ (Value.ref (hp.objs.size + 1) :: (us ++ ds)) _ _ (fun _ _ _ => False) (hr.make C us []) (I2.env0.make C us []) (hb _ (Value.ref (hp.objs.size + 1) :: us) I2.kIn hl) r2 hq) fun r s' hq' => ?_))
  cases r with
  | error er => exact hx pins σ _ _ er s' I2 hq'
  | ok fl =>
    cases fl with
    | ret u =>
      obtain ⟨v, H2, os2, bare2, un2, hok2, rv, ev, d, fs, ea, ed, hd1, q2⟩ := hq'
      subst ev
      obtain ⟨h2, g2, d2, t2, os'⟩ := s'
      obtain ⟨t0, G, J, kG, ge, hoe, na⟩ := mk_end0 (d2 := d2) (t2 := t2) I1 hsz kk un2 hok2 os2 bare2 ea ed hd1
      refine ⟨rv, ⟨hp.objs.size + 1, _, _, ⟨G, g2, d2, t2, os'⟩, _, .ref C, some d, rfl, J, kG, ge, hoe, ⟨rfl, rfl, fun vs hv => ?_⟩, rfl, rfl, na, rfl, bare2, raises_own T.exC T.tyC, q2⟩⟩
      cases hv
      rfl
    | next => exact False.elim hq'
    | brk => exact False.elim hq'
    | cont => exact False.elim hq'
end
section
variable {P : Program} {w : World} {K : PySem.W.Frag} {mg : Str → Option Value} {base : Heap}
/-- as Fun.okX, for the ways out that tell the error's context -/
theorem Fun.okXN {x qual : Str} {st : Stmt} {f : Addr} {fd : FuncData} {N ps : List Str} {k : Nat} {sp : Sp} (F : Fun K x qual st f fd) (S : FnScope N ps (defScope st)) (len : ∀ vs H Q E, sp vs H Q E → vs.length = ps.length)
    (hbody : ∀ (cdv : Value) (A : Around) (outer : List Env) (s : Shared) (H : Hp) (vs : List V) (Q : VK) (E : XK), Room k (A.deeper (envOfC qual (defScope st) s.heap.objs.size f cdv)) → sp vs H Q E →
      ∃ t, PSs (cxOf (L2N.CX P w) P w K mg base N qual (defScope st) f cdv A outer s H E) (defBody st) t ∧ t { nx := fun _ H' => Q .non H', rt := Q } (start N vs) H) : FnOk P w K mg base (L2N.CX P w) (k + 1) f fd ps sp := by
  obtain ⟨oc, od, kV, doc, pm, an, cdv, ct, osl, rfl, lk, hcd⟩ := F.ex
  exact fn_of lk hcd S len fun A outer s H vs Q E hr hsp => hbody cdv A outer s H vs Q E hr hsp
theorem takes0N {X : Cx} : L2N.Takes X (fun _ _ _ _ => False) := fun _ _ x => by
  obtain ⟨_, _, _, _, _, _, _, _, _, _, _, _, _, _, _, _, z⟩ := x
  exact z.elim
/-- as Fun.ok, for a def that is called in an except suite -/
theorem Fun.okH {x qual : Str} {st : Stmt} {f : Addr} {fd : FuncData} {N ps : List Str} {k : Nat} {sp : Sp} (F : Fun K x qual st f fd) (S : FnScope N ps (defScope st)) (len : ∀ vs H Q E, sp vs H Q E → vs.length = ps.length)
    (hbody : ∀ (cdv : Value) (A : Around) (outer : List Env) (s : Shared) (H : Hp) (vs : List V) (Q : VK) (E : XK) (p : Addr × Obj), L2H.RoomH k (A.deeper (envOfC qual (defScope st) s.heap.objs.size f cdv)) → sp vs H Q E →
      ∃ t, PSs (L2H.cxH CX0 P w K mg base N qual (defScope st) f cdv A outer s H E p) (defBody st) t ∧ t { nx := fun _ H' => Q .non H', rt := Q } (start N vs) H) : L2H.FnH P w K mg base CX0 (k + 1) f fd ps sp := by
  obtain ⟨oc, od, kV, doc, pm, an, cdv, ct, osl, rfl, lk, hcd⟩ := F.ex
  exact L2H.fn_ofH lk hcd S len fun A outer s H vs Q E p hot hr hsp => hbody cdv A outer s H vs Q E p hr hsp
theorem hot_suite {X : Cx} {a : Addr} {oe : Obj} {cls : Value} {d : Option Addr} {pn : List (Addr × Obj)} (hz : L2N.Zn cls d oe) (hf : ∃ vs, oe.data = .fields vs) : L2H.HotC (X.suite a ((a, oe) :: pn)) := by
  obtain ⟨vs, hv⟩ := hf
  exact ⟨(a, oe), ⟨rfl, vs, hv, hz.2.2 vs hv⟩, List.mem_cons_self⟩
theorem room_suite {k j : Nat} {A : Around} (r : Room k A) (h : j ≤ k) (v : Option Value) : L2H.RoomH j (A.mark v) := L2H.RoomH.mono ⟨r.dp, r.un⟩ h
theorem passH {X : Cx} {E : L2.St → XK} : ∀ σ, PassesAt CX0 X σ (E σ) := fun _ _ _ _ _ _ _ h => h.elim
end
end D

/-! defs that show data as text: no guard of a repr stands open where they are called -/
namespace D
open PySem PySem.Spec PyProof.Rows L2
section
variable {P : Program} {w : World} {K : PySem.W.Frag} {mg : Str → Option Value} {base : Heap} {CX : CXT} {k : Nat} {f : Addr} {fd : FuncData} {ps : List Str} {sp : Sp}
/-- as FnOk, called where no guard stands open -/
structure FnG (P : Program) (w : World) (K : PySem.W.Frag) (mg : Str → Option Value) (base : Heap) (CX : CXT) (k : Nat) (f : Addr) (fd : FuncData) (ps : List Str) (sp : Sp) : Prop where
  ln : ∀ vs H Q E, sp vs H Q E → vs.length = ps.length
  go : ∀ (A : Around) (fr : List Env) (s : Shared) (H : Hp) (args : Args) (us : List Value) (vs : List V) (Q : VK) (E : XK), A.guards = some [] → Room k A → Env0 P w K mg base A fr s H → BindsTo s fd args (ps.zip us) → Vals vs us → sp vs H Q E → codeAny (model P w) A (.call (.ref f) args) (CR CX fr P w H s Q E) s
theorem FnG.of (F : FnOk P w K mg base CX k f fd ps sp) : FnG P w K mg base CX k f fd ps sp := ⟨F.len, fun A fr s H args us vs Q E _ hr he hb hv hs => F.run A fr s H args us vs Q E hr he hb hv hs⟩
theorem FnG.bodyG {name qual : Str} {pr : Arguments} {body : List Stmt} {sc : Scope} {dV kV doc pm c ct oc : Value} {an od : Option Addr} {osl : Array (Option Value)} {N : List Str}
    (lk : K.lookup f = some ⟨oc, od, .func (PySem.W.fnOf name qual pr body sc dV kV doc pm an c ct), osl⟩) (hc : PySem.W.codeIn K c qual = true) (S : FnScope N ps sc) (ln : ∀ vs H Q E, sp vs H Q E → vs.length = ps.length)
    (hb : ∀ (A : Around) (fr : List Env) (s : Shared) (H : Hp) (vs : List V) (Q : VK) (E : XK), (A.deeper (envOfC qual sc s.heap.objs.size f c)).guards = some [] → Room k (A.deeper (envOfC qual sc s.heap.objs.size f c)) → sp vs H Q E →
      ∃ t, PSs (cxOf CX P w K mg base N qual sc f c A fr s H E) body t ∧ t { nx := fun _ H' => Q .non H', rt := Q } (start N vs) H) : FnG P w K mg base CX (k + 1) f (PySem.W.fnOf name qual pr body sc dV kV doc pm an c ct) ps sp := by
  refine ⟨ln, fun A fr s H args us vs Q E gd hr e0 bd rv hs => ?_⟩
  have n1 := ln _ _ _ _ hs
  have kin : K.In s.heap := e0.mod.kin.keeps fun x o e => (e0.bs x o e).1
  have nl : s.heap.NoLimit := e0.mod.nolimit.keeps fun x o e => (e0.bs x o e).1
  have kd : ∀ y ∈ ps.zip us, sc.names.lookup y.1 = some .local ∨ (sc.names.lookup y.1 = some .cell ∧ ((cellsFrom (s.heap.objs.size + 1) sc.names []).lookup y.1).isSome = true) := by
    rintro ⟨m, v⟩ hy
    exact (S.par m (List.of_mem_zip hy).1).imp id fun z => ⟨z, PySem.W.cellsFrom_some _ _ _ (.inl z)⟩
  refine codeAny_call_function hr.depth (kin _ _ lk) rfl S.co S.gen rfl (PySem.W.codeRec_of kin hc) (bd _ _ _ _ (wpAny_newFunctionEnv_cells S.kind kd fun ev he s1 x => ?_))
  cases he
  refine ⟨nl.keeps x.toInCall.keep, codeAny_func ?_⟩
  obtain ⟨t, ht, hq⟩ := hb A fr s H vs Q E gd (hr.deeper _) hs
  refine wpAny_mono (ht.run [] s1 (start N vs) H _ (inv_start S hr.hd e0 n1 rv x) hq) (fun fl s' z => ?_) fun e s' z => z
  cases fl with
  | ret u =>
    obtain ⟨v, σ', H', J, r, q⟩ := z
    exact ⟨v, H', J.os, J.bare, J.base, J.hok, r, q⟩
  | next =>
    obtain ⟨σ', H', J, q⟩ := z
    exact ⟨V.non, H', J.os, J.bare, J.base, J.hok, rfl, q⟩
  | brk =>
    obtain ⟨_, _, _, z⟩ := z
    exact False.elim z
  | cont =>
    obtain ⟨_, _, _, z⟩ := z
    exact False.elim z
theorem Fun.okG {x qual : Str} {st : Stmt} {N : List Str} (F : Fun K x qual st f fd) (S : FnScope N ps (defScope st)) (ln : ∀ vs H Q E, sp vs H Q E → vs.length = ps.length)
    (hb : ∀ (c : Value) (A : Around) (fr : List Env) (s : Shared) (H : Hp) (vs : List V) (Q : VK) (E : XK), (A.deeper (envOfC qual (defScope st) s.heap.objs.size f c)).guards = some [] → Room k (A.deeper (envOfC qual (defScope st) s.heap.objs.size f c)) → sp vs H Q E →
      ∃ t, PSs (cxOf CX0 P w K mg base N qual (defScope st) f c A fr s H E).nox (defBody st) t ∧ t { nx := fun _ H' => Q .non H', rt := Q } (start N vs) H) : FnG P w K mg base CX0 (k + 1) f fd ps sp := by
  obtain ⟨oc, od, kV, doc, pm, an, c, ct, osl, rfl, lk, hc⟩ := F.ex
  refine FnG.bodyG lk hc S ln fun A fr s H vs Q E gd hr hs => ?_
  obtain ⟨t, h, q⟩ := hb c A fr s H vs Q E gd hr hs
  exact ⟨t, h.nox, q⟩
end
section
variable {X : Cx} {CX : CXT} {k : Nat} {f : Addr} {fd : FuncData} {ps : List Str} {sp : Sp} {E : XK} {x : Str} {p pos : Pos} {e : Expr} {es : List Expr} {t : TA}
theorem run_fnG {pins : List (Addr × Obj)} {σ : L2.St} {H : Hp} {s : Shared} {Q : VK} {us : List Value} {vs : List V} (F : FnG X.prog X.w X.K X.mg X.base CX k f fd ps sp) (gd : X.A.guards = some []) (hr : Room k X.A) (hb : Binds X.K fd ps []) (hx : Passes CX X E)
    (I : Inv X pins σ H s) (r : Vals vs us) (h : sp vs H Q E) : wpAny (model X.prog X.w) X.A (call (.ref f) us) (EP X pins σ Q) X.xe s := by
  have hl : (us ++ ([] : List Value)).length = ps.length := by rw [List.append_nil, ← r.length]; exact F.ln _ _ _ _ h
  have bd := hb s us I.kIn hl
  rw [List.append_nil] at bd
  refine wpAny_call (codeAny_mono (F.go X.A X.stack s H ⟨us, []⟩ us vs Q E gd hr I.env0 bd r h) fun z s' hq => ?_)
  cases z with
  | error er => exact hx pins σ H s er s' I hq
  | ok fl =>
    cases fl with
    | ret u => exact I.after hq
    | next => exact hq.elim
    | brk => exact hq.elim
    | cont => exact hq.elim
theorem pe_callG (F : FnG X.prog X.w X.K X.mg X.base CX k f fd ps sp) (gd : X.A.guards = some []) (hr : Room k X.A) (hg : Gl X x) (hm : X.mg x = some (.ref f)) (hk : PySem.W.keepIn X.K (.ref f) = true) (hb : Binds X.K fd ps []) (hx : Passes CX X E) (ha : PA X (e :: es) t)
    (hdb : (x == ("__debug__" : Str)) = false := by decide) (he : starEach (e :: es) X.env = (false, eval e X.env) :: starEach es X.env := by rfl) (hpl : (backTo pos (starEach es X.env)).any (·.1) = false := by rfl) : PE X (.Call (.Name x p) (e :: es) [] pos) (tCall sp [] E t) := by
  refine ⟨fun pins s σ H Q I h => wpAny_Call_Name_kw (ld_glob I hg hm ?_ hdb)⟩
  refine PySem.W.callWith_K (h₀ := X.base) I.ok.mod.kin hk (thn (ha.run pos pins s σ H _ I h) fun us s1 ⟨vs, H1, I1, r, q⟩ => ⟨I1.kIn, ?_⟩) he hpl
  have q0 : sp (vs ++ []) H1 Q E := q
  rw [List.append_nil] at q0
  exact run_fnG F gd hr hb hx I1 r q0
theorem pe_call0G (F : FnG X.prog X.w X.K X.mg X.base CX k f fd ps sp) (gd : X.A.guards = some []) (hr : Room k X.A) (hg : Gl X x) (hm : X.mg x = some (.ref f)) (hk : PySem.W.keepIn X.K (.ref f) = true) (hb : Binds X.K fd ps []) (hx : Passes CX X E)
    (hdb : (x == ("__debug__" : Str)) = false := by decide) : PE X (.Call (.Name x p) [] [] pos) (tCall sp [] E tNil) :=
  ⟨fun pins s σ H Q I h => wpAny_Call_Name_kw (ld_glob I hg hm (PySem.W.callWith_K0 I.kIn hk (run_fnG (us := []) (vs := []) F gd hr hb hx I .nil h)) hdb)⟩
/-- repr of data -/
theorem call_reprD (gd : X.A.guards = some []) (hu : X.A.units + 200 < cLine) : CallR X (.builtin "repr") (fun xs H Q => ∃ a d, xs = [.ref a] ∧ Dp X.K H (.ref a) d ∧ d.showable = true ∧ d.hasDict = false ∧ d.depth ≤ 64 ∧ d.shown.length ≤ sizeLine ∧ Q (.str d.shown) H) := by
  intro pins s σ H xs us Q I r h
  obtain ⟨a, d, rfl, hd, h1, h2, h3, h4, q⟩ := h
  obtain ⟨u, rfl, ru⟩ := vals1 r
  obtain ⟨as, rd⟩ := Dp.reads I d _ _ hd ru
  cases ru
  exact repr_of_reads' rd h1 (fun z => by rw [h2] at z; cases z) gd (by omega) (fun b o e => e) (fun h' u tk hk => ⟨.str d.shown, H, I.kept hk, ⟨u, rfl⟩, q⟩) h4
end
end D
/-! ### all kinds -/
namespace D
open PySem PySem.Spec PyProof.Rows L2
section
variable {X : Cx}
/-- repr of data of any kind -/
theorem call_reprV (gd : X.A.guards = some []) (hu : X.A.units + 200 < cLine) : CallR X (.builtin "repr") (fun vs H Q => ∃ v d, vs = [v] ∧ Dp X.K H v d ∧ d.showable = true ∧ d.hasDict = false ∧ d.depth ≤ 64 ∧ d.shown.length ≤ sizeLine ∧ Q (.str d.shown) H) := by
  rintro pins s σ H vs us Q I r ⟨v, d, rfl, hd, h1, h2, h3, h4, q⟩
  cases hd with
  | lst h k => exact call_reprD gd hu pins s σ H _ us Q I r ⟨_, _, rfl, .lst h k, h1, h2, h3, h4, q⟩
  | tup h k => exact call_reprD gd hu pins s σ H _ us Q I r ⟨_, _, rfl, .tup h k, h1, h2, h3, h4, q⟩
  | non =>
    obtain ⟨u, rfl, ru⟩ := vals1 r
    cases (show u = Value.none from ru)
    rw [PyData.shown_none] at q
    exact PySem.P.repr_of_none ⟨.str _, H, I.tok _, ⟨_, rfl⟩, q⟩
  | bl b =>
    obtain ⟨u, rfl, ru⟩ := vals1 r
    cases (show u = Value.bool b from ru)
    rw [PyData.shown_bool] at q
    exact PySem.P.repr_of_bool ⟨.str _, H, I.tok _, ⟨_, rfl⟩, q⟩
  | int i =>
    obtain ⟨u, rfl, t, rfl⟩ := vals1 r
    rw [PyData.shown_int] at q
    exact PySem.P.repr_of_int (of_decide_eq_true h1) ⟨.str _, H, I.tok _, ⟨_, rfl⟩, q⟩
  | str y =>
    obtain ⟨u, rfl, t, rfl⟩ := vals1 r
    rw [PyData.shown_str] at q h4
    exact PySem.P.repr_of_str ⟨.str _, H, I.tok _, ⟨_, rfl⟩, q⟩ h4
end
end D
namespace D
open PySem PySem.Spec PyProof.Rows L2
/-- join, its row's part of the module named -/
theorem pe_joinK {X : Cx} {K : PySem.W.Frag} {o e : Expr} {to te : TE} {apos pos : Pos} (h : X.K = K) (ho : PE X o to) (he : PE X e te) (hs : starEach [e] X.env = [(false, eval e X.env)] := by rfl) (hb : attributeBase o "join" X.env (eval o X.env) = eval o X.env := by rfl) (hl : (apos.endLine == pos.line) = true := by rfl) :
    PE X (.Call (.Attribute o "join" apos) [e] [] pos) (tM1 (fun x xs H Q => ∃ a p, ∃ ys : List Str, x = .str a ∧ xs = [.ref p] ∧ (SqL K H p (ys.map V.str) ∨ SqT K H p (ys.map V.str)) ∧ (ys.map (·.length)).sum + ys.length * a.length ≤ 16777216 ∧ Q (.str (Txt.join a ys)) H) to te) := by
  subst h
  exact pe_join ho he hs hb hl
end D
/-! ### the law's own call: no guard stands open there -/
namespace D
open PySem PySem.Spec PyProof.Rows L2
theorem un200 {A : Around} {k : Nat} (r : Room k A) : A.units + 200 < cLine := by
  have z := r.un
  omega
section
variable {P : Program} {w : World} {K : PySem.W.Frag} {mg mb : Str → Option Value} {CX : CXT} {k : Nat} {fa a : Addr} {fd : FuncData} {x : Str} {sp : Sp} {z : Shared} {us : List Value} {ns : List Int}
theorem top_run (kx : K.In z.heap) (h1 : z.heap.Ns mainGlobals mg) (h2 : z.heap.Ns builtinsNs mb) (h3 : ∀ y : Str, y ≠ "__name__" → mb y = bootBuiltins y) (h4 : z.heap.NoLimit) (h5 : z.gens = #[]) (ha : z.heap.get? a = some { cls := .type "list", data := .seq us.toArray })
    (hr : Room k callerA) (F : ∀ base : Heap, K.In base → base.Ns mainGlobals mg → FnG P w K mg base CX k fa fd [x] sp) (bd : ∀ (s : Shared) (u : Value), BindsTo s fd ⟨[u], []⟩ [(x, u)]) (cx : ∀ H e s', CX [] H z (fun _ _ _ => False) e s' → False)
    {H : Hp} (only : Only H) (hsp : sp [.ref a] H (fun v _ => v = .bl true) fun _ _ _ => False) (hok : HOk P w H z.heap) (own : ∀ b, H b ≠ none → b = a ∧ K.lookup b = none) :
    codeAny (model P w) callerA (.call (.ref fa) ⟨[.ref a], []⟩) (fun r s' => r = .ok (.ret (.bool true)) ∧ OldK z.heap s'.heap ∧ s'.os = z.os ∧ AllBare s'.gens) z := by
  have out : ∀ {b : Addr} {o : Obj} {es : Array DictEntry} {n : Nat}, z.heap.get? b = some o → o.data = .dict es n → H b = none := fun {b o es n} e d => by
    by_cases q : H b = none
    · exact q
    · obtain ⟨rfl, _⟩ := own b q
      rw [ha] at e
      cases e
      cases (show Data.seq us.toArray _ = Data.dict es n from d)
  have ns' : ∀ {b : Addr} {m : Str → Option Value}, z.heap.Ns b m → (hidT z.heap H).Ns b m := fun {b m} h => by
    obtain ⟨o, es, n, e, d, r⟩ := h
    exact ⟨o, es, n, hidT_get e (out e d), d, r⟩
  have kb : K.In (hidT z.heap H) := fun b o e => by
    refine hidT_get (kx b o e) ?_
    by_cases q : H b = none
    · exact q
    · rw [(own b q).2] at e
      cases e
  obtain ⟨mc, l1, l2⟩ := h4
  have md : Mod K mg (hidT z.heap H) := ⟨kb, ns' h1, ⟨mb, ns' h2, h3⟩, mc, ns' l1, l2⟩
  have ev : Env0 P w K mg (hidT z.heap H) callerA [] z H := ⟨rfl, md, fun _ _ e => of_hidT e, by rw [hidT_size]; exact Nat.le_refl _, trivial, fun b m => (by cases m), hok, .of_eq h5⟩
  have run := (F _ kb (ns' h1)).go callerA [] z H ⟨[.ref a], []⟩ [.ref a] [.ref a] (fun v _ => v = .bl true) (fun _ _ _ => False) rfl hr ev (bd z (.ref a)) (.cons rfl .nil) hsp
  refine codeAny_mono run fun r s' c => ?_
  rcases r with er | fl
  · exact absurd c (cx H er s')
  · cases fl with
    | next => exact c.elim
    | brk => exact c.elim
    | cont => exact c.elim
    | ret u =>
      obtain ⟨v, H2, o1, b1, un, ok2, rv, ev⟩ := c
      cases (show v = V.bl true from ev)
      cases (show u = Value.bool true from rv)
      refine ⟨rfl, OldK.of_keep fun b o e => ?_, o1, b1⟩
      cases q : H b with
      | none => exact un.keep b o e q (fun m => by cases m) (fun m => by cases m)
      | some t =>
        rcases only b with y | ⟨ob, xs, y⟩
        · rw [q] at y; cases y
        · obtain ⟨e1, _⟩ := hok b _ y
          obtain ⟨e2, _⟩ := ok2 b _ (un.frzs b ob _ y)
          rw [e] at e1
          cases e1
          exact e2
end
theorem walk_ofG {l : PySem.W.OpenLaw} {n k : Nat} {q : Program} {loose : List Str} {XP : (Str → Option Value) → Heap → Prop} {YP : World → Heap → Prop} {d : DefRec} {K : Params → PySem.W.Frag} {sp : PySem.W.Frag → Sp} {x : Str}
    (hn : l.most = some n) (hn2 : n ≤ sizeLine) (hdf : d.params.defaults = []) (hr : Room k callerA) (hY : ∀ (w : World) (h : Heap), YP w h → (K w.params).In h)
    (F : ∀ (w : World) (mg : Str → Option Value) (fa : Addr) (h : Heap), (K w.params).In h → h.Ns mainGlobals mg → mg d.name = some (.ref fa) →
      ∃ fd : FuncData, (∀ (s : Shared) (u : Value), BindsTo s fd ⟨[u], []⟩ [(x, u)]) ∧ ∀ base : Heap, (K w.params).In base → base.Ns mainGlobals mg → FnG l.prog w (K w.params) mg base CX0 k fa fd [x] (sp (K w.params)))
    (hsp : ∀ (K : PySem.W.Frag) (H : Hp) (a : Addr) (ns : List Int), ns.length ≤ n → SqL K H a (ns.map V.int) → sp K [.ref a] H (fun v _ => v = .bl true) fun _ _ _ => False) :
    PySem.W.WalkO q loose XP YP l.row.toRowW d [] (fun f vs => PySem.call f vs) := by
  refine Att.attach_call hn hdf fun w s0 z mg mb fa o pm cd dc a us ns G Y ho hd hcd hm hob hi hle hg => ?_
  have kx := hY w _ Y
  obtain ⟨fd, bd, hF⟩ := F w mg fa _ kx G.T.g hm
  have lv := vals_ints hi
  have le1 : (ns.map V.int).length ≤ sizeLine := by
    rw [List.length_map]
    omega
  cases hk : (K w.params).lookup a with
  | some u =>
    have e := kx a u hk
    rw [hob] at e
    cases e
    have hS : SqL (K w.params) (fun _ => none) a (ns.map V.int) := .inr ⟨_, us.toArray, _, hk, rfl, rfl, rfl, by rw [List.size_toArray, ← lv.length]; exact le1, by simpa using lv⟩
    exact top_run kx G.T.g G.T.b G.T.builtins G.T.nolimit hg hob hr hF bd (fun _ _ _ c => c) (fun _ => .inl rfl) (hsp _ _ _ _ hle hS) (fun b t c => by cases (show (none : Option HO) = some t from c)) fun b c => absurd rfl c
  | none =>
    obtain ⟨H, eH⟩ : ∃ H : Hp, H = upd (fun _ => none) a (.frz { cls := .type "list", data := .seq us.toArray } (.lst (ns.map V.int))) := ⟨_, rfl⟩
    have ea : H a = some (.frz { cls := .type "list", data := .seq us.toArray } (.lst (ns.map V.int))) := by rw [eH]; exact upd_same
    have en : ∀ b, b ≠ a → H b = none := fun b c => by rw [eH]; exact upd_ne c
    refine top_run kx G.T.g G.T.b G.T.builtins G.T.nolimit hg hob hr hF bd (fun _ _ _ c => c) (H := H) (fun b => ?_) (hsp _ _ _ _ hle (.inl (.inr ⟨_, ea⟩))) (fun b t c => ?_) fun b c => ?_
    · by_cases e : b = a
      · exact .inr ⟨_, _, by rw [e]; exact ea⟩
      · exact .inl (en b e)
    · by_cases e : b = a
      · rw [e] at c
        rw [ea] at c
        cases c
        rw [e]
        exact ⟨hob, le1, us, _, lv, hob⟩
      · rw [en b e] at c
        cases c
    · by_cases e : b = a
      · rw [e]
        exact ⟨rfl, hk⟩
      · exact absurd (en b e) c
end D

namespace D
open PySem PySem.Spec PyProof.Rows L2
/-! ### defs that take any number of arguments -/
section
variable {P : Program} {w : World} {K : PySem.W.Frag} {mg : Str → Option Value} {base : Heap}
/-- what such a def promises: what is left over is a new tuple -/
def spStar (n : Nat) (sp : Sp) : Sp := fun vs H Q E => ∃ ws rest, vs = ws ++ rest ∧ ws.length = n ∧ rest.length ≤ sizeLine ∧ ∀ p, H p = Option.none → sp (ws ++ [V.ref p]) (upd H p (.tup rest)) Q E
theorem Fun.okS {x qual : Str} {st : Stmt} {f : Addr} {fd : FuncData} {N ps : List Str} {pv : Str} {k : Nat} {sp : Sp} (F : Fun K x qual st f fd) (S : FnScope N (ps ++ [pv]) (defScope st))
    (hb : ∀ (kV doc pm : Value) (an : Option Addr) (cdv ct : Value) (us rest : List Value), us.length = ps.length → bindArgs (PySem.W.fnOf x qual (defArgs st) (defBody st) (defScope st) .none kV doc pm an cdv ct) ⟨us ++ rest, []⟩ = (newTuple rest >>= fun t => pure (ps.zip us ++ [(pv, t)])))
    (body : ∀ (c : Value) (A : Around) (fr : List Env) (s : Shared) (H : Hp) (vs : List V) (Q : VK) (E : XK), Room k (A.deeper (envOfC qual (defScope st) s.heap.objs.size f c)) → sp vs H Q E →
      ∃ t, PSs (cxOf CX0 P w K mg base N qual (defScope st) f c A fr s H E) (defBody st) t ∧ t { nx := fun _ H' => Q .non H', rt := Q } (start N vs) H) : FnR P w K mg base CX0 (k + 1) f (spStar ps.length sp) := by
  obtain ⟨oc, od, kV, doc, pm, an, c, ct, osl, rfl, lk, hc⟩ := F.ex
  exact StX.fn_star lk hc S StX.cxUp_none (hb kV doc pm an c ct) fun A fr s H vs Q E hr hs => body c A fr s H vs Q E hr hs
end
section
variable {X : Cx} {CX : CXT} {k : Nat} {f : Addr} {sp : Sp} {E : XK} {x : Str} {p pos : Pos} {e : Expr} {es : List Expr} {t : TA}
theorem pe_callR (F : FnR X.prog X.w X.K X.mg X.base CX k f sp) (hr : Room k X.A) (hg : Gl X x) (hm : X.mg x = some (.ref f)) (hk : PySem.W.keepIn X.K (.ref f) = true) (hx : Passes CX X E) (ha : PA X (e :: es) t)
    (hdb : (x == ("__debug__" : Str)) = false := by decide) (he : starEach (e :: es) X.env = (false, eval e X.env) :: starEach es X.env := by rfl) (hpl : (backTo pos (starEach es X.env)).any (·.1) = false := by rfl) : PE X (.Call (.Name x p) (e :: es) [] pos) (tCall sp [] E t) := by
  refine ⟨fun pins s σ H Q I h => wpAny_Call_Name_kw (ld_glob I hg hm ?_ hdb)⟩
  refine PySem.W.callWith_K (h₀ := X.base) I.ok.mod.kin hk (thn (ha.run pos pins s σ H _ I h) fun us s1 ⟨vs, H1, I1, r, q⟩ => ⟨I1.kIn, ?_⟩) he hpl
  have q0 : sp (vs ++ []) H1 Q E := q
  rw [List.append_nil] at q0
  exact wpAny_call (run_fnR F hr hx I1 r q0)
theorem pe_callR0 (F : FnR X.prog X.w X.K X.mg X.base CX k f sp) (hr : Room k X.A) (hg : Gl X x) (hm : X.mg x = some (.ref f)) (hk : PySem.W.keepIn X.K (.ref f) = true) (hx : Passes CX X E)
    (hdb : (x == ("__debug__" : Str)) = false := by decide) : PE X (.Call (.Name x p) [] [] pos) (tCall sp [] E tNil) :=
  ⟨fun pins s σ H Q I h => wpAny_Call_Name_kw (ld_glob I hg hm (PySem.W.callWith_K0 I.kIn hk (wpAny_call (run_fnR (us := []) (vs := []) F hr hx I .nil h))) hdb)⟩
end
end D

namespace D
open PySem PySem.Spec PyProof.Rows L2
/-! ### data that may be compared and shown -/
structure Gd (B n : Nat) (d : PyData) : Prop where
  lay : d.canLay0 = true
  deep : d.depth ≤ n
  short : d.leavesShort 13 = true
  show' : d.showable = true
  nod : d.hasDict = false
  bulk : d.bulk ≤ B
theorem Gd.le {B n B' n' : Nat} {d : PyData} (h : Gd B n d) (hB : B ≤ B') (hn : n ≤ n') : Gd B' n' d := ⟨h.lay, Nat.le_trans h.deep hn, h.short, h.show', h.nod, Nat.le_trans h.bulk hB⟩
theorem log40 {n : Nat} (h : n < 10 ^ 12) : n.log2 < 1920 := by
  rcases Nat.eq_zero_or_pos n with z | z
  · subst z
    decide
  · have := (Nat.log2_lt (by omega)).mpr (Nat.lt_of_lt_of_le h (by decide : 10 ^ 12 ≤ 2 ^ 40))
    omega
theorem Gd.int {i : Int} (h : i.natAbs < 10 ^ 12) : Gd 0 0 (.int i) := ⟨by simp [PyData.canLay0], Nat.le_refl _, decide_eq_true (PyData.shown_int_le h), decide_eq_true (log40 h), rfl, Nat.le_refl _⟩
theorem Gd.str {x : Str} {B : Nat} (h : ∀ c ∈ x.cps.toList, c < 0x110000) (hl : x.length ≤ B) : Gd B 0 (.str x) := ⟨by
  simp only [PyData.canLay0, PyData.strOk]
  rw [← Array.all_toList]
  exact List.all_eq_true.mpr fun c hc => decide_eq_true (h c hc), Nat.le_refl _, List.all_eq_true.mpr fun c hc => decide_eq_true (Nat.lt_of_lt_of_le (h c hc) (by decide)), rfl, rfl, hl⟩
theorem Gd.non : Gd 0 0 .none := ⟨by simp [PyData.canLay0], Nat.le_refl _, rfl, rfl, rfl, Nat.le_refl _⟩
/-- rows of such data: B bounds the items together -/
structure GdAll (B n : Nat) (ds : List PyData) : Prop where
  lay : PyData.canLayAll0 ds = true
  deep : PyData.depthAll ds ≤ n
  short : PyData.leavesShortAll 13 ds = true
  show' : PyData.showableAll ds = true
  nod : PyData.hasDictAll ds = false
  bulk : PyData.bulkAll ds ≤ B
theorem GdAll.nil {n : Nat} : GdAll 0 n [] := ⟨rfl, Nat.zero_le _, rfl, rfl, rfl, Nat.le_refl _⟩
theorem GdAll.cons {B C n : Nat} {d : PyData} {ds : List PyData} (h : Gd B n d) (g : GdAll C n ds) : GdAll (B + 1 + C) n (d :: ds) := by
  refine ⟨?_, ?_, ?_, ?_, ?_, ?_⟩
  · simp only [PyData.canLayAll0, h.lay, g.lay, Bool.and_self]
  · have := h.deep
    have := g.deep
    simp only [PyData.depthAll]
    omega
  · simp only [PyData.leavesShortAll, h.short, g.short, Bool.and_self]
  · simp only [PyData.showableAll, h.show', g.show', Bool.and_self]
  · simp only [PyData.hasDictAll, h.nod, g.nod, Bool.or_self]
  · have := h.bulk
    have := g.bulk
    simp only [PyData.bulkAll]
    omega
theorem GdAll.le {B n B' n' : Nat} {d : List PyData} (h : GdAll B n d) (hB : B ≤ B') (hn : n ≤ n') : GdAll B' n' d := ⟨h.lay, Nat.le_trans h.deep hn, h.short, h.show', h.nod, Nat.le_trans h.bulk hB⟩
theorem GdAll.all {B n : Nat} : ∀ {ds : List PyData}, (∀ d ∈ ds, Gd B n d) → GdAll (ds.length * (B + 1)) n ds
  | [], _ => GdAll.nil.le (Nat.zero_le _) (Nat.le_refl _)
  | d :: r, h => ((GdAll.all fun z hz => h z (List.mem_cons_of_mem _ hz)).cons (h d List.mem_cons_self)).le (by rw [List.length_cons, Nat.succ_mul]; omega) (Nat.le_refl _)
theorem GdAll.tup {B n : Nat} {ds : List PyData} (h : GdAll B n ds) : Gd B (n + 1) (.tuple ds) := by
  refine ⟨?_, ?_, ?_, ?_, ?_, ?_⟩
  · simp only [PyData.canLay0, h.lay]
  · have := h.deep
    simp only [PyData.depth]
    omega
  · simp only [PyData.leavesShort, h.short]
  · simp only [PyData.showable, h.show']
  · simp only [PyData.hasDict, h.nod]
  · exact h.bulk
theorem GdAll.lst {B n : Nat} {ds : List PyData} (h : GdAll B n ds) : Gd B (n + 1) (.list ds) := by
  refine ⟨?_, ?_, ?_, ?_, ?_, ?_⟩
  · simp only [PyData.canLay0, h.lay]
  · have := h.deep
    simp only [PyData.depth]
    omega
  · simp only [PyData.leavesShort, h.short]
  · simp only [PyData.showable, h.show']
  · simp only [PyData.hasDict, h.nod]
  · exact h.bulk
theorem Gd.shaped {B n : Nat} {d : PyData} (h : Gd B n d) (hn : n ≤ 40) : SeqAt.shaped d = true := by
  refine Bool.and_eq_true_iff.mpr ⟨h.lay, decide_eq_true ?_⟩
  have := h.deep
  omega
theorem Gd.refl {B n : Nat} {d : PyData} (h : Gd B n d) : PyData.eqv d d = true := SeqAt.eqv_refl d h.lay
theorem Gd.showing {B n : Nat} {d : PyData} (h : Gd B n d) (hn : n ≤ 40) (hB : B ≤ 1000000) : d.showable = true ∧ d.hasDict = false ∧ d.depth ≤ 64 ∧ d.shown.length ≤ sizeLine := by
  have h1 := PyData.shown_le_bulk 13 (by decide) d h.short
  have := h.deep
  have := h.bulk
  refine ⟨h.show', h.nod, by omega, ?_⟩
  rw [sizeLine_eq]
  omega
/-! ### shapes -/
inductive Lf where
  | text (f : PyData)
  | button (w : PyData)
  | put (c : PyData) (fs : List PyData)
  | each (f m k c : PyData) (fs : List PyData)
inductive Sh where
  | leaf (l : Lf)
  | whn (f : PyData) (a b : Sh)
  | line (r : Bool) (ps : List Sh)
def sText : Str := Str.ofString "text"
def sButton : Str := Str.ofString "button"
def sPut : Str := Str.ofString "put"
def sEach : Str := Str.ofString "each"
def sWhen : Str := Str.ofString "when"
def sLine (r : Bool) : Str := if r = true then Str.ofString "row" else Str.ofString "col"
def Lf.enc : Lf → PyData
  | .text f => .tuple [.str sText, f]
  | .button w => .tuple [.str sButton, w]
  | .put c fs => .tuple [.str sPut, c, .tuple fs]
  | .each f m k c fs => .tuple [.str sEach, f, m, k, c, .tuple fs]
mutual
def Sh.enc : Sh → PyData
  | .leaf l => l.enc
  | .whn f a b => .tuple [.str sWhen, f, a.enc, b.enc]
  | .line r ps => .tuple [.str (sLine r), .tuple (Sh.encAll ps)]
def Sh.encAll : List Sh → List PyData
  | [] => []
  | p :: r => p.enc :: Sh.encAll r
end
mutual
def Sh.dep : Sh → Nat
  | .leaf _ => 1
  | .whn _ a b => Nat.max a.dep b.dep + 1
  | .line _ ps => Sh.depAll ps + 1
def Sh.depAll : List Sh → Nat
  | [] => 0
  | p :: r => Nat.max p.dep (Sh.depAll r)
end
mutual
def Sh.subs : Sh → List Sh
  | .leaf l => [.leaf l]
  | .whn f a b => .whn f a b :: (a.subs ++ (b.subs ++ []))
  | .line r ps => .line r ps :: Sh.subsAll ps
def Sh.subsAll : List Sh → List Sh
  | [] => []
  | p :: r => p.subs ++ Sh.subsAll r
end
def Sh.inner : Sh → List Sh
  | .leaf _ => []
  | .whn _ a b => [a, b]
  | .line _ ps => ps
theorem encAll_map : ∀ ps : List Sh, Sh.encAll ps = ps.map Sh.enc
  | [] => by rw [Sh.encAll, List.map_nil]
  | p :: r => by rw [Sh.encAll, encAll_map r, List.map_cons]
theorem subsAll_map : ∀ ps : List Sh, Sh.subsAll ps = (ps.map Sh.subs).flatten
  | [] => by rw [Sh.subsAll, List.map_nil, List.flatten_nil]
  | p :: r => by rw [Sh.subsAll, subsAll_map r, List.map_cons, List.flatten_cons]
theorem depAll_mem : ∀ {ps : List Sh} {p : Sh}, p ∈ ps → p.dep ≤ Sh.depAll ps
  | q :: r, p, h => by
    rw [Sh.depAll]
    rcases List.mem_cons.mp h with rfl | h
    · exact Nat.le_max_left _ _
    · exact Nat.le_trans (depAll_mem h) (Nat.le_max_right _ _)
theorem depAll_le : ∀ {ps : List Sh} {n : Nat}, (∀ p ∈ ps, p.dep ≤ n) → Sh.depAll ps ≤ n
  | [], n, _ => by rw [Sh.depAll]; exact Nat.zero_le _
  | q :: r, n, h => by
    rw [Sh.depAll]
    exact Nat.max_le.mpr ⟨h q List.mem_cons_self, depAll_le fun p hp => h p (List.mem_cons_of_mem _ hp)⟩
theorem dep_inner {s p : Sh} (h : p ∈ s.inner) : p.dep < s.dep := by
  cases s with
  | leaf l => cases h
  | whn f a b =>
    simp only [Sh.inner, List.mem_cons, List.not_mem_nil, or_false] at h
    rw [Sh.dep]
    rcases h with rfl | rfl
    · exact Nat.lt_succ_of_le (Nat.le_max_left _ _)
    · exact Nat.lt_succ_of_le (Nat.le_max_right _ _)
  | line r ps =>
    rw [Sh.dep]
    exact Nat.lt_succ_of_le (depAll_mem h)
theorem dep_pos (s : Sh) : 0 < s.dep := by
  cases s <;> rw [Sh.dep] <;> omega
theorem subs_eq (s : Sh) : s.subs = s :: (s.inner.map Sh.subs).flatten := by
  cases s with
  | leaf l => rw [Sh.subs]; rfl
  | whn f a b => rw [Sh.subs]; rfl
  | line r ps => rw [Sh.subs, subsAll_map]; rfl
theorem dep_eq (s : Sh) : s.dep = Sh.depAll s.inner + 1 := by
  cases s with
  | leaf l => rw [Sh.dep]; rfl
  | whn f a b =>
    rw [Sh.dep]
    simp only [Sh.inner, Sh.depAll, Nat.max_eq_left (Nat.zero_le _)]
  | line r ps => rw [Sh.dep]; rfl
/-- the parts of a shape stand behind it, in a row -/
theorem subs_slice : ∀ (n : Nat) (s : Sh), s.dep ≤ n → ∀ (i : Nat) (t : Sh), s.subs[i]? = some t → (s.subs.drop i).take t.subs.length = t.subs := by
  intro n
  induction n with
  | zero => intro s h; exact absurd (dep_pos s) (by omega)
  | succ n ih =>
    intro s hs i t hi
    rw [subs_eq s] at hi ⊢
    cases i with
    | zero =>
      cases hi
      rw [List.drop_zero, ← subs_eq]
      exact List.take_of_length_le (Nat.le_refl _)
    | succ i =>
      rw [List.getElem?_cons_succ] at hi
      rw [List.drop_succ_cons]
      have hd : ∀ p ∈ s.inner, p.dep ≤ n := fun p hp => by
        have := dep_inner hp
        omega
      revert hi hd
      generalize s.inner = ps
      intro hi hd
      induction ps generalizing i with
      | nil => simp at hi
      | cons p r ihp =>
        rw [List.map_cons, List.flatten_cons] at hi ⊢
        by_cases c : i < p.subs.length
        · rw [List.getElem?_append_left c] at hi
          have e := ih p (hd p List.mem_cons_self) i t hi
          have l1 : t.subs.length ≤ (p.subs.drop i).length := by
            have := congrArg List.length e
            rw [List.length_take] at this
            omega
          rw [List.drop_append_of_le_length (by omega), List.take_append_of_le_length l1]
          exact e
        · rw [List.getElem?_append_right (by omega)] at hi
          rw [List.drop_append, List.drop_of_length_le (by omega), List.nil_append]
          exact ihp _ hi fun q hq => hd q (List.mem_cons_of_mem _ hq)
/-- a shape that was drawn -/
def Lf.ok : Lf → Prop
  | .text f => Gd 150 3 f
  | .button w => Gd 8 0 w
  | .put c fs => Gd 8 0 c ∧ fs.length ≤ 3 ∧ ∀ f ∈ fs, Gd 50 2 f
  | .each f m k c fs => Gd 50 2 f ∧ Gd 24 2 m ∧ Gd 50 2 k ∧ Gd 8 0 c ∧ fs.length ≤ 3 ∧ ∀ f ∈ fs, Gd 50 2 f
def okLen (n : Nat) : Prop := n ≤ 8 ∨ n = 11
mutual
def Sh.ok : Sh → Prop
  | .leaf l => l.ok
  | .whn f a b => Gd 150 3 f ∧ a.ok ∧ b.ok
  | .line _ ps => okLen ps.length ∧ Sh.okAll ps
def Sh.okAll : List Sh → Prop
  | [] => True
  | p :: r => p.ok ∧ Sh.okAll r
end
theorem okAll_iff : ∀ {ps : List Sh}, Sh.okAll ps ↔ ∀ p ∈ ps, p.ok
  | [] => by rw [Sh.okAll]; exact ⟨fun _ _ h => (nomatch h), fun _ => trivial⟩
  | q :: r => by
    rw [Sh.okAll, okAll_iff (ps := r)]
    simp
theorem ok_inner {s p : Sh} (h : s.ok) (hp : p ∈ s.inner) : p.ok := by
  cases s with
  | leaf l => cases hp
  | whn f a b =>
    rw [Sh.ok] at h
    simp only [Sh.inner, List.mem_cons, List.not_mem_nil, or_false] at hp
    rcases hp with rfl | rfl
    · exact h.2.1
    · exact h.2.2
  | line r ps =>
    rw [Sh.ok, okAll_iff] at h
    exact h.2 p hp
theorem gstr (x : String) (B : Nat) (h : ((Str.ofString x).cps.toList.all fun c => decide (c < 0x110000)) = true) (hl : (Str.ofString x).length ≤ B) : Gd B 0 (.str (Str.ofString x)) := Gd.str (fun c hc => of_decide_eq_true (List.all_eq_true.mp h c hc)) hl
theorem Gd.up {B n : Nat} {d : PyData} (h : Gd B 0 d) : Gd B n d := h.le (Nat.le_refl _) (Nat.zero_le _)
theorem Lf.gd {l : Lf} (h : l.ok) : Gd 310 4 l.enc := by
  cases l with
  | text f => exact ((((GdAll.nil).cons (show Gd 150 3 f from h)).cons (gstr "text" 10 (by decide +kernel) (by decide +kernel)).up).tup).le (by omega) (Nat.le_refl _)
  | button w => exact ((((GdAll.nil (n := 0)).cons (show Gd 8 0 w from h)).cons (gstr "button" 10 (by decide +kernel) (by decide +kernel))).tup).le (by omega) (by omega)
  | put c fs =>
    obtain ⟨h1, h2, h3⟩ := h
    have hf := (GdAll.all h3).tup
    refine ((((GdAll.nil.cons hf).cons h1.up).cons (gstr "put" 10 (by decide +kernel) (by decide +kernel)).up).tup).le ?_ (Nat.le_refl _)
    omega
  | each f m k c fs =>
    obtain ⟨g1, g2, g3, h1, h2, h3⟩ := h
    have hf := (GdAll.all h3).tup
    refine (((((((GdAll.nil.cons hf).cons h1.up).cons (g3.le (Nat.le_refl _) (by omega))).cons (g2.le (Nat.le_refl _) (by omega))).cons (g1.le (Nat.le_refl _) (by omega))).cons (gstr "each" 10 (by decide +kernel) (by decide +kernel)).up).tup).le ?_ (Nat.le_refl _)
    omega
def Sh.cnt (s : Sh) : Nat := s.subs.length
theorem cnt_eq (s : Sh) : s.cnt = (s.inner.map Sh.cnt).sum + 1 := by
  unfold Sh.cnt
  rw [subs_eq, List.length_cons, List.length_flatten, List.map_map]
  rfl
theorem cnt_pos (s : Sh) : 0 < s.cnt := by rw [cnt_eq]; omega
theorem GdAll.shs {n B : Nat} : ∀ {ps : List Sh}, (∀ p ∈ ps, Gd (310 * p.cnt) n p.enc) → GdAll (310 * (ps.map Sh.cnt).sum + ps.length) n (ps.map Sh.enc)
  | [], _ => GdAll.nil.le (Nat.zero_le _) (Nat.le_refl _)
  | p :: r, h => ((GdAll.shs (B := B) fun z hz => h z (List.mem_cons_of_mem _ hz)).cons (h p List.mem_cons_self)).le (by simp only [List.map_cons, List.sum_cons, List.length_cons]; omega) (Nat.le_refl _)
theorem Sh.gd : ∀ (n : Nat) (s : Sh), s.dep ≤ n → s.ok → Gd (310 * s.cnt) (2 * n + 4) s.enc := by
  intro n
  induction n with
  | zero => intro s h; exact absurd (dep_pos s) (by omega)
  | succ n ih =>
    intro s hs ho
    have hi : ∀ p ∈ s.inner, Gd (310 * p.cnt) (2 * n + 4) p.enc := fun p hp => ih p (by have := dep_inner hp; omega) (ok_inner ho hp)
    have hc := cnt_eq s
    cases s with
    | leaf l =>
      rw [Sh.ok] at ho
      have hp := cnt_pos (.leaf l)
      exact (Lf.gd ho).le (by omega) (by omega)
    | whn f a b =>
      rw [Sh.ok] at ho
      have ga := hi a (by simp [Sh.inner])
      have gb := hi b (by simp [Sh.inner])
      rw [Sh.enc]
      refine (((((GdAll.nil.cons gb).cons ga).cons (ho.1.le (Nat.le_refl _) (by omega))).cons (gstr "when" 10 (by decide +kernel) (by decide +kernel)).up).tup).le ?_ (by omega)
      rw [hc]
      simp only [Sh.inner, List.map_cons, List.map_nil, List.sum_cons, List.sum_nil]
      omega
    | line r ps =>
      rw [Sh.ok] at ho
      have hl : ps.length ≤ 11 := by rcases ho.1 with z | z <;> omega
      have g := (GdAll.shs (B := 0) hi).tup
      have gs : Gd 10 0 (.str (sLine r)) := by
        unfold sLine
        cases r
        · exact gstr "col" 10 (by decide +kernel) (by decide +kernel)
        · exact gstr "row" 10 (by decide +kernel) (by decide +kernel)
      rw [Sh.enc, encAll_map]
      refine (((GdAll.nil.cons g).cons gs.up).tup).le ?_ (by omega)
      rw [hc]
      simp only [Sh.inner] at g ⊢
      omega
end D

/-! making an instance where its __init__ may raise, within a try or a def that lets the error out -/
namespace D
open PySem PySem.Spec PyProof.Rows L2
section
variable {X : Cx} {CX : CXT} {k : Nat} {f C : Addr} {fd : FuncData} {ps : List Str} {sp : Sp} {dvs : List V} {ds : List Value} {x : Str} {p pos : Pos} {e : Expr} {es : List Expr} {t : TA}
def tMakeS (C : Addr) (sp : Sp) (dvs : List V) (E : L2.St → XK) (t : TA) : TE := fun σ H Q => t σ H fun vs H1 => ∀ x dx, H1 x = none → H1 dx = none → dx ≠ x →
  sp (.ref x :: (vs ++ dvs)) (upd (upd H1 dx (.own x)) x (.ins C dx [])) (fun v H2 => v = .non ∧ Q (.ref x) H2) (E σ)
theorem run_makeS {E : XK} {pins : List (Addr × Obj)} {σ : L2.St} {H : Hp} {s : Shared} {Q : VK} {us : List Value} {vs : List V} (M : L2.Mk X.K C f) (F : FnOk X.prog X.w X.K X.mg X.base CX k f fd ps sp) (hr : Room (k + 1) X.A) (hb : Binds X.K fd ps ds) (hd : Vals dvs ds)
    (hx : PassesAt CX X σ E) (I : Inv X pins σ H s) (r : Vals vs us)
    (h : ∀ x dx, H x = none → H dx = none → dx ≠ x → sp (.ref x :: (vs ++ dvs)) (upd (upd H dx (.own x)) x (.ins C dx [])) (fun v H2 => v = .non ∧ Q (.ref x) H2) E) :
    wpAny (model X.prog X.w) X.A (call (.ref C) us) (EP X pins σ Q) X.xe s := by
  have hq := h (s.heap.objs.size + 1) s.heap.objs.size (I.hok.fresh (Nat.le_succ _)) (I.hok.fresh (Nat.le_refl _)) (Nat.ne_of_lt (Nat.lt_succ_self _))
  have I2 := Inv.made (C := C) I
  have r2 : Vals (V.ref (s.heap.objs.size + 1) :: (vs ++ dvs)) (Value.ref (s.heap.objs.size + 1) :: (us ++ ds)) := .cons rfl (r.append hd)
  have hl : (Value.ref (s.heap.objs.size + 1) :: us ++ ds).length = ps.length := by
    have e := r2.length
    rw [F.len _ _ _ _ hq] at e
    exact e.symm
  refine wpAny_call (make_map (f := f) I.kIn M.makes M.init (beq_iff_eq.mp M.fn) (codeAny_mono (F.run _ X.stack _ _ ⟨Value.ref (s.heap.objs.size + 1) :: us, []⟩ (Value.ref (s.heap.objs.size + 1) :: (us ++ ds)) _ _ E (hr.make C us [])
    (I2.env0.make C us []) (hb _ (Value.ref (s.heap.objs.size + 1) :: us) I2.kIn hl) r2 hq) fun r s' hq' => ?_))
  cases r with
  | error e => exact hx pins _ _ e s' I2 hq'
  | ok fl =>
    cases fl with
    | ret u =>
      obtain ⟨v, H', I3, rv, ev, q3⟩ := I2.after hq'
      subst ev
      exact ⟨rv, ⟨V.ref (s.heap.objs.size + 1), H', I3, rfl, q3⟩⟩
    | next => exact False.elim hq'
    | brk => exact False.elim hq'
    | cont => exact False.elim hq'
theorem pe_makeS {E : L2.St → XK} (M : L2.Mk X.K C f) (F : FnOk X.prog X.w X.K X.mg X.base CX k f fd ps sp) (hr : Room (k + 1) X.A) (hg : Gl X x) (hm : X.mg x = some (.ref C)) (hb : Binds X.K fd ps ds) (hd : Vals dvs ds) (hx : ∀ σ, PassesAt CX X σ (E σ))
    (ha : PA X (e :: es) t) (hdb : (x == ("__debug__" : Str)) = false := by decide) (he : starEach (e :: es) X.env = (false, eval e X.env) :: starEach es X.env := by rfl) (hpl : (backTo pos (starEach es X.env)).any (·.1) = false := by rfl) :
    PE X (.Call (.Name x p) (e :: es) [] pos) (tMakeS C sp dvs E t) := by
  refine ⟨fun pins s σ H Q I h => ?_⟩
  refine wpAny_Call_Name_kw (ld_glob I hg hm ?_ hdb)
  refine PySem.W.callWith_K (h₀ := X.base) I.ok.mod.kin M.kp (thn (ha.run pos pins s σ H _ I h) fun us s1 ⟨vs, H1, I1, r, q⟩ => ⟨I1.kIn, ?_⟩) he hpl
  exact run_makeS M F hr hb hd (hx σ) I1 r q
end
section
variable {X : Cx} {K : PySem.W.Frag}
/-- repr, its row's part of the module named: within a suite -/
theorem call_reprVK (hK : X.K = K) (gd : X.A.guards = some []) (hu : X.A.units + 200 < cLine) : CallR X (.builtin "repr") (fun vs H Q => ∃ v d, vs = [v] ∧ Dp K H v d ∧ d.showable = true ∧ d.hasDict = false ∧ d.depth ≤ 64 ∧ d.shown.length ≤ sizeLine ∧ Q (.str d.shown) H) := by
  subst hK
  exact call_reprV gd hu
end
section
variable {X : Cx} {K : PySem.W.Frag}
/-- t != u, two tuples of the same plain items, whatever their texts hold -/
def rNeSm (K : PySem.W.Frag) : R2 := fun x y H Q => ∃ a b xs, x = .ref a ∧ y = .ref b ∧ SqT K H a xs ∧ SqT K H b xs ∧ xs.all flatB = true ∧ Q (.bl false) H
theorem op_neSm (hK : X.K = K) (hu : X.A.units < cLine) : OpR X (compareOp .NotEq) (rNeSm K) := by
  subst hK
  intro pins s σ H x y v u Q I rx ry h
  obtain ⟨a, b, xs, rfl, rfl, ha, hb, hf, q⟩ := h
  cases (show v = Value.ref a from rx)
  cases (show u = Value.ref b from ry)
  obtain ⟨us, r1, p1, _⟩ := I.tuple ha
  obtain ⟨ws, r2, p2, _⟩ := I.tuple hb
  have l1 := r1.length
  have l2 := r2.length
  have k := SeqAt.RcNeAt.tuples (A := X.A) (e := fun _ => true) p1 p2 hu (fun j h1 h2 => by
    have hj1 : j < us.length := by simpa using h1
    have hj2 : j < ws.length := by simpa using h2
    have hx : xs[j]? = some (xs[j]'(by omega)) := List.getElem?_eq_getElem _
    have e1 := r1.get hx
    have e2 := r2.get hx
    obtain ⟨u1, g1, q1⟩ := e1
    obtain ⟨u2, g2, q2⟩ := e2
    rw [List.getElem?_eq_getElem hj1] at g1
    rw [List.getElem?_eq_getElem hj2] at g2
    cases g1
    cases g2
    have := eqAt_same (A := X.A.in1) (s := s) q1 q2 (List.all_eq_true.mp hf _ (List.getElem_mem _))
    simpa using this) X.prog X.w X.xe (fun z s' => EP X pins σ Q z s')
  refine k ?_
  have e : (!((List.range (min us.toArray.size ws.toArray.size)).all (fun _ => true) && us.toArray.size == ws.toArray.size)) = false := by
    have h1 : ((List.range (min us.toArray.size ws.toArray.size)).all fun _ => true) = true := List.all_eq_true.mpr fun _ _ => rfl
    rw [h1, List.size_toArray, List.size_toArray, ← l1, ← l2]
    simp
  rw [e]
  exact ⟨.bl false, H, I, rfl, q⟩
end
end D

/-! a bag and a row of data that stand together: what a law has drawn so far -/
namespace D
open PySem PySem.Spec PyProof.Rows L2
theorem RpAll.nth {M : Ms} {H : Hp} {vs : List V} {ds : List PyData} {v : V} {d : PyData} (h : RpAll M H vs ds) (i : Nat) (hv : vs[i]? = some v) (hd : ds[i]? = some d) : Rp M H v d := by
  obtain ⟨d', e, r⟩ := h.get hv
  rw [hd] at e
  cases e
  exact r
structure Ds (K : PySem.W.Frag) (M : Ms) (b : Addr) (H : Hp) (vs : List V) (ds : List PyData) : Prop where
  bag : Bag K M H b
  ok : Mk M H
  all : RpAll M H vs ds
namespace Ds
variable {K : PySem.W.Frag} {M : Ms} {b : Addr} {H H' : Hp} {vs us : List V} {ds es : List PyData} {v : V} {d : PyData} {p : Addr}
theorem same (E : Ds K M b H vs ds) (s : Same H H') : Ds K M b H' vs ds := ⟨E.bag.same s, E.ok.gr (Gr.same s), E.all.sx (Sx.same s)⟩
theorem push (E : Ds K M b H vs ds) (r : Rp M H v d) : Ds K M b H (v :: vs) (d :: ds) := ⟨E.bag, E.ok, .cons r E.all⟩
theorem step (E : Ds K M b H vs ds) (s : Sx (one b) H H') (g : Gr H H') (B : Bag K M H' b) : Ds K M b H' vs ds := ⟨B, E.ok.gr g, E.all.sx (s.le (one_le E.bag.w))⟩
theorem draw (E : Ds K M b H vs ds) (s : Sx (one b) H H') (g : Gr H H') (B : Bag K M H' b) (r : Rp M H' v d) : Ds K M b H' (v :: vs) (d :: ds) := (E.step s g B).push r
theorem pick (E : Ds K M b H vs ds) (hA : At b H H') (B : Bag K M H' b) : Ds K M b H' vs ds := E.step hA.sx (At.gr hA B.there) B
theorem tup (E : Ds K M b H vs ds) (hp : H p = none) (r : RpAll M H us es) : Ds K M b (upd H p (.tup us)) (.ref p :: vs) (.tuple es :: ds) := (E.same (same_new hp)).push (Rp.newT E.ok hp r)
theorem lst (E : Ds K M b H vs ds) (hp : H p = none) (r : RpAll M H us es) : Ds K M b (upd H p (.lst us)) (.ref p :: vs) (.list es :: ds) := (E.same (same_new hp)).push (Rp.newL E.ok hp r)
theorem new (E : Ds K M b H vs ds) (hp : H p = none) {o : HO} : Ds K M b (upd H p o) vs ds := E.same (same_new hp)
theorem at' (E : Ds K M b H vs ds) (i : Nat) (hv : vs[i]? = some v) (hd : ds[i]? = some d) : Rp M H v d := E.all.nth i hv hd
theorem tail (E : Ds K M b H (v :: vs) (d :: ds)) : Ds K M b H vs ds := ⟨E.bag, E.ok, by
  cases E.all with
  | cons _ r => exact r⟩
theorem cut (E : Ds K M b H vs ds) (n : Nat) : Ds K M b H (vs.take n) (ds.take n) := ⟨E.bag, E.ok, E.all.take n⟩
end Ds
end D

/-! a dict comprehension with two clauses, keys whole numbers or texts -/
namespace D
open PySem PySem.Spec PyProof.Rows L2
/-- the comprehension meant here -/
abbrev dcx (kx vx ta ia : Expr) (ca : List Expr) (tb ib : Expr) (cb : List Expr) (sc : Scope) (ps : Pos) : Expr := .DictComp kx vx [⟨ta, ia, ca, 0⟩, ⟨tb, ib, cb, 0⟩] sc ps
section
variable {P : Program} {w : World} {A : Around} {R : Result → Shared → Prop} {s : Shared} {kx vx ta ia tb ib : Expr} {ca cb : List Expr} {sc : Scope} {ps : Pos} {env : Env}
/-- the tests of a clause, one behind the other -/
abbrev testsOf (cs : List Expr) (env : Env) : Sem Bool := forIn cs true fun c r => if r = true then do let ok ← isTrue c env (eval c env); pure (ForInStep.yield ok) else pure (ForInStep.yield r)
theorem dcx_outer (it acc : Value) : compTurn (dcx kx vx ta ia ca tb ib cb sc ps) 0 it acc env = (do
      standAt ia.pos
      match ← pyNext it with
      | none => pure (.done .next)
      | some u =>
        letOwnedTupleGo ta it u
        assign ta env u
        let mut go := true
        for c in ca do
          if go then go ← isTrue c env (eval c env)
        if go then
          let y ← eval ib env
          standAt ib.pos
          let y ← foldedSetIterable ib env y
          let _ ← runOwn (.compStart (dcx kx vx ta ia ca tb ib cb sc ps) 1 (← holding [y] (pyIter y)) acc env) env
        again (.compLoop (dcx kx vx ta ia ca tb ib cb sc ps) 0 it acc env)) := by rfl
theorem dcx_inner (it : Value) (D : Addr) : compTurn (dcx kx vx ta ia ca tb ib cb sc ps) 1 it (.ref D) env = (do
      standAt ib.pos
      match ← pyNext it with
      | none => pure (.done .next)
      | some u =>
        letOwnedTupleGo tb it u
        assign tb env u
        let mut go := true
        for c in cb do
          if go then go ← isTrue c env (eval c env)
        if go then
          (do
            let k0 ← eval kx env
            let v0 ← holding [k0] (eval vx env)
            standAt { kx.pos with endLine := vx.pos.endLine, endCol := vx.pos.endCol }
            holding [k0, v0] (dictSet D k0 v0))
        again (.compLoop (dcx kx vx ta ia ca tb ib cb sc ps) 1 it (.ref D) env)) := by rfl
/-- what an error leaves, told with the frame -/
abbrev ErX (P : Program) (w : World) (A : Around) (env : Env) (R : Result → Shared → Prop) : Value → Shared → Prop := notedBy (model P w) A env fun e s' => R (.error e) s'
/-- one turn of the outer loop -/
theorem dcx_loopA {it acc : Value} (hs : ∀ x, foldedSetIterable ib env x = pure x) (J : Nat → Shared → Prop)
    (step : ∀ n s, J n s → wpAny (model P w) A (pyNext it) (fun r s1 => r.elim (R (.ok .next) s1) fun u => wpAny (model P w) A (letOwnedTupleGo ta it u) (fun _ s2 => wpAny (model P w) A (assign ta env u) (fun _ s3 => wpAny (model P w) A (testsOf ca env) (fun b s4 =>
        if b = true then wpAny (model P w) A (eval ib env) (fun y s5 => wpAny (model P w) A (pyIter y) (fun it1 s6 => codeAny (model P w) A (.compStart (dcx kx vx ta ia ca tb ib cb sc ps) 1 it1 acc env) (fun r s' => match r with | .ok _ => ∃ m, m < n ∧ J m s' | .error _ => False) s6) (ErX P w A env R) s5) (ErX P w A env R) s4
        else ∃ m, m < n ∧ J m s4) (ErX P w A env R) s3) (ErX P w A env R) s2) (ErX P w A env R) s1) (ErX P w A env R) s)
    (n : Nat) (j0 : J n s) : codeAny (model P w) A (.compLoop (dcx kx vx ta ia ca tb ib cb sc ps) 0 it acc env) R s := by
  refine codeAny_loop rfl J (fun n z hJ => ?_) n j0
  show wpAny _ A (Sem.onRaise (compTurn (dcx kx vx ta ia ca tb ib cb sc ps) 0 it acc env) fun x => do noteFrame x env; theTreesLotGoes x) _ _ z
  apply wpAny_noted
  rw [dcx_outer]
  refine wpAny_bind (wpAny_standAt (wpAny_bind (wpAny_mono (step n z hJ) (fun r z1 k1 => ?_) fun _ _ q => q)))
  match r, k1 with
  | none, k1 => exact wpAny_pure k1
  | some u, k1 =>
    refine wpAny_bind (wpAny_mono k1 (fun _ z2 k2 => wpAny_bind (wpAny_mono k2 (fun _ z3 k3 => ?_) fun _ _ q => q)) fun _ _ q => q)
    refine wpAny_bind (wpAny_mono k3 (fun b z4 k4 => ?_) fun _ _ q => q)
    match b, k4 with
    | false, k4 => exact wpAny_pure ⟨rfl, k4⟩
    | true, k4 =>
      refine wpAny_bind (wpAny_mono k4 (fun y z5 k5 => wpAny_bind (wpAny_standAt ?_)) fun _ _ q => q)
      refine wpAny_bind (wpAny_of_eq (hs y) (wpAny_bind (wpAny_holding (wpAny_mono k5 (fun it1 z6 k6 => wpAny_bind (wpAny_runOwn ?_)) fun _ _ q => q))))
      rw [Around.mark_none]
      refine codeAny_mono k6 fun r z7 k7 => ?_
      match r, k7 with
      | .error e, k7 => exact k7.elim
      | .ok f, k7 => first | exact wpAny_pure ⟨rfl, k7⟩ | exact wpAny_bind (wpAny_pure (wpAny_pure ⟨rfl, k7⟩))
/-- one turn of the inner loop -/
theorem dcx_loopB {it : Value} {D : Addr} (J : Nat → Shared → Prop)
    (step : ∀ n s, J n s → wpAny (model P w) A (pyNext it) (fun r s1 => r.elim (R (.ok .next) s1) fun u => wpAny (model P w) A (letOwnedTupleGo tb it u) (fun _ s2 => wpAny (model P w) A (assign tb env u) (fun _ s3 => wpAny (model P w) A (testsOf cb env) (fun b s4 =>
        if b = true then wpAny (model P w) A (eval kx env) (fun k0 s5 => wpAny (model P w) A (eval vx env) (fun v0 s6 => wpAny (model P w) A (dictSet D k0 v0) (fun _ s7 => ∃ m, m < n ∧ J m s7) (ErX P w A env R) s6) (ErX P w A env R) s5) (ErX P w A env R) s4
        else ∃ m, m < n ∧ J m s4) (ErX P w A env R) s3) (ErX P w A env R) s2) (ErX P w A env R) s1) (ErX P w A env R) s)
    (n : Nat) (j0 : J n s) : codeAny (model P w) A (.compLoop (dcx kx vx ta ia ca tb ib cb sc ps) 1 it (.ref D) env) R s := by
  refine codeAny_loop rfl J (fun n z hJ => ?_) n j0
  show wpAny _ A (Sem.onRaise (compTurn (dcx kx vx ta ia ca tb ib cb sc ps) 1 it (.ref D) env) fun x => do noteFrame x env; theTreesLotGoes x) _ _ z
  apply wpAny_noted
  rw [dcx_inner]
  refine wpAny_bind (wpAny_standAt (wpAny_bind (wpAny_mono (step n z hJ) (fun r z1 k1 => ?_) fun _ _ q => q)))
  match r, k1 with
  | none, k1 => exact wpAny_pure k1
  | some u, k1 =>
    refine wpAny_bind (wpAny_mono k1 (fun _ z2 k2 => wpAny_bind (wpAny_mono k2 (fun _ z3 k3 => ?_) fun _ _ q => q)) fun _ _ q => q)
    refine wpAny_bind (wpAny_mono k3 (fun b z4 k4 => ?_) fun _ _ q => q)
    match b, k4 with
    | false, k4 => exact wpAny_pure ⟨rfl, k4⟩
    | true, k4 =>
      refine wpAny_bind (wpAny_bind (wpAny_mono k4 (fun k0 z5 k5 => ?_) fun _ _ q => q))
      refine wpAny_bind (wpAny_holding (wpAny_mono k5 (fun v0 z6 k6 => wpAny_bind (wpAny_standAt ?_)) fun _ _ q => q))
      exact wpAny_holding (wpAny_mono k6 (fun _ z7 k7 => wpAny_pure ⟨rfl, k7⟩) fun _ _ q => q)
/-- the inner loop is begun -/
theorem dcx_startB {it acc : Value} (l0 : codeAny (model P w) A (.compLoop (dcx kx vx ta ia ca tb ib cb sc ps) 1 it acc env) R s)
    (li : wpAny (model P w) A (pyIter it) (fun i2 s' => codeAny (model P w) A (.compLoop (dcx kx vx ta ia ca tb ib cb sc ps) 1 i2 acc env) R s') (ErX P w A env R) s) :
    codeAny (model P w) A (.compStart (dcx kx vx ta ia ca tb ib cb sc ps) 1 it acc env) R s := by
  apply codeAny_of_tree
  show wpAny _ _ (Sem.onRaise (compStart (dcx kx vx ta ia ca tb ib cb sc ps) 1 it acc env) fun x => do noteFrame x env; standAt theWindowsPlace) _ _ s
  apply wpAny_notedAt
  unfold compStart
  show wpAny _ A (ask >>= _) _ _ s
  apply wpAny_bind
  apply wpAny_askSetting
  apply wpAny_ite
  split
  · first | exact wpAny_pure ⟨rfl, l0⟩ | exact wpAny_bind (wpAny_pure (wpAny_pure ⟨rfl, l0⟩))
  · have go := wpAny_mono li (Q' := fun i2 s' => wpAny (model P w) A (pure i2) (fun _ _ => True) (fun _ _ => True) s' ∧ codeAny (model P w) A (.compLoop (dcx kx vx ta ia ca tb ib cb sc ps) 1 i2 acc env) R s') (fun i2 s' q => ⟨wpAny_pure trivial, q⟩) fun _ _ q => q
    refine wpAny_bind (wpAny_rule ?_)
    show wpAny _ _ (standAt ib.pos >>= _) _ _ s
    exact wpAny_bind (wpAny_standAt (wpAny_bind (wpAny_mono go (fun i2 s' q => wpAny_pure ⟨rfl, q.2⟩) fun _ _ q => q)))
end
section
variable {X : Cx}
/-- {k: v for a in u if .. for b in z if ..}: D the new dict; the inner walk reaches Nx; vb: the names of the inner target -/
def tDc2 (wa : TI) (ga : TG) (ca : TT) (wb : TI) (gb : TG) (cb : TT) (tk tv : TE) (vs vb : List Nat) : TE := fun σ H Q => wa σ H fun J H1 => ∀ D, H1 D = none → ∃ W : Nat → Nat → Hp → Prop, (∃ m, W 0 m (upd H1 D (.dK []))) ∧ ∀ i m H, W i m H →
  (J.stop i H ∧ Q (.ref D) H) ∨ (J.go i H ∧ ∃ Nx : Hp → Prop, (∀ H', Nx H' → ∃ m', m' < m ∧ W (i + 1) m' H') ∧ ∀ x H', J.yld i H x H' → ga x (wipe σ vs) H' fun σ2 H2 => wipe σ2 vs = wipe σ vs ∧ ca σ2 H2 fun b H3 =>
    if b = true then wb σ2 H3 fun J1 H4 => ∃ V : Nat → Nat → Hp → Prop, (∃ m, V 0 m H4) ∧ ∀ j k H, V j k H →
      (J1.stop j H ∧ Nx H) ∨ (J1.go j H ∧ ∃ Ny : Hp → Prop, (∀ H', Ny H' → ∃ k', k' < k ∧ V (j + 1) k' H') ∧ ∀ x H', J1.yld j H x H' → gb x (wipe σ2 vb) H' fun σ3 H5 => wipe σ3 vb = wipe σ2 vb ∧ cb σ3 H5 fun b H6 =>
        if b = true then tk σ3 H6 fun y H7 => tv σ3 H7 fun z H8 => ∃ kvs q, y = kV q ∧ H8 D = some (.dK kvs) ∧ kvs.length < sizeLine ∧ Ny (upd H8 D (.dK (putK kvs q z))) else Ny H6)
    else Nx H3)
abbrev BlkF (X : Cx) (sc : Scope) (F : Cx → Prop) : Prop := ∀ (s : Shared) (H : Hp) (C : Addr) (cl : List (Str × Addr)) (fp : List Addr), F (X.blk s H sc (compEnvC sc cl C X.env) fp)
theorem pe_dc2 {kx vx ta ia tb ib : Expr} {ca cb : List Expr} {sc : Scope} {own : List (Str × Nat)} {vb : List Nat} {ps : Pos} {wa wb : TI} {ga gb : TG} {qa qb : TT} {tk tv : TE} (hc : X.calm = true) (hN : X.N.Nodup) (ha : PI X ta ia wa) (ok : BlkOk X.N X.env.scope sc own) (hvb : ∀ i ∈ vb, i ∈ own.map (·.2))
    (hga : BlkF X sc fun Y => PG Y ta ga) (hqa : BlkF X sc fun Y => PTs Y ca qa) (hb : BlkF X sc fun Y => PI Y tb ib wb) (hgb : BlkF X sc fun Y => PG Y tb gb) (hqb : BlkF X sc fun Y => PTs Y cb qb) (hk : BlkF X sc fun Y => PE Y kx tk) (hv : BlkF X sc fun Y => PE Y vx tv)
    (fa : ∀ x, foldedSetIterable ia X.env x = pure x := by intro _; rfl) (fb : ∀ env x, foldedSetIterable ib env x = pure x := by intro _ _; rfl) :
    PE X (dcx kx vx ta ia ca tb ib cb sc ps) (tDc2 wa ga qa wb gb qb tk tv (own.map (·.2)) vb) := by
  refine ⟨fun pins s σ H Q I h => ?_⟩
  rw [arm_eval_DictComp]
  have fre : ∀ y ∈ sc.names, y.2 = .free → ∃ c, X.env.cells.lookup y.1 = some c := fun y hy e => (ok.free y hy e).elim (fun k => I.ok.has _ (.inl k)) (fun k => I.ok.has _ (.inr k))
  refine wpAny_comprehension_free rfl fa (closure_ok fre) ok.kind (fun y hy e => by rw [ok.uniq y hy, e]) (thn (ha.run pins s σ H _ I h) fun _ sa hx => thn hx fun _ sb hy => ?_)
  obtain ⟨it, fp, tn, J, Hb, rfl, Ib, T, stb, fpb, q⟩ := hy
  refine wpAny_newObj_type (newEnv_comp ?_)
  generalize eD : sb.heap.objs.size = D
  have nD : Hb D = none := Ib.hok.fresh (Nat.le_of_eq eD)
  obtain ⟨W, ⟨m0, w0⟩, turn⟩ := q D nD
  generalize ec : ({ sb with heap := sb.heap.push { cls := .type "dict", data := .dict #[] } } : Shared) = sc3
  have Ic : Inv X pins σ (upd Hb D (.dK [])) sc3 := by
    rw [← ec, ← eD]
    exact Ib.laid (t' := sb.toks) (fun b o e => Heap.get?_push_of_some _ e) (Nat.le_refl _) (dk_empty sb.heap Ib.big)
  have hc3 : sc3.heap = sb.heap.push { cls := .type "dict", data := .dict #[] } := by rw [← ec]
  have lt : ∀ b ∈ fp, b < sb.heap.objs.size := fun b hb => by
    obtain ⟨_, e, _⟩ := T.obj _ _ stb b hb
    exact Heap.lt_size e
  have fpc : ∀ b ∈ fp, FpOk X pins (upd Hb D (.dK [])) b ∧ b < sc3.heap.objs.size := fun b hb => by
    have l := lt b hb
    constructor
    · refine ⟨?_, (fpb b hb).2⟩
      rw [upd_ne (by rw [← eD]; exact Nat.ne_of_lt l)]
      exact (fpb b hb).1
    · rw [hc3, Heap.size_push]
      exact Nat.lt_succ_of_lt l
  have stc : tn 0 sc3.heap := T.keep _ _ _ stb fun b _ o e => by rw [hc3]; exact Heap.get?_push_of_some _ e
  have I4 := block_start Ic ok hN fpc
  generalize eH : upd Hb D (.dK []) = H3 at Ic I4 w0 fpc
  have nfp : ∀ b ∈ fp, H3 b = none := fun b hb => (fpc b hb).1.1
  show codeAny _ _ (.compStart (dcx kx vx ta ia ca tb ib cb sc ps) 0 (.ref it) (.ref D) (compEnvC sc (cellsFrom (sc3.heap.objs.size + 1) sc.names (cloFrom X.env.cells sc.names [])) sc3.heap.objs.size X.env)) (compPost (model X.prog X.w) X.A X.xe none (fun v s' => EP X pins σ Q v s') (.ref D) sc3.heap.objs.size) { sc3 with heap := pushCells (sc3.heap.push { cls := .type "dict", data := .dict #[] }) sc.names }
  have p1 := hga sc3 H3 sc3.heap.objs.size (cellsFrom (sc3.heap.objs.size + 1) sc.names (cloFrom X.env.cells sc.names [])) fp
  have p2 := hqa sc3 H3 sc3.heap.objs.size (cellsFrom (sc3.heap.objs.size + 1) sc.names (cloFrom X.env.cells sc.names [])) fp
  have p3 := hb sc3 H3 sc3.heap.objs.size (cellsFrom (sc3.heap.objs.size + 1) sc.names (cloFrom X.env.cells sc.names [])) fp
  have p4 := hgb sc3 H3 sc3.heap.objs.size (cellsFrom (sc3.heap.objs.size + 1) sc.names (cloFrom X.env.cells sc.names [])) fp
  have p5 := hqb sc3 H3 sc3.heap.objs.size (cellsFrom (sc3.heap.objs.size + 1) sc.names (cloFrom X.env.cells sc.names [])) fp
  have p6 := hk sc3 H3 sc3.heap.objs.size (cellsFrom (sc3.heap.objs.size + 1) sc.names (cloFrom X.env.cells sc.names [])) fp
  have p7 := hv sc3 H3 sc3.heap.objs.size (cellsFrom (sc3.heap.objs.size + 1) sc.names (cloFrom X.env.cells sc.names [])) fp
  generalize ecn : compEnvC sc (cellsFrom (sc3.heap.objs.size + 1) sc.names (cloFrom X.env.cells sc.names [])) sc3.heap.objs.size X.env = ce at I4 p1 p2 p3 p4 p5 p6 p7 ⊢
  have cl : ce.locals = sc3.heap.objs.size := by rw [← ecn]; rfl
  generalize es : ({ sc3 with heap := pushCells (sc3.heap.push { cls := .type "dict", data := .dict #[] }) sc.names } : Shared) = s4 at I4 ⊢
  have st4 : tn 0 s4.heap := T.keep _ _ _ stc fun b _ o e => by rw [← es]; exact pushCells_keeps _ _ _ _ (Heap.get?_push_of_some _ e)
  have fpo : ∀ {σ' : L2.St} {H' : Hp} {s' : Shared}, Inv (X.blk sc3 H3 sc ce fp) [] σ' H' s' → (∀ b ∈ fp, H' b = none) → ∀ b ∈ fp, FpOk (X.blk sc3 H3 sc ce fp) [] H' b := fun Iz nz b hb => by
    have z := Iz.ok.exf b hb
    exact ⟨nz b hb, z.1, Iz.ok.exfs b hb, .inl hb, z.2, fun p hp => nomatch (show p ∈ ([] : List (Addr × Obj)) from hp)⟩
  -- what the outer loop keeps from turn to turn
  generalize eK : (fun (n : Nat) (s' : Shared) => ∃ i H', Inv (X.blk sc3 H3 sc ce fp) [] (wipe σ (own.map (·.2))) H' s' ∧ tn i s'.heap ∧ (∀ b ∈ fp, H' b = none) ∧ W i n H') = K
  have kin : ∀ {n i : Nat} {H' : Hp} {s' : Shared}, Inv (X.blk sc3 H3 sc ce fp) [] (wipe σ (own.map (·.2))) H' s' → tn i s'.heap → (∀ b ∈ fp, H' b = none) → W i n H' → K n s' := fun a b c d => by
    rw [← eK]
    exact ⟨_, _, a, b, c, d⟩
  have kout : ∀ {n : Nat} {s' : Shared}, K n s' → ∃ i H', Inv (X.blk sc3 H3 sc ce fp) [] (wipe σ (own.map (·.2))) H' s' ∧ tn i s'.heap ∧ (∀ b ∈ fp, H' b = none) ∧ W i n H' := fun k => by
    rw [← eK] at k
    exact k
  clear eK
  have loop : codeAny (model X.prog X.w) X.A (.compLoop (dcx kx vx ta ia ca tb ib cb sc ps) 0 (.ref it) (.ref D) ce) (compPost (model X.prog X.w) X.A X.xe none (fun v s' => EP X pins σ Q v s') (.ref D) sc3.heap.objs.size) s4 := by
    refine dcx_loopA (fb ce) K (fun n s5 kn => ?_) m0 (kin I4 st4 nfp w0)
    obtain ⟨i, H5, I5, st5, n5, w5⟩ := kout kn
    rcases turn i n H5 w5 with ⟨stop, fin⟩ | ⟨go, Nx, hNx, step⟩
    · refine thnF (T.done (X.blk sc3 H3 sc ce fp) rfl rfl rfl hc i [] s5 _ H5 (fun _ _ => False) I5 (fpo I5 n5) st5 stop) fun r s6 ⟨er, I6⟩ => ?_
      subst er
      have I7 : Inv X pins σ H5 s6 := Ic.call' (ch := fp) I6.os I6.base I6.hok I6.bare fun b hb => by
        obtain ⟨⟨_, z1, z2, z3, z4⟩, z5⟩ := fpc b hb
        first | exact ⟨z3, z1, z4.1, z4.2⟩ | exact ⟨z3, z1, z4⟩
      have nC : H5 sc3.heap.objs.size = none := cl ▸ I6.free
      obtain ⟨m, hns, _⟩ := I6.loc
      have hns : s6.heap.Ns sc3.heap.objs.size m := cl ▸ hns
      obtain ⟨f0, f1, f2, f3, f4, f5⟩ := Ic.fpOk (Nat.le_refl _) nC
      exact ⟨m, hns, fun h'' sb' => ⟨.ref D, H5, I7.turned (t' := s6.toks) (fun b o hb e => (sb'.2 b hb).trans e) f0 f1 f3 f4 f5, rfl, fin⟩⟩
    · refine thnF (T.item (X.blk sc3 H3 sc ce fp) rfl rfl rfl hc i [] s5 _ H5 (fun _ _ => False) I5 (fpo I5 n5) st5 go) fun r s6 ⟨u, er, h6⟩ => ?_
      subst er
      refine thnF h6 fun _ s7 ⟨x, H7, I7, r7, y7, st7, n7⟩ => ?_
      refine thnF (p1.run _ s7 _ H7 x u _ (I7.pinned (fpo I7 n7) (T.obj _ _ st7)) r7 (step x H7 y7)) fun _ s8 ⟨σ8, H8, I8, e8, q8⟩ => ?_
      refine thnF (p2.run _ s8 σ8 H8 _ I8 q8) fun b s9 ⟨H9, I9, q9⟩ => ?_
      -- from any slots that still know what the block knew
      have again : ∀ {τ : L2.St} {s' : Shared} {H' : Hp}, Inv (X.blk sc3 H3 sc ce fp) ([] ++ pinsAt fp s7.heap) τ H' s' → τ.length = (wipe σ (own.map (·.2))).length → (∀ (j : Nat) v, (wipe σ (own.map (·.2)))[j]? = some (some v) → τ[j]? = some (some v)) → Nx H' → ∃ m, m < n ∧ K m s' := fun {τ s' H'} Iz hl hk nx => by
        obtain ⟨m', lm, wm⟩ := hNx H' nx
        have held : ∀ b ∈ fp, ∀ o, s7.heap.get? b = some o → s'.heap.get? b = some o ∧ H' b = none := fun b hb o e => by
          have z := Iz.pin (b, o) (List.mem_append_right _ (List.mem_append_right _ (mem_pinsAt hb e)))
          exact ⟨z.1, z.2.1⟩
        refine ⟨m', lm, kin ((Iz.unpinned (pins := [])).weak hl.symm hk) (T.keep _ _ _ st7 fun b hb o e => (held b hb o e).1) (fun b hb => ?_) wm⟩
        obtain ⟨o, e, _⟩ := T.obj _ _ st7 b hb
        exact (held b hb o e).2
      have l8 : σ8.length = (wipe σ (own.map (·.2))).length := by rw [← e8, wipe_length]
      have k8 : ∀ (j : Nat) v, (wipe σ (own.map (·.2)))[j]? = some (some v) → σ8[j]? = some (some v) ∧ j ∉ own.map (·.2) := fun j v e => wipe_some (by rw [e8]; exact e)
      cases b with
      | false => exact again I9 l8 (fun j v e => (k8 j v e).1) q9
      | true =>
        refine thnF (p3.run _ s9 σ8 H9 _ I9 q9) fun _ sA hx => thnF hx fun _ sB hy => ?_
        obtain ⟨jt, gp, un, J1, HB, rfl, IB, U, suB, gpB, V, ⟨v0, hv0⟩, turnB⟩ := hy
        have gpo : ∀ {H' : Hp}, (∀ b ∈ gp, H' b = none) → ∀ b ∈ gp, FpOk (X.blk sc3 H3 sc ce fp) ([] ++ pinsAt fp s7.heap) H' b := fun nz b hb => ⟨nz b hb, (gpB b hb).2⟩
        have inner : codeAny (model X.prog X.w) X.A (.compLoop (dcx kx vx ta ia ca tb ib cb sc ps) 1 (.ref jt) (.ref D) ce) (fun r s' => match r with | .ok _ => ∃ m, m < n ∧ K m s' | .error _ => False) sB := by
          refine dcx_loopB (fun k s' => ∃ j H', Inv (X.blk sc3 H3 sc ce fp) ([] ++ pinsAt fp s7.heap) (wipe σ8 vb) H' s' ∧ un j s'.heap ∧ (∀ b ∈ gp, H' b = none) ∧ V j k H') (fun k sC => ?_) v0 ⟨0, HB, IB.weak (wipe_length _ _) (fun j v e => (wipe_some e).1), suB, fun b hb => (gpB b hb).1, hv0⟩
          rintro ⟨j, HC, IC, suC, nC, vC⟩
          rcases turnB j k HC vC with ⟨stopB, nx⟩ | ⟨goB, Ny, hNy, stepB⟩
          · refine thnF (U.done (X.blk sc3 H3 sc ce fp) rfl rfl rfl hc j _ sC (wipe σ8 vb) HC (fun _ _ => False) IC (gpo nC) suC stopB) fun r sE ⟨er, IE⟩ => ?_
            subst er
            refine again IE ((wipe_length σ8 vb).trans l8) (fun i v e => ?_) nx
            obtain ⟨z1, z2⟩ := k8 i v e
            rw [wipe_out fun z => z2 (hvb i z)]
            exact z1
          · refine thnF (U.item (X.blk sc3 H3 sc ce fp) rfl rfl rfl hc j _ sC (wipe σ8 vb) HC (fun _ _ => False) IC (gpo nC) suC goB) fun r sE ⟨uE, er, hE⟩ => ?_
            subst er
            refine thnF hE fun _ sF ⟨xF, HF, IF, rF, yF, suF, nF⟩ => ?_
            refine thnF (p4.run _ sF (wipe σ8 vb) HF xF uE _ (IF.pinned (gpo nF) (U.obj _ _ suF)) rF (stepB xF HF yF)) fun _ sG ⟨σG, HG, IG, eG, qG⟩ => ?_
            refine thnF (p5.run _ sG σG HG _ IG qG) fun bG sI ⟨HI, II, qI⟩ => ?_
            have more : ∀ {s' : Shared} {H' : Hp}, Inv (X.blk sc3 H3 sc ce fp) (([] ++ pinsAt fp s7.heap) ++ pinsAt gp sF.heap) σG H' s' → Ny H' → ∃ m, m < k ∧ ∃ j H', Inv (X.blk sc3 H3 sc ce fp) ([] ++ pinsAt fp s7.heap) (wipe σ8 vb) H' s' ∧ un j s'.heap ∧ (∀ b ∈ gp, H' b = none) ∧ V j m H' := fun {s' H'} Iz ny => by
              obtain ⟨m', lm, vm⟩ := hNy H' ny
              have held : ∀ b ∈ gp, ∀ o, sF.heap.get? b = some o → s'.heap.get? b = some o ∧ H' b = none := fun b hb o e => by
                have z := Iz.pin (b, o) (List.mem_append_right _ (List.mem_append_right _ (mem_pinsAt hb e)))
                exact ⟨z.1, z.2.1⟩
              refine ⟨m', lm, j + 1, H', Iz.unpinned.weak (by rw [← eG, wipe_length]) (fun i v e => (wipe_some (by rw [eG]; exact e)).1), U.keep _ _ _ suF fun b hb o e => (held b hb o e).1, fun b hb => ?_, vm⟩
              obtain ⟨o, e, _⟩ := U.obj _ _ suF b hb
              exact (held b hb o e).2
            cases bG with
            | false => exact more II qI
            | true =>
              refine thnF (p6.run _ sI σG HI _ II qI) fun z sK ⟨yK, HK, IK, rK, qK⟩ => ?_
              refine thnF (p7.run _ sK σG HK _ IK qK) fun z2 sL ⟨yL, HL, IL, rL, kvs, k1, ek, hD, hz, ny⟩ => ?_
              subst ek
              exact d_dictSet (X := X.blk sc3 H3 sc ce fp) IL hD hz rK rL fun sM IM => more IM ny
        exact dcx_startB inner (U.self X.A 0 _ _ _ suB inner)
  exact codeAny_compStart_dict loop (T.self X.A 0 _ _ _ st4 loop)
end
end D

namespace D
open PySem PySem.Spec PyProof.Rows L2
/-! ### a new thing that is never written again -/
def tFrz (t : TE) : TE := fun σ H Q => t σ H fun v H1 => ∃ d u, v = .ref d ∧ H1 d = some u ∧ Mut (some u) ∧ ∀ od, Q v (upd H1 d (.frz od u))
theorem pe_frz {X : Cx} {e : Expr} {t : TE} (h : PE X e t) : PE X e (tFrz t) := ⟨fun pins s σ H Q I q => thn (h.run pins s σ H _ I q) fun u s1 ⟨v, H1, I1, r, d, w, ev, hd, mu, q1⟩ => by
  obtain ⟨od, I2⟩ := I1.lock hd mu
  exact ⟨v, _, I2, r, q1 od⟩⟩
/-! ### a dict comprehension given to a name, keys whole numbers or texts -/
def PutK (D : Addr) (N : Hp → Prop) (y z : V) (G : Hp) : Prop := ∃ kvs k, y = kV k ∧ G D = some (.dK kvs) ∧ kvs.length < sizeLine ∧ N (upd G D (.dK (putK kvs k z)))
theorem stores_K {X : Cx} : Stores X PutK := by
  rintro B pins σ G t D N y z u r Q E e1 e2 e3 e4 I ⟨kvs, k, rfl, dict, room, nx⟩ ry rz h
  exact d_dictSet (X := B) I dict room ry rz fun t' I' => h t' _ I' nx
abbrev tDcK (walk : TI) (g : TG) (tt : TT) (tk tv : TE) (own : List Nat) : TE := tDcG (fun _ => .dK []) PutK walk g tt tk tv own
theorem ps_setDcK {X : Cx} {i : Nat} {y : Str} {py : Pos} {kx vx tgt it : Expr} {ifs : List Expr} {sc : Scope} {own : List (Str × Nat)} {pos spos : Pos} {walk : TI} {g : TG} {tt : TT} {tk tv : TE} (calm : X.calm = true) (nod : X.N.Nodup) (hy : X.N[i]? = some y) (hyl : X.env.scope.names.lookup y = some .local)
    (hsw : swapsWith (.DictComp kx vx [⟨tgt, it, ifs, 0⟩] sc pos) (some (.Name y py)) spos.line X.env = pure true)
    (pi : PI X tgt it walk) (bo : BlkOk X.N X.env.scope sc own) (pg : InBlk X sc fun B => PG B tgt g) (pt : InBlk X sc fun B => PTs B ifs tt) (pk : InBlk X sc fun B => PE B kx tk) (pv : InBlk X sc fun B => PE B vx tv)
    (plain : ∀ x, foldedSetIterable it X.env x = pure x := by intro _; rfl) :
    PS X (.Assign [.Name y py] (.DictComp kx vx [⟨tgt, it, ifs, 0⟩] sc pos) spos) (tAsg (tDcK walk g tt tk tv (own.map (·.2))) (gName i)) :=
  ps_setDcG (fun H h b => dk_empty h b) stores_K calm nod hy hyl hsw pi bo pg pt pk pv plain
/-! ### set(l), l empty -/
section
variable {X : Cx}
def rSetE (K : PySem.W.Frag) (P : Program) (w : World) : List V → Hp → VK → Prop := fun xs H Q => ∃ p, xs = [.ref p] ∧ SqL K H p [] ∧ ∀ q, H q = none → Q (.ref q) (upd H q (SetK P w q (fun _ => false) 0))
theorem call_setE (hc : X.calm = true) : CallR X (.type "set") (rSetE X.K X.prog X.w) := by
  intro pins s σ H xs us Q I r h
  obtain ⟨p, rfl, hq, q⟩ := h
  obtain ⟨u, rfl, ru⟩ := vals1 r
  cases ru
  obtain ⟨its, rv, pl, hz⟩ := I.list hq
  cases rv
  refine SS.call_set_listS (xs := []) (I.ok.hd hc) pl.isList (by exact .nil) (Nat.zero_le _) fun h' tk hS hk => ?_
  obtain ⟨o, es, ep, t, ho, hx, hd, hel, hmem, hsz, hf, hn⟩ := hS
  have e0 : es = #[] := Array.eq_empty_of_size_eq_zero (by simpa using hn)
  subst e0
  exact ⟨.ref _, upd H s.heap.objs.size (SetK X.prog X.w s.heap.objs.size (fun _ => false) 0), I.laid (t' := tk) (fun b u e => hk b u (Heap.lt_size e) e) (Nat.le_refl _) (setK_new ⟨o, #[], ep, t, ho, hx, hd, (fun e he => by simp at he), (fun k => by simp), by decide, hf, rfl⟩), rfl, q _ (I.hok.fresh (Nat.le_refl _))⟩
end
/-! ### iter(d), d a dict that is not written -/
def ItDk (d : Addr) (o : Obj) (n i : Nat) (it : Addr) : HO := .ext fun h => ∃ es ep, o.data = .dict es ep ∧ h.IsKeyIter it d i n ep
theorem itDk_ok {P : Program} {w : World} {H : Hp} {h : Heap} {d it : Addr} {o : Obj} {n i : Nat} {es : Array DictEntry} {ep : Nat} (hod : o.data = .dict es ep) (e : h.IsKeyIter it d i n ep) : ObjOk P w H h it (ItDk d o n i it) := by
  have ⟨oi, ho, _⟩ := e
  refine ⟨⟨es, ep, hod, e⟩, ⟨oi, ho⟩, fun h1 h2 q k => ?_⟩
  obtain ⟨es1, ep1, h3, h4⟩ := q
  exact ⟨es1, ep1, h3, h4.at fun x hx => k x hx⟩
section
variable {X : Cx}
def rIterD (n : Nat) : List V → Hp → VK → Prop := fun xs H Q => ∃ d o kvs, xs = [.ref d] ∧ H d = some (.frz o (.dK kvs)) ∧ ∀ it, H it = none → n ≤ it → Q (.ref it) (upd H it (ItDk d o kvs.length 0 it))
theorem call_iterD : CallR X (.builtin "iter") (rIterD X.s_0.heap.objs.size) := by
  intro pins s σ H xs us Q I r h
  obtain ⟨d, o, kvs, rfl, hd, q⟩ := h
  obtain ⟨u, rfl, ru⟩ := vals1 r
  cases ru
  obtain ⟨hs, hgd, hx, es, ep, vs, hdt, hsz, kv, hm⟩ := I.frzK hd
  refine Calls.call_function_entry (by decide +kernel) (by decide +kernel) PySem.W.kdk_entry_iter (PySem.W.kdk_args_iter _) ?_
  unfold Builtin.«iter»
  refine wpAny_bind (m := someArgs "iter" 1 2 _) (wpAny_of_eq (a := [Value.ref d]) (by first | rfl | kernel_rfl!) ?_)
  show wpAny _ _ (pyIter (.ref d) >>= _) _ _ _
  refine wpAny_bind (iter_keys hs hgd hx hdt (wpAny_pure ⟨_, rfl, ?_⟩))
  refine ⟨.ref s.heap.objs.size, _, I.laid (t' := s.toks) (fun b u e => Heap.get?_push_of_some _ e) (Nat.le_refl _) (itDk_ok (n := kvs.length) (i := 0) hdt ⟨_, Heap.get?_push_size _ rfl, rfl, by rw [hsz] <;> rfl⟩), rfl, q _ (I.hok.fresh (Nat.le_refl _)) I.sz⟩
end
/-! ### defs that know how many places were given when they were called -/
section
variable {P : Program} {w : World} {K : PySem.W.Frag} {mg : Str → Option Value} {base : Heap} {CX : CXT} {k : Nat} {f : Addr} {fd : FuncData} {ps : List Str}
structure FnW (P : Program) (w : World) (K : PySem.W.Frag) (mg : Str → Option Value) (base : Heap) (CX : CXT) (k : Nat) (f : Addr) (fd : FuncData) (ps : List Str) (sp : Nat → Sp) : Prop where
  ln : ∀ n vs H Q E, sp n vs H Q E → vs.length = ps.length
  go : ∀ (n : Nat) (A : Around) (fr : List Env) (s : Shared) (H : Hp) (args : Args) (us : List Value) (vs : List V) (Q : VK) (E : XK), n ≤ s.heap.objs.size → Room k A → Env0 P w K mg base A fr s H → BindsTo s fd args (ps.zip us) → Vals vs us → sp n vs H Q E → codeAny (model P w) A (.call (.ref f) args) (CR CX fr P w H s Q E) s
/-- a def's body, run from one state -/
theorem body_run {name qual : Str} {pr : Arguments} {body : List Stmt} {sc : Scope} {dV kV doc pm c ct oc : Value} {an od : Option Addr} {osl : Array (Option Value)} {N : List Str} {A : Around} {fr : List Env} {s : Shared} {H : Hp} {args : Args} {us : List Value} {vs : List V} {Q : VK} {E : XK}
    (lk : K.lookup f = some ⟨oc, od, .func (PySem.W.fnOf name qual pr body sc dV kV doc pm an c ct), osl⟩) (hc : PySem.W.codeIn K c qual = true) (S : FnScope N ps sc) (n1 : vs.length = ps.length) (hr : Room (k + 1) A) (e0 : Env0 P w K mg base A fr s H) (bd : BindsTo s (PySem.W.fnOf name qual pr body sc dV kV doc pm an c ct) args (ps.zip us)) (rv : Vals vs us)
    (hb : ∃ t, PSs (cxOf CX P w K mg base N qual sc f c A fr s H E) body t ∧ t { nx := fun _ H' => Q .non H', rt := Q } (start N vs) H) : codeAny (model P w) A (.call (.ref f) args) (CR CX fr P w H s Q E) s := by
  have kin : K.In s.heap := e0.mod.kin.keeps fun x o e => (e0.bs x o e).1
  have nl : s.heap.NoLimit := e0.mod.nolimit.keeps fun x o e => (e0.bs x o e).1
  have kd : ∀ y ∈ ps.zip us, sc.names.lookup y.1 = some .local ∨ (sc.names.lookup y.1 = some .cell ∧ ((cellsFrom (s.heap.objs.size + 1) sc.names []).lookup y.1).isSome = true) := by
    rintro ⟨m, v⟩ hy
    exact (S.par m (List.of_mem_zip hy).1).imp id fun z => ⟨z, PySem.W.cellsFrom_some _ _ _ (.inl z)⟩
  refine codeAny_call_function hr.depth (kin _ _ lk) rfl S.co S.gen rfl (PySem.W.codeRec_of kin hc) (bd _ _ _ _ (wpAny_newFunctionEnv_cells S.kind kd fun ev he s1 x => ?_))
  cases he
  refine ⟨nl.keeps x.toInCall.keep, codeAny_func ?_⟩
  obtain ⟨t, ht, hq⟩ := hb
  refine wpAny_mono (ht.run [] s1 (start N vs) H _ (inv_start S hr.hd e0 n1 rv x) hq) (fun fl s' z => ?_) fun e s' z => z
  cases fl with
  | ret u =>
    obtain ⟨v, σ', H', J, r, q⟩ := z
    exact ⟨v, H', J.os, J.bare, J.base, J.hok, r, q⟩
  | next =>
    obtain ⟨σ', H', J, q⟩ := z
    exact ⟨V.non, H', J.os, J.bare, J.base, J.hok, rfl, q⟩
  | brk =>
    obtain ⟨_, _, _, z⟩ := z
    exact False.elim z
  | cont =>
    obtain ⟨_, _, _, z⟩ := z
    exact False.elim z
theorem Fun.okW {x qual : Str} {st : Stmt} {N : List Str} {sp : Nat → Sp} (F : Fun K x qual st f fd) (S : FnScope N ps (defScope st)) (ln : ∀ n vs H Q E, sp n vs H Q E → vs.length = ps.length)
    (hb : ∀ (n : Nat) (c : Value) (A : Around) (fr : List Env) (s : Shared) (H : Hp) (vs : List V) (Q : VK) (E : XK), n ≤ s.heap.objs.size → Room k (A.deeper (envOfC qual (defScope st) s.heap.objs.size f c)) → sp n vs H Q E →
      ∃ t, PSs (cxOf CX0 P w K mg base N qual (defScope st) f c A fr s H E).nox (defBody st) t ∧ t { nx := fun _ H' => Q .non H', rt := Q } (start N vs) H) : FnW P w K mg base CX0 (k + 1) f fd ps sp := by
  obtain ⟨oc, od, kV, doc, pm, an, c, ct, osl, rfl, lk, hc⟩ := F.ex
  refine ⟨ln, fun n A fr s H args us vs Q E hn hr e0 bd rv hs => body_run lk hc S (ln _ _ _ _ _ hs) hr e0 bd rv ?_⟩
  obtain ⟨t, h, q⟩ := hb n c A fr s H vs Q E hn (hr.deeper _) hs
  exact ⟨t, h.nox, q⟩
end
/-! ### a walk over an instance whose __iter__ hands an iterator over a dict out -/
section
variable {X : Cx} {CI : CXT} {C fi : Addr} {fdI : FuncData} {psI : List Str} {spI : Nat → Sp} {EI : XK} {n : Nat} {tg e : Expr} {te : TE}
def iOwnD (te : TE) (C : Addr) (sp : Nat → Sp) (E : XK) : TI := fun σ H R => te σ H fun x H1 => ∃ a dx fs, x = .ref a ∧ H1 a = some (.ins C dx fs) ∧
  ∀ m, sp m [.ref a] H1 (fun v H' => ∃ it d o kvs, v = .ref it ∧ H' it = some (ItDk d o kvs.length 0 it) ∧ m ≤ it ∧ R (Itk d o kvs) (ItX.dropH H' it)) E
theorem pi_ownD (hc : ItK X.K C fi) (FI : FnW X.prog X.w X.K X.mg X.base CI n fi fdI psI spI) (bI : Binds X.K fdI psI []) (hr : Room n X.A) (xI : Passes CI X EI) (he : PE X e te) : PI X tg e (iOwnD te C spI EI) := by
  refine ⟨fun pins s0 σ H0 R I0 h0 => thn (he.run pins s0 σ H0 _ I0 h0) fun u s ⟨x, H, I, rx, a, dx, fs, ex, ha, hsp⟩ => ?_⟩
  subst ex
  cases rx
  obtain ⟨mA, J, _⟩ := ins_get I.hok ha
  obtain ⟨od, J, _⟩ := J.look
  obtain ⟨m0, hF⟩ := I.fr
  refine PySem.W.owit_iter hF I.ok.mod.kin J hc.it hc.itF ?_
  have e0 : Env0 X.prog X.w X.K X.mg X.base X.A X.stack s H := I.env0
  have hm := hsp s.heap.objs.size
  have hl := FI.ln _ _ _ _ _ hm
  have r2 : Vals [V.ref a] [Value.ref a] := .cons rfl .nil
  refine wpAny_call (codeAny_mono (FI.go _ X.A X.stack s H ⟨[.ref a], []⟩ [.ref a] [.ref a] _ EI (Nat.le_refl _) hr e0 (by
    have := bI s [.ref a] I.kIn (by simpa using hl)
    simpa using this) r2 hm) fun r s' hq' => ?_)
  cases r with
  | error e => exact xI pins σ H s e s' I hq'
  | ok fl =>
    cases fl with
    | next => exact False.elim hq'
    | brk => exact False.elim hq'
    | cont => exact False.elim hq'
    | ret u =>
      obtain ⟨v, H', I', rv, it, d, o, kvs, ev, hit, hn, hR⟩ := I.after hq'
      subst ev
      cases rv
      obtain ⟨es, ep, hod, hk⟩ := (I'.hok it _ hit).1
      unfold PySem.W.OwitIt
      refine wpAny_specialOf (hk.typeIs (s := s')) PySem.F.slot_dict_keyiterator_next.lookup ?_
      have hit' := hit
      unfold ItDk at hit'
      refine ⟨it, [it], _, Itk d o kvs, _, rfl, ItX.inv_drop I' hit', turn_keys it hod, hk, fun b hb => ?_, hR⟩
      have eb : b = it := by simpa using hb
      rw [eb]
      exact ItX.inv_fp I' hit (Nat.le_trans I.sz hn)
end
section
variable {X : Cx} {pins : List (Addr × Obj)} {σ : L2.St} {H : Hp} {s : Shared}
theorem itk_loop {A1 : Around} {it d q : Addr} {o : Obj} {kvs : List (Key × V)} {H0 : Hp} {Rs : Result → Shared → Prop} (hh : A1.handled = none) (nqi : q ≠ it) (hn : X.s_0.heap.objs.size ≤ it) (hl : kvs.length ≤ 1000)
    (hdone : ∀ H s, Inv X pins σ H s → (∀ b, b ≠ it → b ≠ q → H b = H0 b) → H q = some (.lst (kvs.map fun kv => kV kv.1)) → H it = none → Rs (.ok (.ret .none)) s) :
    ∀ (k i : Nat) (H : Hp) (s : Shared), kvs.length - i = k → i ≤ kvs.length → Inv X pins σ H s → (∀ b, b ≠ it → b ≠ q → H b = H0 b) → H d = some (.frz o (.dK kvs)) → H q = some (.lst ((kvs.take i).map fun kv => kV kv.1)) → H it = some (ItDk d o kvs.length i it) →
      codeAny (model X.prog X.w) A1 (.builtin "list.extend.loop" ⟨[.ref q, .ref it, .none], []⟩) Rs s := by
  intro k
  induction k with
  | zero =>
    intro i H s hk hi I hH hdi hq hit
    have ei : i = kvs.length := by omega
    subst ei
    obtain ⟨hs, hgd, hx, es', ep', vs, hdt, hsz, kv, hm⟩ := I.frzK hdi
    obtain ⟨es, ep, hod, hk⟩ := (I.hok it _ hit).1
    obtain ⟨rfl, rfl⟩ := dict_ep hod hdt
    refine codeAny_builtin PySem.F.entry_extend_loop ?_
    rw [Around.under_plainId PySem.F.plain_extend_loop _]
    show wpAny _ A1.in1 (pyNext (.ref it) >>= _) _ _ s
    have hit' := hit
    unfold ItDk at hit'
    obtain ⟨f0, f1, f2, f3, f4, f5⟩ := ItX.inv_fp I hit hn
    have I1 := ItX.inv_drop I hit'
    refine wpAny_bind (next_key_end hh hk hgd hdt hsz (Nat.le_refl _) fun h' eb => ?_)
    have I' : Inv X pins σ (ItX.dropH H it) { s with heap := h' } := I1.turned (t' := s.toks) (fun b o hb e => eb b o hb e) f0 f1 f3 f4 f5
    refine wpAny_pure (hdone _ _ I' (fun b h1 h2 => by rw [ItX.dropH_ne h1]; exact hH b h1 h2) ?_ ItX.dropH_same)
    rw [ItX.dropH_ne nqi, hq, List.take_length]
  | succ k ih =>
    intro i H s hk hi I hH hdi hq hit
    have hlt : i < kvs.length := by omega
    obtain ⟨hs, hgd, hx, es', ep', vs, hdt, hsz, kv, hm⟩ := I.frzK hdi
    obtain ⟨es, ep, hod, hki⟩ := (I.hok it _ hit).1
    obtain ⟨rfl, rfl⟩ := dict_ep hod hdt
    obtain ⟨⟨y, v⟩, hkv⟩ : ∃ p, kvs[i]? = some p := ⟨kvs[i], List.getElem?_eq_getElem hlt⟩
    obtain ⟨u, hu, ru⟩ := kv_get kv hkv
    have hlv : kvs.length = vs.length := Paired.length kv
    have nd : it ≠ d := fun z => by rw [z, hdi] at hit; cases hit
    have nq : q ≠ d := fun z => by rw [z, hdi] at hq; cases hq
    refine codeAny_builtin PySem.F.entry_extend_loop ?_
    rw [Around.under_plainId PySem.F.plain_extend_loop _]
    show wpAny _ A1.in1 (pyNext (.ref it) >>= _) _ _ s
    rw [hlv] at hki
    refine wpAny_bind (wpAny_pyNext_dict_item hki hm hu fun key h' hkey st' sb => ?_)
    have mu : Mut (H it) := by rw [hit]; exact True.intro
    have st2 := st'
    rw [← hlv] at st2
    have ⟨oi, hoi, _⟩ := st'
    have I' := I.write (x := it) (e := it) (t' := s.toks) (o := ItDk d o kvs.length (i + 1) it) (h' := h') mu (.inl rfl) (fun b o nb z => (sb.2 b nb).trans z) ⟨_, hoi⟩ (itDk_ok hod st2)
    have hq' : upd H it (ItDk d o kvs.length (i + 1) it) q = some (.lst ((kvs.take i).map fun kv => kV kv.1)) := by rw [upd_ne nqi]; exact hq
    show wpAny _ A1.in1 (updateSeq q (·.push key) >>= _) _ _ _
    obtain ⟨z, its2, c, r2, hl2, e⟩ := I'.lstM hq'
    have l2 : its2.length = i := by rw [← r2.length, List.length_map, List.length_take]; omega
    refine wpAny_bind (wpAny_updateSeq e rfl (wpAny_pure ⟨plainId_quiet PySem.F.plain_extend_loop _, ?_⟩) (by rw [List.size_toArray, l2, sizeLine_eq]; omega) (by show (its2.toArray.push key).size ≤ sizeLine + 1; rw [Array.size_push, List.size_toArray, l2, sizeLine_eq]; omega))
    refine ih (i + 1) _ _ (by omega) hlt (I'.lset (its' := its2 ++ [key]) (ys := (kvs.take (i + 1)).map fun kv => kV kv.1) (t' := s.toks) hq' e (by simp) ?_ (by rw [List.length_map, List.length_take, sizeLine_eq]; omega)) (fun b h1 h2 => ?_) ?_ upd_same ?_
    · rw [List.take_add_one, hkv, List.map_append]
      exact r2.append (.cons (relV_key (show keyIs y key = true from hkey)) .nil)
    · rw [upd_ne h2, upd_ne h1]
      exact hH b h1 h2
    · rw [upd_ne (Ne.symm nq), upd_ne (Ne.symm nd)]
      exact hdi
    · rw [upd_ne (Ne.symm nqi), upd_same]
/-- list(o): __iter__ hands an iterator over a dict out -/
def rListDk (C : Addr) (sp : Nat → Sp) (E : XK) : List V → Hp → VK → Prop := fun xs H Q => ∃ a dx fs, xs = [.ref a] ∧ H a = some (.ins C dx fs) ∧
  ∀ m q, H q = none → sp m [.ref a] (upd H q (.lst [])) (fun v H' => ∃ it d o kvs, v = .ref it ∧ H' it = some (ItDk d o kvs.length 0 it) ∧ m ≤ it ∧ H' d = some (.frz o (.dK kvs)) ∧ H' q = some (.lst []) ∧ H' a = some (.ins C dx fs) ∧ kvs.length ≤ 1000 ∧
    Q (.ref q) (upd (ItX.dropH H' it) q (.lst (kvs.map fun kv => kV kv.1)))) E
variable {CI : CXT} {C fi : Addr} {fdI : FuncData} {psI : List Str} {spI : Nat → Sp} {EI : XK} {n : Nat}
theorem extend_dk {a dx q : Addr} {fs : List (Str × V)} {Hq : Hp} {Q : VK} (sb : Sub X n X.A.in1.in1) (hA : X.A.in1.handled = none) (hc : ItK X.K C fi) (FI : FnW X.prog X.w X.K X.mg X.base CI n fi fdI psI spI) (bI : Binds X.K fdI psI []) (xI : Passes CI X EI) (I2 : Inv X pins σ Hq s) (hqq : Hq q = some (.lst [])) (ha2 : Hq a = some (.ins C dx fs))
    (hsp : ∀ m, spI m [.ref a] Hq (fun v H' => ∃ it d o kvs, v = .ref it ∧ H' it = some (ItDk d o kvs.length 0 it) ∧ m ≤ it ∧ H' d = some (.frz o (.dK kvs)) ∧ H' q = some (.lst []) ∧ H' a = some (.ins C dx fs) ∧ kvs.length ≤ 1000 ∧
      Q (.ref q) (upd (ItX.dropH H' it) q (.lst (kvs.map fun kv => kV kv.1)))) EI) :
    wpAny (model X.prog X.w) X.A.in1.in1 (Builtin.List.listExtendWith (.ref q) (.ref a) .none)
      (fun fin s' => match fin with | .done f => wants (fun r s₂ => r = .none ∧ EP X pins σ Q (.ref q) s₂) X.xe (.ok f) s' | .again c' => c'.quiet = true ∧ codeAny (model X.prog X.w) X.A.in1 c' (wants (fun r s₂ => r = .none ∧ EP X pins σ Q (.ref q) s₂) X.xe) s') (fun e s' => wants (fun r s₂ => r = .none ∧ EP X pins σ Q (.ref q) s₂) X.xe (.error e) s') s := by
  have hne : q ≠ a := ne_of hqq ha2 (fun z => nomatch z)
  obtain ⟨mA, J, _⟩ := ins_get I2.hok ha2
  obtain ⟨od, J, _⟩ := J.look
  obtain ⟨m0, hF⟩ := I2.fr
  unfold Builtin.List.listExtendWith
  refine wpAny_bind (J.type.here ?_)
  have h1 : Builtin.List.listSameRef (.ref q) (.ref a) = false := by simp [Builtin.List.listSameRef, hne]
  have h2 : (Value.ref C == Value.type "list") = false := rfl
  have h3 : (Value.ref C == Value.type "tuple") = false := rfl
  simp only [h1, h2, h3, Bool.or_false, Bool.false_eq_true, if_false]
  refine wpAny_bind (PySem.W.owit_iter hF I2.ok.mod.kin J hc.it hc.itF ?_)
  have e0 : Env0 X.prog X.w X.K X.mg X.base X.A.in1.in1 X.stack s Hq := by
    have e := I2.env0
    exact ⟨by rw [sb.fr]; exact e.frames, e.mod, e.bs, e.bsz, e.funs, e.frf, e.hok, e.bare⟩
  have hm := hsp s.heap.objs.size
  have hl := FI.ln _ _ _ _ _ hm
  have r2 : Vals [V.ref a] [Value.ref a] := .cons rfl .nil
  refine wpAny_call (codeAny_mono (FI.go _ X.A.in1.in1 X.stack s Hq ⟨[.ref a], []⟩ [.ref a] [.ref a] _ EI (Nat.le_refl _) sb.room e0 (by
    have := bI s [.ref a] I2.kIn (by simpa using hl)
    simpa using this) r2 hm) fun r s' hq' => ?_)
  cases r with
  | error e => exact xI pins σ Hq s e s' I2 hq'
  | ok fl =>
    cases fl with
    | next => exact False.elim hq'
    | brk => exact False.elim hq'
    | cont => exact False.elim hq'
    | ret u =>
      obtain ⟨v, H', I', rv, it, d, o, kvs, ev, hit, hnn, hT, hq2, ha', hz, q2⟩ := I2.after hq'
      subst ev
      cases rv
      unfold PySem.W.OwitIt
      obtain ⟨es, ep, hod, hk⟩ := (I'.hok it _ hit).1
      refine wpAny_specialOf (hk.typeIs (s := s')) PySem.F.slot_dict_keyiterator_next.lookup ?_
      obtain ⟨mA', J', _⟩ := ins_get I'.hok ha'
      obtain ⟨od', J', _⟩ := J'.look
      refine wpAny_bind (wpAny_holding (hintK hc I'.kIn J' ?_))
      obtain ⟨z, its, k, r3, hl3, e3⟩ := I'.lstM hq2
      cases r3
      have nqi : q ≠ it := fun z => by rw [z, hit] at hq2; cases hq2
      have eq5 : ∀ H5 : Hp, (∀ b, b ≠ it → b ≠ q → H5 b = H' b) → H5 q = some (.lst (kvs.map fun kv => kV kv.1)) → H5 it = none → Q (.ref q) H5 := fun H5 a1 a2 a3 => by
        have : H5 = upd (ItX.dropH H' it) q (.lst (kvs.map fun kv => kV kv.1)) := by
          funext b
          by_cases hb : b = q
          · rw [hb, upd_same, a2]
          · rw [upd_ne hb]
            by_cases hi : b = it
            · rw [hi, a3, ItX.dropH_same]
            · rw [ItX.dropH_ne hi, a1 b hi hb]
        rw [this]
        exact q2
      have hloop : ∀ s2, Inv X pins σ H' s2 → codeAny (model X.prog X.w) X.A.in1 (.builtin "list.extend.loop" ⟨[.ref q, .ref it, .none], []⟩) (wants (fun r s₂ => r = .none ∧ EP X pins σ Q (.ref q) s₂) X.xe) s2 := fun s2 I4 =>
        itk_loop (A1 := X.A.in1) hA nqi (Nat.le_trans I2.sz hnn) hz (H0 := H') (fun H5 s5 I5 a1 a2 a3 => ⟨rfl, .ref q, H5, I5, rfl, eq5 H5 a1 a2 a3⟩) _ 0 H' s2 rfl (Nat.zero_le _) I4 (fun _ _ _ => rfl) hT hq2 hit
      refine wpAny_ite_split (fun _ => ?_) (fun _ => wpAny_pure ⟨plainId_quiet PySem.F.plain_extend_loop _, hloop s' I'⟩)
      refine wpAny_bind (wpAny_rule ?_)
      refine wpAny_bind ?_
      show wpAny _ _ (updateSeq q (·.push .none) >>= fun _ => updateSeq q (·.pop)) _ _ _
      refine wpAny_bind (wpAny_updateSeq e3 rfl ?_)
      have I3 := I'.lset (f := (·.push Value.none)) (its' := [Value.none]) (ys := [.non]) (t' := s'.toks) hq2 e3 (by simp) (.cons rfl .nil) (by rw [List.length_singleton, sizeLine_eq]; decide)
      obtain ⟨z4, its4, k4, r4, hl4, e4⟩ := I3.lstM upd_same
      obtain ⟨u4, rfl, ru4⟩ := r4.one
      refine wpAny_updateSeq e4 rfl ?_ (by show 1 ≤ sizeLine; rw [sizeLine_eq]; decide) (by show 0 ≤ sizeLine + 1; exact Nat.zero_le _)
      refine wpAny_pure ⟨plainId_quiet PySem.F.plain_extend_loop _, hloop _ ?_⟩
      have I5 := I3.lset (f := (·.pop)) (its := [u4]) (its' := []) (ys := []) (t' := s'.toks) upd_same e4 (by rfl) .nil (Nat.zero_le _)
      rw [upd_upd] at I5
      have hH : upd H' q (.lst []) = H' := by
        funext b
        by_cases hb : b = q
        · rw [hb, upd_same, hq2]
        · rw [upd_ne hb]
      rw [hH] at I5
      exact I5
theorem call_listDk (hc : ItK X.K C fi) (FI : FnW X.prog X.w X.K X.mg X.base CI n fi fdI psI spI) (bI : Binds X.K fdI psI []) (xI : Passes CI X EI) (hr : Room (n + 2) X.A) : CallR X (.type "list") (rListDk C spI EI) := by
  intro pins s σ H xs us Q I rv h
  obtain ⟨a, dx, fs, rfl, ha, hq⟩ := h
  obtain ⟨u, rfl, ru⟩ := rv.one
  cases ru
  have sb : Sub X n X.A.in1.in1 := (Sub.in1 (Sub.in1 (⟨hr, rfl⟩ : Sub X (n + 2) X.A)))
  refine callType_codes (Q₁ := fun obj s₁ => obj = .ref s.heap.objs.size ∧ s₁ = { s with heap := s.heap.push { cls := .type "list", data := .seq #[] } }) PySem.F.called_list (PySem.F.typeCall_list_1 _) PySem.F.entry_list_init
    (code_list_new _ ⟨rfl, rfl⟩) fun obj s₁ h₁ => ?_
  obtain ⟨rfl, rfl⟩ := h₁
  have hS : (s.heap.push { cls := .type "list", data := .seq #[] }).get? s.heap.objs.size = some { cls := .type "list", data := .seq #[] } := Heap.get?_push_size _ rfl
  refine ⟨⟨_, hS, rfl⟩, PySem.F.args_list_init_2 _ _, ?_⟩
  have fr : H s.heap.objs.size = none := I.hok.fresh (Nat.le_refl _)
  have hsp := fun m => hq m _ fr
  have I1 : Inv X pins σ (upd H s.heap.objs.size (.lst [])) { s with heap := s.heap.push { cls := .type "list", data := .seq #[] } } := I.lnew (its := []) (t' := s.toks) .nil (Nat.zero_le _)
  show wpAny _ _ (do let old ← Builtin.List.listItems (.ref s.heap.objs.size); Builtin.List.listUpdate (.ref s.heap.objs.size) (fun _ => #[]); letGo old.toList.reverse; Builtin.List.listExtendWith (.ref s.heap.objs.size) (.ref a) .none) _ _ _
  refine wpAny_bind ?_
  unfold Builtin.List.listItems
  refine wpAny_bind (wpAny_seqItems hS rfl (wpAny_pure ?_))
  show wpAny _ _ (updateSeq s.heap.objs.size (fun _ => #[]) >>= fun _ => letGo (#[] : Array Value).toList.reverse >>= fun _ => Builtin.List.listExtendWith (.ref s.heap.objs.size) (.ref a) .none) _ _ _
  refine wpAny_bind (wpAny_updateSeq hS rfl ?_)
  have I2 := I1.lset (f := fun _ => #[]) (its := []) (its' := []) (ys := []) (t' := s.toks) upd_same hS rfl .nil (Nat.zero_le _)
  rw [upd_upd] at I2
  refine wpAny_bind (wpAny_letGo ?_)
  have ha2 : upd H s.heap.objs.size (.lst []) a = some (.ins C dx fs) := by rw [upd_ne (ne_of_none ha fr)]; exact ha
  exact extend_dk sb hr.hd hc FI bI xI I2 upd_same ha2 hsp
end
end D

/-! trees of marks and labels -/
namespace D
open PySem PySem.Spec PyProof.Rows L2
inductive Nd where
  | mk (m l : Str) (ks : List Nd)
namespace Nd
def mark : Nd → Str | mk m _ _ => m
def label : Nd → Str | mk _ l _ => l
def kids : Nd → List Nd | mk _ _ ks => ks
mutual
def enc : Nd → PyData
  | mk m l ks => .tuple [.str m, .str l, .tuple (encs ks)]
def encs : List Nd → List PyData
  | [] => []
  | k :: r => k.enc :: encs r
end
mutual
def dep : Nd → Nat
  | mk _ _ ks => deps ks + 1
def deps : List Nd → Nat
  | [] => 0
  | k :: r => Nat.max k.dep (deps r)
end
-- the nodes in page order
mutual
def subs : Nd → List Nd
  | mk m l ks => mk m l ks :: subss ks
def subss : List Nd → List Nd
  | [] => []
  | k :: r => k.subs ++ subss r
end
mutual
def sz : Nd → Int × Int
  | mk _ l ks => szf l (szs ks)
def szs : List Nd → List (Int × Int)
  | [] => []
  | k :: r => k.sz :: szs r
end
-- each node behind what stands beneath it
mutual
def post : Nd → List Nd
  | mk m l ks => posts ks ++ [mk m l ks]
def posts : List Nd → List Nd
  | [] => []
  | k :: r => k.post ++ posts r
end
-- where each node stands, from x, y on
mutual
def rects : Nd → Int → Int → List (Nd × Int × Int)
  | mk m l ks, x, y => (mk m l ks, x, y) :: rectss (decide (l = sRow)) ks x y
def rectss (row : Bool) : List Nd → Int → Int → List (Nd × Int × Int)
  | [], _, _ => []
  | k :: r, x, y => k.rects x y ++ rectss row r (if row = true then x + k.sz.1 else x) (if row = true then y else y + k.sz.2)
end
theorem encs_map : ∀ ks : List Nd, encs ks = ks.map enc
  | [] => by rw [encs, List.map_nil]
  | k :: r => by rw [encs, encs_map r, List.map_cons]
theorem subss_map : ∀ ks : List Nd, subss ks = (ks.map subs).flatten
  | [] => by rw [subss, List.map_nil, List.flatten_nil]
  | k :: r => by rw [subss, subss_map r, List.map_cons, List.flatten_cons]
theorem szs_map : ∀ ks : List Nd, szs ks = ks.map sz
  | [] => by rw [szs, List.map_nil]
  | k :: r => by rw [szs, szs_map r, List.map_cons]
theorem posts_map : ∀ ks : List Nd, posts ks = (ks.map post).flatten
  | [] => by rw [posts, List.map_nil, List.flatten_nil]
  | k :: r => by rw [posts, posts_map r, List.map_cons, List.flatten_cons]
theorem enc_eq (n : Nd) : n.enc = .tuple [.str n.mark, .str n.label, .tuple (n.kids.map enc)] := by
  cases n with | mk m l ks => rw [enc, encs_map]; rfl
theorem subs_eq (n : Nd) : n.subs = n :: (n.kids.map subs).flatten := by
  cases n with | mk m l ks => rw [subs, subss_map]; rfl
theorem sz_eq (n : Nd) : n.sz = szf n.label (n.kids.map sz) := by
  cases n with | mk m l ks => rw [sz, szs_map]; rfl
theorem post_eq (n : Nd) : n.post = (n.kids.map post).flatten ++ [n] := by
  cases n with | mk m l ks => rw [post, posts_map]; rfl
theorem rects_eq (n : Nd) (x y : Int) : n.rects x y = (n, x, y) :: rectss (decide (n.label = sRow)) n.kids x y := by
  cases n with | mk m l ks => rw [rects]; rfl
theorem dep_eq (n : Nd) : n.dep = deps n.kids + 1 := by
  cases n with | mk m l ks => rw [dep]; rfl
theorem deps_mem : ∀ {ks : List Nd} {k : Nd}, k ∈ ks → k.dep ≤ deps ks
  | q :: r, k, h => by
    rw [deps]
    rcases List.mem_cons.mp h with rfl | h
    · exact Nat.le_max_left _ _
    · exact Nat.le_trans (deps_mem h) (Nat.le_max_right _ _)
theorem deps_le : ∀ {ks : List Nd} {n : Nat}, (∀ k ∈ ks, k.dep ≤ n) → deps ks ≤ n
  | [], n, _ => by rw [deps]; exact Nat.zero_le _
  | q :: r, n, h => by
    rw [deps]
    exact Nat.max_le.mpr ⟨h q List.mem_cons_self, deps_le fun k hk => h k (List.mem_cons_of_mem _ hk)⟩
theorem dep_kid {n k : Nd} (h : k ∈ n.kids) : k.dep < n.dep := by
  rw [dep_eq n]
  exact Nat.lt_succ_of_le (deps_mem h)
theorem dep_pos (n : Nd) : 0 < n.dep := by rw [dep_eq]; omega
def marks (n : Nd) : List Str := n.subs.map mark
theorem subs_len_pos (n : Nd) : 0 < n.subs.length := by rw [subs_eq]; exact Nat.succ_pos _
/-- by the depth of trees -/
theorem ind {p : Nd → Prop} (h : ∀ n, (∀ k ∈ n.kids, p k) → p n) : ∀ n, p n := by
  have : ∀ (d : Nat) (n : Nd), n.dep ≤ d → p n := by
    intro d
    induction d with
    | zero => exact fun n hn => absurd n.dep_pos (by omega)
    | succ d ih => exact fun n hn => h n fun k hk => ih k (by have := dep_kid hk; omega)
  exact fun n => this n.dep n (Nat.le_refl _)
theorem perm_flat {α β : Type} {f g : α → List β} : ∀ (ks : List α), (∀ k ∈ ks, (f k).Perm (g k)) → (ks.map f).flatten.Perm (ks.map g).flatten
  | [], _ => by simp
  | k :: r, h => by
    rw [List.map_cons, List.map_cons, List.flatten_cons, List.flatten_cons]
    exact (h k List.mem_cons_self).append (perm_flat r fun x hx => h x (List.mem_cons_of_mem _ hx))
theorem post_perm : ∀ n : Nd, n.post.Perm n.subs := ind fun n ih => by
  rw [post_eq, subs_eq]
  exact (List.perm_append_singleton _ _).trans ((perm_flat n.kids ih).cons n)
theorem post_nodup {n : Nd} (h : n.marks.Nodup) : (n.post.map mark).Nodup := ((post_perm n).map mark).nodup_iff.mpr h
theorem rectss_map : ∀ (row : Bool) (ks : List Nd) (x y : Int), (∀ k ∈ ks, ∀ x y, (k.rects x y).map (·.1) = k.subs) → (rectss row ks x y).map (·.1) = (ks.map subs).flatten
  | row, [], x, y, _ => by rw [rectss]; rfl
  | row, k :: r, x, y, h => by
    rw [rectss, List.map_append, h k List.mem_cons_self, rectss_map row r _ _ fun q hq => h q (List.mem_cons_of_mem _ hq), List.map_cons, List.flatten_cons]
theorem rects_map (n : Nd) : ∀ x y, (n.rects x y).map (·.1) = n.subs := ind (p := fun n => ∀ x y, (n.rects x y).map (·.1) = n.subs) (fun n ih x y => by
  rw [rects_eq, subs_eq, List.map_cons, rectss_map _ _ _ _ ih]) n
/-- moved by dx, dy -/
def mv (dx dy : Int) (p : Nd × Int × Int) : Nd × Int × Int := (p.1, p.2.1 + dx, p.2.2 + dy)
theorem rectss_mv (row : Bool) (dx dy : Int) : ∀ (ks : List Nd) (x y : Int), (∀ k ∈ ks, ∀ x y, k.rects (x + dx) (y + dy) = (k.rects x y).map (mv dx dy)) → rectss row ks (x + dx) (y + dy) = (rectss row ks x y).map (mv dx dy)
  | [], x, y, _ => by rw [rectss, rectss]; rfl
  | k :: r, x, y, h => by
    rw [rectss, rectss, List.map_append, h k List.mem_cons_self]
    congr 1
    have e := rectss_mv row dx dy r (if row = true then x + k.sz.1 else x) (if row = true then y else y + k.sz.2) fun q hq => h q (List.mem_cons_of_mem _ hq)
    rw [← e]
    cases row
    · simp only [Bool.false_eq_true, if_false]
      rw [show y + dy + k.sz.2 = y + k.sz.2 + dy by omega]
    · simp only [if_true]
      rw [show x + dx + k.sz.1 = x + k.sz.1 + dx by omega]
theorem rects_mv (dx dy : Int) (n : Nd) : ∀ x y, n.rects (x + dx) (y + dy) = (n.rects x y).map (mv dx dy) := ind (p := fun n => ∀ x y, n.rects (x + dx) (y + dy) = (n.rects x y).map (mv dx dy)) (fun n ih x y => by
  rw [rects_eq, rects_eq, List.map_cons, rectss_mv _ dx dy _ _ _ ih]
  rfl) n
theorem rectss_app (row : Bool) : ∀ (a b : List Nd) (x y : Int), rectss row (a ++ b) x y = rectss row a x y ++ rectss row b (if row = true then x + (a.map fun k => k.sz.1).sum else x) (if row = true then y else y + (a.map fun k => k.sz.2).sum)
  | [], b, x, y => by
    rw [List.nil_append]
    cases row <;> simp [rectss]
  | k :: r, b, x, y => by
    rw [List.cons_append, rectss, rectss, rectss_app row r b, List.append_assoc]
    congr 2
    cases row
    · simp only [Bool.false_eq_true, if_false, List.map_cons, List.sum_cons]
      rw [Int.add_assoc]
    · simp only [if_true, List.map_cons, List.sum_cons]
      rw [Int.add_assoc]
end Nd
/-! ### dicts by text -/
def kvS (ps : List (Str × V)) : List (Key × V) := ps.map fun p => (Sum.inr p.1, p.2)
theorem kvS_len (ps : List (Str × V)) : (kvS ps).length = ps.length := List.length_map _
theorem putK_new {ps : List (Str × V)} {m : Str} {v : V} (h : m ∉ ps.map (·.1)) : putK (kvS ps) (.inr m) v = kvS (ps ++ [(m, v)]) := by
  unfold putK
  rw [if_neg]
  · unfold kvS
    rw [List.map_append]
    rfl
  · intro z
    rw [List.any_eq_true] at z
    obtain ⟨p, hp, e⟩ := z
    obtain ⟨q, hq, rfl⟩ := List.mem_map.mp hp
    have e := of_decide_eq_true e
    injection e with e
    exact h (List.mem_map.mpr ⟨q, hq, e⟩)
theorem valS_of : ∀ {ps : List (Str × V)} {m : Str} {v : V} {i : Nat}, (ps.map (·.1)).Nodup → ps[i]? = some (m, v) → valV (kvS ps) (.inr m) = some v
  | [], m, v, i, _, e => by simp at e
  | p :: r, m, v, 0, _, e => by
    cases e
    simp [kvS, valV]
  | p :: r, m, v, i + 1, h, e => by
    rw [List.map_cons, List.nodup_cons] at h
    have hm : m ∈ r.map (·.1) := List.mem_map.mpr ⟨(m, v), List.mem_of_getElem? e, rfl⟩
    have ne : ¬ p.1 = m := fun z => h.1 (by rw [z]; exact hm)
    have ih := valS_of (ps := r) (i := i) h.2 e
    unfold kvS valV at ih ⊢
    rw [List.map_cons, List.find?_cons]
    have ne2 : decide ((Sum.inr p.1 : Key) = .inr m) = false := decide_eq_false fun z => ne (by injection z)
    rw [ne2]
    exact ih
theorem valS_none {ps : List (Str × V)} {m : Str} (h : m ∉ ps.map (·.1)) : valV (kvS ps) (.inr m) = none := by
  unfold valV
  rw [List.find?_eq_none.mpr]
  · rfl
  · intro p hp e
    obtain ⟨q, hq, rfl⟩ := List.mem_map.mp hp
    have e := of_decide_eq_true e
    injection e with e
    exact h (List.mem_map.mpr ⟨q, hq, e⟩)
/-! ### texts of plain signs -/
def asc (z : Str) : Prop := ∀ c ∈ z.cps.toList, c < 128
theorem asc_app {a b : Str} (h : asc a) (g : asc b) : asc (a ++ b) := fun c hc => by
  have e : (a ++ b).cps.toList = a.cps.toList ++ b.cps.toList := Array.toList_append
  rw [e] at hc
  exact (List.mem_append.mp hc).elim (h c) (g c)
theorem asc_cut {z : Str} {lo hi : Option Int} (h : asc z) : asc (cutS z lo hi) := fun c hc => by
  unfold cutS at hc
  exact h c (List.mem_of_mem_drop (List.mem_of_mem_take (show c ∈ ((z.cps.toList.drop (HT.sIx z.length 0 lo)).take (HT.sIx z.length z.length hi - HT.sIx z.length 0 lo)) from hc)))
theorem asc_gd {z : Str} (h : asc z) : Gd z.length 0 (.str z) := Gd.str (fun c hc => Nat.lt_of_lt_of_le (h c hc) (by decide)) (Nat.le_refl _)
end D

/-! what stands at a point of a page -/
namespace D
open PySem PySem.Spec PyProof.Rows L2
theorem szR {n : Nd} (hk : n.kids ≠ []) (hr : n.label = sRow) : n.sz = ((n.kids.map fun k => k.sz.1).sum, mx (n.kids.map fun k => k.sz.2)) := by
  rw [n.sz_eq]
  unfold szf
  rw [if_neg (fun z => hk (List.map_eq_nil_iff.mp z)), if_pos hr, List.map_map, List.map_map]
  rfl
theorem szC {n : Nd} (hk : n.kids ≠ []) (hr : ¬ n.label = sRow) : n.sz = (mx (n.kids.map fun k => k.sz.1), (n.kids.map fun k => k.sz.2).sum) := by
  rw [n.sz_eq]
  unfold szf
  rw [if_neg (fun z => hk (List.map_eq_nil_iff.mp z)), if_neg hr, List.map_map, List.map_map]
  rfl
theorem szL {n : Nd} (hk : n.kids = []) : n.sz = if n.label = sRow ∨ n.label = sCol then (0, 0) else ((n.label.length : Int), 1) := by
  rw [n.sz_eq, hk]
  rfl
theorem mx_mem {l : List Int} {a : Int} (h : a ∈ l) : a ≤ mx l := (foldmx l 0).2.1 a h
theorem mx_nn (l : List Int) : 0 ≤ mx l := (foldmx l 0).1
theorem sum_nn {l : List Int} (h : ∀ x ∈ l, 0 ≤ x) : 0 ≤ l.sum := by
  induction l with
  | nil => exact Int.le_refl _
  | cons a r ih =>
    rw [List.sum_cons]
    have := h a List.mem_cons_self
    have := ih fun x hx => h x (List.mem_cons_of_mem _ hx)
    omega
theorem szf_nn (z : Str) {ps : List (Int × Int)} (h : ∀ p ∈ ps, 0 ≤ p.1 ∧ 0 ≤ p.2) : 0 ≤ (szf z ps).1 ∧ 0 ≤ (szf z ps).2 := by
  unfold szf
  split
  · split
    · exact ⟨Int.le_refl _, Int.le_refl _⟩
    · exact ⟨Int.natCast_nonneg _, by show (0 : Int) ≤ 1; decide⟩
  · split
    · exact ⟨sum_nn fun x hx => by obtain ⟨p, hp, rfl⟩ := List.mem_map.mp hx; exact (h p hp).1, mx_nn _⟩
    · exact ⟨mx_nn _, sum_nn fun x hx => by obtain ⟨p, hp, rfl⟩ := List.mem_map.mp hx; exact (h p hp).2⟩
theorem sz_nn : ∀ n : Nd, 0 ≤ n.sz.1 ∧ 0 ≤ n.sz.2 := Nd.ind fun n ih => by
  rw [Nd.sz_eq]
  exact szf_nn _ fun p hp => by
    obtain ⟨k, hk, rfl⟩ := List.mem_map.mp hp
    exact ih k hk
/-- the point lies in the rectangle -/
def holdB (X Y : Int) (p : Nd × Int × Int) : Bool := decide (p.2.1 ≤ X ∧ X < p.2.1 + p.1.sz.1 ∧ p.2.2 ≤ Y ∧ Y < p.2.2 + p.1.sz.2)
theorem holdB_iff {X Y : Int} {p : Nd × Int × Int} : holdB X Y p = true ↔ p.2.1 ≤ X ∧ X < p.2.1 + p.1.sz.1 ∧ p.2.2 ≤ Y ∧ Y < p.2.2 + p.1.sz.2 := decide_eq_true_iff
section
variable {X Y : Int}
theorem row_in {p : Nd × Int × Int} (hp : holdB X Y p = true) : ∀ (ks : List Nd) (x y : Int), (∀ k ∈ ks, ∀ x y, p ∈ k.rects x y → holdB X Y (k, x, y) = true) → p ∈ Nd.rectss true ks x y → x ≤ X ∧ X < x + (ks.map fun k => k.sz.1).sum ∧ ∃ k ∈ ks, y ≤ Y ∧ Y < y + k.sz.2
  | [], x, y, _, h => by rw [Nd.rectss] at h; cases h
  | k :: r, x, y, ih, h => by
    rw [Nd.rectss, List.mem_append] at h
    rw [List.map_cons, List.sum_cons]
    have n1 := (sz_nn k).1
    have n2 : 0 ≤ (r.map fun k => k.sz.1).sum := sum_nn fun z hz => by obtain ⟨q, _, rfl⟩ := List.mem_map.mp hz; exact (sz_nn q).1
    rcases h with h | h
    · have a := holdB_iff.mp (ih k List.mem_cons_self x y h)
      obtain ⟨a1, a2, a3, a4⟩ := a
      dsimp only at a1 a2 a3 a4
      exact ⟨a1, by omega, k, List.mem_cons_self, a3, a4⟩
    · simp only [if_true] at h
      obtain ⟨b1, b2, q, hq, b3⟩ := row_in hp r _ _ (fun q hq => ih q (List.mem_cons_of_mem _ hq)) h
      exact ⟨by omega, by omega, q, List.mem_cons_of_mem _ hq, b3⟩
theorem col_in {p : Nd × Int × Int} (hp : holdB X Y p = true) : ∀ (ks : List Nd) (x y : Int), (∀ k ∈ ks, ∀ x y, p ∈ k.rects x y → holdB X Y (k, x, y) = true) → p ∈ Nd.rectss false ks x y → y ≤ Y ∧ Y < y + (ks.map fun k => k.sz.2).sum ∧ ∃ k ∈ ks, x ≤ X ∧ X < x + k.sz.1
  | [], x, y, _, h => by rw [Nd.rectss] at h; cases h
  | k :: r, x, y, ih, h => by
    rw [Nd.rectss, List.mem_append] at h
    rw [List.map_cons, List.sum_cons]
    have n1 := (sz_nn k).2
    have n2 : 0 ≤ (r.map fun k => k.sz.2).sum := sum_nn fun z hz => by obtain ⟨q, _, rfl⟩ := List.mem_map.mp hz; exact (sz_nn q).2
    rcases h with h | h
    · have a := holdB_iff.mp (ih k List.mem_cons_self x y h)
      obtain ⟨a1, a2, a3, a4⟩ := a
      dsimp only at a1 a2 a3 a4
      exact ⟨a3, by omega, k, List.mem_cons_self, a1, a2⟩
    · simp only [Bool.false_eq_true, if_false] at h
      obtain ⟨b1, b2, q, hq, b3⟩ := col_in hp r _ _ (fun q hq => ih q (List.mem_cons_of_mem _ hq)) h
      exact ⟨by omega, by omega, q, List.mem_cons_of_mem _ hq, b3⟩
/-- what stands beneath a node lies in its rectangle -/
theorem in_root {p : Nd × Int × Int} (hp : holdB X Y p = true) : ∀ (n : Nd) (x y : Int), p ∈ n.rects x y → holdB X Y (n, x, y) = true := Nd.ind (p := fun n => ∀ x y, p ∈ n.rects x y → holdB X Y (n, x, y) = true) fun n ih x y h => by
  rw [Nd.rects_eq] at h
  rcases List.mem_cons.mp h with rfl | h
  · exact hp
  · have hk : n.kids ≠ [] := fun z => by rw [z, Nd.rectss] at h; cases h
    rw [holdB_iff]
    dsimp only
    by_cases hr : n.label = sRow
    · rw [decide_eq_true hr] at h
      obtain ⟨a, b, k, km, c, d⟩ := row_in hp n.kids x y ih h
      rw [szR hk hr]
      have := mx_mem (List.mem_map_of_mem (f := fun k : Nd => k.sz.2) km)
      exact ⟨a, b, c, by dsimp only; omega⟩
    · rw [decide_eq_false hr] at h
      obtain ⟨a, b, k, km, c, d⟩ := col_in hp n.kids x y ih h
      rw [szC hk hr]
      have := mx_mem (List.mem_map_of_mem (f := fun k : Nd => k.sz.1) km)
      exact ⟨c, by dsimp only; omega, a, b⟩
/-- the nodes at a point, in page order -/
def hitL (X Y : Int) (n : Nd) (x y : Int) : List (Nd × Int × Int) := (n.rects x y).filter (holdB X Y)
def hitsL (X Y : Int) (row : Bool) (ks : List Nd) (x y : Int) : List (Nd × Int × Int) := (Nd.rectss row ks x y).filter (holdB X Y)
theorem hitL_none {n : Nd} {x y : Int} (h : holdB X Y (n, x, y) = false) : hitL X Y n x y = [] := by
  unfold hitL
  rw [List.filter_eq_nil_iff]
  intro p hp hh
  rw [in_root hh n x y hp] at h
  cases h
theorem hitL_eq {n : Nd} {x y : Int} (h : holdB X Y (n, x, y) = true) : hitL X Y n x y = (n, x, y) :: hitsL X Y (decide (n.label = sRow)) n.kids x y := by
  unfold hitL hitsL
  rw [Nd.rects_eq, List.filter_cons, if_pos h]
theorem hitsL_cons (row : Bool) (k : Nd) (r : List Nd) (x y : Int) : hitsL X Y row (k :: r) x y = hitL X Y k x y ++ hitsL X Y row r (if row = true then x + k.sz.1 else x) (if row = true then y else y + k.sz.2) := by
  unfold hitsL hitL
  rw [Nd.rectss, List.filter_append]
/-- brothers have no point in common -/
theorem hitsL_none {row : Bool} {r : List Nd} {x y : Int} (h : if row = true then X < x else Y < y) : hitsL X Y row r x y = [] := by
  unfold hitsL
  rw [List.filter_eq_nil_iff]
  intro p hp hh
  cases row with
  | true =>
    have := (row_in hh r x y (fun k _ x y m => in_root hh k x y m) hp).1
    simp only [if_true] at h
    omega
  | false =>
    have := (col_in hh r x y (fun k _ x y m => in_root hh k x y m) hp).1
    simp only [Bool.false_eq_true, if_false] at h
    omega
theorem hitsL_held {row : Bool} {k : Nd} {r : List Nd} {x y : Int} (h : holdB X Y (k, x, y) = true) : hitsL X Y row (k :: r) x y = hitL X Y k x y := by
  rw [hitsL_cons, hitsL_none, List.append_nil]
  have := holdB_iff.mp h
  dsimp only at this
  cases row
  · simp only [Bool.false_eq_true, if_false]; omega
  · simp only [if_true]; omega
theorem hitsL_past {row : Bool} {k : Nd} {r : List Nd} {x y : Int} (h : holdB X Y (k, x, y) = false) : hitsL X Y row (k :: r) x y = hitsL X Y row r (if row = true then x + k.sz.1 else x) (if row = true then y else y + k.sz.2) := by
  rw [hitsL_cons, hitL_none h, List.nil_append]
end
/-! the marks ahead of each node, its own behind them -/
mutual
def Nd.anc : Nd → List Str → List (List Str)
  | .mk m _ ks, u => (u ++ [m]) :: Nd.ancs ks (u ++ [m])
def Nd.ancs : List Nd → List Str → List (List Str)
  | [], _ => []
  | k :: r, u => k.anc u ++ Nd.ancs r u
end
theorem anc_eq (n : Nd) (u : List Str) : n.anc u = (u ++ [n.mark]) :: Nd.ancs n.kids (u ++ [n.mark]) := by
  cases n with | mk m l ks => rw [Nd.anc]; rfl
theorem ancs_map (u : List Str) : ∀ ks : List Nd, Nd.ancs ks u = (ks.map fun k => k.anc u).flatten
  | [] => by rw [Nd.ancs]; rfl
  | k :: r => by rw [Nd.ancs, ancs_map u r, List.map_cons, List.flatten_cons]
theorem flat_lens {α β γ : Type} {f : α → List β} {g : α → List γ} : ∀ (ks : List α), (∀ k ∈ ks, (f k).length = (g k).length) → (ks.map f).flatten.length = (ks.map g).flatten.length
  | [], _ => rfl
  | k :: r, h => by
    rw [List.map_cons, List.map_cons, List.flatten_cons, List.flatten_cons, List.length_append, List.length_append, h k List.mem_cons_self, flat_lens r fun q hq => h q (List.mem_cons_of_mem _ hq)]
theorem anc_len : ∀ (n : Nd) (u : List Str), (n.anc u).length = n.subs.length := Nd.ind (p := fun n => ∀ u, (n.anc u).length = n.subs.length) fun n ih u => by
  rw [anc_eq, Nd.subs_eq, List.length_cons, List.length_cons, ancs_map]
  congr 1
  exact flat_lens n.kids fun k hk => ih k hk _
theorem rects_len' (n : Nd) (x y : Int) : (n.rects x y).length = n.subs.length := by rw [← Nd.rects_map n x y, List.length_map]
section
variable {X Y : Int}
def PathL (rs : List (Nd × Int × Int)) (hs : List (Nd × Int × Int)) (as : List (List Str)) (u : List Str) : Prop := ∃ (j : Nat) (p : Nd × Int × Int), rs[j]? = some p ∧ hs.getLast? = some p ∧ as[j]? = some (u ++ hs.map fun p => p.1.mark)
theorem paths : ∀ (row : Bool) (ks : List Nd) (x y : Int) (u : List Str), (∀ k ∈ ks, ∀ x y u, holdB X Y (k, x, y) = true → PathL (k.rects x y) (hitL X Y k x y) (k.anc u) u) →
    hitsL X Y row ks x y = [] ∨ PathL (Nd.rectss row ks x y) (hitsL X Y row ks x y) (Nd.ancs ks u) u
  | row, [], x, y, u, _ => .inl (by unfold hitsL; rw [Nd.rectss]; rfl)
  | row, k :: r, x, y, u, ih => by
    rw [Nd.rectss, Nd.ancs]
    cases hh : holdB X Y (k, x, y) with
    | true =>
      rw [hitsL_held hh]
      obtain ⟨j, p, h1, h2, h3⟩ := ih k List.mem_cons_self x y u hh
      exact .inr ⟨j, p, by rw [List.getElem?_append_left (List.getElem?_eq_some_iff.mp h1).1]; exact h1, h2, by rw [List.getElem?_append_left (List.getElem?_eq_some_iff.mp h3).1]; exact h3⟩
    | false =>
      rw [hitsL_past hh]
      rcases paths row r _ _ u (fun q hq => ih q (List.mem_cons_of_mem _ hq)) with h | ⟨j, p, h1, h2, h3⟩
      · exact .inl h
      · refine .inr ⟨k.subs.length + j, p, ?_, h2, ?_⟩
        · rw [List.getElem?_append_right (by rw [rects_len']; omega), rects_len', Nat.add_sub_cancel_left]
          exact h1
        · rw [List.getElem?_append_right (by rw [anc_len]; omega), anc_len, Nat.add_sub_cancel_left]
          exact h3
theorem path : ∀ (n : Nd) (x y : Int) (u : List Str), holdB X Y (n, x, y) = true → PathL (n.rects x y) (hitL X Y n x y) (n.anc u) u :=
  Nd.ind (p := fun n => ∀ x y u, holdB X Y (n, x, y) = true → PathL (n.rects x y) (hitL X Y n x y) (n.anc u) u) fun n ih x y u hh => by
  rw [hitL_eq hh, Nd.rects_eq, anc_eq]
  rcases paths (decide (n.label = sRow)) n.kids x y (u ++ [n.mark]) ih with h | ⟨j, p, h1, h2, h3⟩
  · rw [h]
    exact ⟨0, (n, x, y), rfl, rfl, rfl⟩
  · refine ⟨j + 1, p, h1, ?_, ?_⟩
    · rw [List.getLast?_cons, h2]
      rfl
    · rw [List.getElem?_cons_succ, h3, List.map_cons, List.append_assoc]
      rfl
end
/-! the picture -/
def picf (m l : Str) (ps : List (Int × List (List Str))) : List (List Str) :=
  if ps = [] then (if l = sRow ∨ l = sCol then [] else [List.replicate l.length m])
  else if l = sRow then (List.range (mx (ps.map fun p => (p.2.length : Int))).toNat).map fun t => (ps.map fun p => if t < p.2.length then p.2[t]?.getD [] else List.replicate p.1.toNat m).flatten
  else (ps.map fun p => p.2.map fun ln => ln ++ List.replicate (mx (ps.map fun p => p.1) - p.1).toNat m).flatten
mutual
def Nd.pic : Nd → List (List Str)
  | .mk m l ks => picf m l (Nd.pics ks)
def Nd.pics : List Nd → List (Int × List (List Str))
  | [] => []
  | k :: r => (k.sz.1, k.pic) :: Nd.pics r
end
theorem pics_map : ∀ ks : List Nd, Nd.pics ks = ks.map fun k => (k.sz.1, k.pic)
  | [] => by rw [Nd.pics]; rfl
  | k :: r => by rw [Nd.pics, pics_map r, List.map_cons]
theorem pic_eq (n : Nd) : n.pic = picf n.mark n.label (n.kids.map fun k => (k.sz.1, k.pic)) := by
  cases n with | mk m l ks => rw [Nd.pic, pics_map]; rfl
def lineR (m : Str) (ks : List Nd) (t : Nat) : List Str := (ks.map fun k => if t < k.pic.length then k.pic[t]?.getD [] else List.replicate k.sz.1.toNat m).flatten
def linesC (m : Str) (W : Int) (ks : List Nd) : List (List Str) := (ks.map fun k => k.pic.map fun ln => ln ++ List.replicate (W - k.sz.1).toNat m).flatten
def lastM (m : Str) (L : List (Nd × Int × Int)) : Str := match L.getLast? with | some p => p.1.mark | none => m
theorem lastM_cons {n : Nd} {x y : Int} (L : List (Nd × Int × Int)) : lastM n.mark ((n, x, y) :: L) = lastM n.mark L := by
  unfold lastM
  rw [List.getLast?_cons]
  cases L.getLast? <;> rfl
theorem lastM_some {m m' : Str} {L : List (Nd × Int × Int)} (h : L ≠ []) : lastM m L = lastM m' L := by
  unfold lastM
  cases e : L.getLast? with
  | none => exact absurd (List.getLast?_eq_none_iff.mp e) h
  | some p => rfl
structure PicOk (n : Nd) : Prop where
  high : (n.pic.length : Int) = n.sz.2
  wide : ∀ ln ∈ n.pic, (ln.length : Int) = n.sz.1
  at' : ∀ X Y x y : Int, holdB X Y (n, x, y) = true → ∃ ln, n.pic[(Y - y).toNat]? = some ln ∧ ln[(X - x).toNat]? = some (lastM n.mark (hitL X Y n x y))
theorem lineR_part {k : Nd} (h : PicOk k) (m : Str) (t : Nat) : ((if t < k.pic.length then k.pic[t]?.getD [] else List.replicate k.sz.1.toNat m).length : Int) = k.sz.1 := by
  split
  · rename_i ht
    rw [List.getElem?_eq_getElem ht, Option.getD_some]
    exact h.wide _ (List.getElem_mem ht)
  · rw [List.length_replicate]
    have := (sz_nn k).1
    omega
theorem lineR_len (m : Str) (t : Nat) : ∀ ks : List Nd, (∀ k ∈ ks, PicOk k) → ((lineR m ks t).length : Int) = (ks.map fun k => k.sz.1).sum
  | [], _ => rfl
  | k :: r, h => by
    have := lineR_part (h k List.mem_cons_self) m t
    have i := lineR_len m t r fun q hq => h q (List.mem_cons_of_mem _ hq)
    unfold lineR at i ⊢
    rw [List.map_cons, List.flatten_cons, List.length_append, List.map_cons, List.sum_cons]
    omega
theorem lineR_at (m : Str) {X Y y : Int} {t : Nat} (ht : y + t = Y) : ∀ (ks : List Nd) (x : Int), (∀ k ∈ ks, PicOk k) → x ≤ X → X < x + (ks.map fun k => k.sz.1).sum → (lineR m ks t)[(X - x).toNat]? = some (lastM m (hitsL X Y true ks x y))
  | [], x, _, h1, h2 => absurd h1 (by simp at h2; omega)
  | k :: r, x, h, h1, h2 => by
    have hk := h k List.mem_cons_self
    have pl := lineR_part hk m t
    rw [List.map_cons, List.sum_cons] at h2
    unfold lineR
    rw [List.map_cons, List.flatten_cons]
    by_cases hw : X < x + k.sz.1
    · rw [List.getElem?_append_left (by omega)]
      by_cases hh : t < k.pic.length
      · have e := hk.high
        have hb : holdB X Y (k, x, y) = true := holdB_iff.mpr ⟨h1, hw, by dsimp only; omega, by dsimp only; omega⟩
        obtain ⟨ln, l1, l2⟩ := hk.at' X Y x y hb
        rw [show (Y - y).toNat = t by omega] at l1
        rw [hitsL_held hb, if_pos hh, l1, Option.getD_some, l2]
        rw [lastM_some (m' := m) (by rw [hitL_eq hb]; exact List.cons_ne_nil _ _)]
      · have e := hk.high
        have hb : holdB X Y (k, x, y) = false := by
          cases z : holdB X Y (k, x, y) with
          | false => rfl
          | true => exact absurd (holdB_iff.mp z).2.2.2 (by dsimp only; omega)
        rw [hitsL_past hb, hitsL_none (by simp only [if_true]; exact hw), if_neg hh, List.getElem?_replicate, if_pos (by have := (sz_nn k).1; omega)]
        rfl
    · have hb : holdB X Y (k, x, y) = false := by
        cases z : holdB X Y (k, x, y) with
        | false => rfl
        | true => exact absurd (holdB_iff.mp z).2.1 hw
      rw [List.getElem?_append_right (by omega), hitsL_past hb]
      simp only [if_true]
      have i := lineR_at (X := X) m ht r (x + k.sz.1) (fun q hq => h q (List.mem_cons_of_mem _ hq)) (by omega) (by omega)
      unfold lineR at i
      rw [← i]
      congr 1
      omega
theorem linesC_len (m : Str) (W : Int) : ∀ ks : List Nd, (∀ k ∈ ks, PicOk k) → ((linesC m W ks).length : Int) = (ks.map fun k => k.sz.2).sum
  | [], _ => rfl
  | k :: r, h => by
    have := (h k List.mem_cons_self).high
    have i := linesC_len m W r fun q hq => h q (List.mem_cons_of_mem _ hq)
    unfold linesC at i ⊢
    rw [List.map_cons, List.flatten_cons, List.length_append, List.length_map, List.map_cons, List.sum_cons]
    omega
theorem linesC_wide (m : Str) (W : Int) {ks : List Nd} (h : ∀ k ∈ ks, PicOk k) (hW : ∀ k ∈ ks, k.sz.1 ≤ W) : ∀ ln ∈ linesC m W ks, (ln.length : Int) = W := fun ln hl => by
  unfold linesC at hl
  obtain ⟨q, hq, hl⟩ := List.mem_flatten.mp hl
  obtain ⟨k, hk, rfl⟩ := List.mem_map.mp hq
  obtain ⟨l2, h2, rfl⟩ := List.mem_map.mp hl
  rw [List.length_append, List.length_replicate]
  have := (h k hk).wide l2 h2
  have := hW k hk
  omega
theorem linesC_at (m : Str) (W : Int) {X Y x : Int} (h3 : x ≤ X) (h4 : X < x + W) : ∀ (ks : List Nd) (y : Int), (∀ k ∈ ks, PicOk k) → (∀ k ∈ ks, k.sz.1 ≤ W) → y ≤ Y → Y < y + (ks.map fun k => k.sz.2).sum → ∃ ln, (linesC m W ks)[(Y - y).toNat]? = some ln ∧ ln[(X - x).toNat]? = some (lastM m (hitsL X Y false ks x y))
  | [], y, _, _, h1, h2 => absurd h1 (by simp at h2; omega)
  | k :: r, y, h, hW, h1, h2 => by
    have hk := h k List.mem_cons_self
    have e := hk.high
    rw [List.map_cons, List.sum_cons] at h2
    unfold linesC
    rw [List.map_cons, List.flatten_cons]
    by_cases hh : Y < y + k.sz.2
    · have lt : (Y - y).toNat < k.pic.length := by omega
      refine ⟨k.pic[(Y - y).toNat] ++ List.replicate (W - k.sz.1).toNat m, ?_, ?_⟩
      · rw [List.getElem?_append_left (by rw [List.length_map]; exact lt), List.getElem?_map, List.getElem?_eq_getElem lt]
        rfl
      · have wl := hk.wide _ (List.getElem_mem lt)
        by_cases hw : X < x + k.sz.1
        · have hb : holdB X Y (k, x, y) = true := holdB_iff.mpr ⟨h3, hw, h1, hh⟩
          obtain ⟨ln, l1, l2⟩ := hk.at' X Y x y hb
          rw [List.getElem?_eq_getElem lt] at l1
          cases l1
          rw [hitsL_held hb, List.getElem?_append_left (by omega), l2]
          rw [lastM_some (m' := m) (by rw [hitL_eq hb]; exact List.cons_ne_nil _ _)]
        · have hb : holdB X Y (k, x, y) = false := by
            cases z : holdB X Y (k, x, y) with
            | false => rfl
            | true => exact absurd (holdB_iff.mp z).2.1 hw
          rw [hitsL_past hb, hitsL_none (by simp only [Bool.false_eq_true, if_false]; exact hh), List.getElem?_append_right (by omega), List.getElem?_replicate, if_pos (by have := (sz_nn k).1; omega)]
          rfl
    · have hb : holdB X Y (k, x, y) = false := by
        cases z : holdB X Y (k, x, y) with
        | false => rfl
        | true => exact absurd (holdB_iff.mp z).2.2.2 hh
      have := (sz_nn k).2
      rw [List.getElem?_append_right (by rw [List.length_map]; omega), hitsL_past hb]
      simp only [Bool.false_eq_true, if_false]
      obtain ⟨ln, l1, l2⟩ := linesC_at (Y := Y) m W h3 h4 r (y + k.sz.2) (fun q hq => h q (List.mem_cons_of_mem _ hq)) (fun q hq => hW q (List.mem_cons_of_mem _ hq)) (by omega) (by omega)
      unfold linesC at l1
      refine ⟨ln, ?_, l2⟩
      rw [← l1, List.length_map]
      congr 1
      omega
theorem picOk : ∀ n : Nd, PicOk n := Nd.ind fun n ih => by
  have e := pic_eq n
  by_cases hk : n.kids = []
  · have s := szL hk
    rw [hk] at e
    unfold picf at e
    rw [List.map_nil, if_pos rfl] at e
    by_cases hl : n.label = sRow ∨ n.label = sCol
    · rw [if_pos hl] at e s
      exact ⟨by rw [e, s]; rfl, fun ln h => (by rw [e] at h; cases h), fun X Y x y h => absurd (holdB_iff.mp h) (by rw [s]; dsimp only; omega)⟩
    · rw [if_neg hl] at e s
      refine ⟨by rw [e, s]; rfl, fun ln h => ?_, fun X Y x y h => ?_⟩
      · rw [e] at h
        rw [List.mem_singleton.mp h, s, List.length_replicate]
      · have hh := holdB_iff.mp h
        rw [s] at hh
        dsimp only at hh
        refine ⟨List.replicate n.label.length n.mark, by rw [e, show (Y - y).toNat = 0 by omega]; rfl, ?_⟩
        rw [List.getElem?_replicate, if_pos (by omega), hitL_eq h, lastM_cons, hk]
        unfold hitsL
        rw [Nd.rectss]
        rfl
  · have ne : ¬ (n.kids.map fun k => (k.sz.1, k.pic)) = [] := fun z => hk (List.map_eq_nil_iff.mp z)
    unfold picf at e
    rw [if_neg ne] at e
    by_cases hr : n.label = sRow
    · have s := szR hk hr
      rw [if_pos hr] at e
      have eh : (n.kids.map fun k => (k.sz.1, k.pic)).map (fun p => (p.2.length : Int)) = n.kids.map fun k => k.sz.2 := by
        rw [List.map_map]
        exact List.map_congr_left fun k km => (ih k km).high
      have ef : (fun t => ((n.kids.map fun k => (k.sz.1, k.pic)).map fun p => if t < p.2.length then p.2[t]?.getD [] else List.replicate p.1.toNat n.mark).flatten) = lineR n.mark n.kids := by
        funext t
        rw [List.map_map]
        rfl
      rw [eh, ef] at e
      have nn := mx_nn (n.kids.map fun k => k.sz.2)
      refine ⟨by rw [e, s, List.length_map, List.length_range]; dsimp only; omega, fun ln h => ?_, fun X Y x y h => ?_⟩
      · rw [e] at h
        obtain ⟨t, _, rfl⟩ := List.mem_map.mp h
        rw [lineR_len _ _ _ ih, s]
      · have hh := holdB_iff.mp h
        rw [s] at hh
        dsimp only at hh
        refine ⟨lineR n.mark n.kids (Y - y).toNat, ?_, ?_⟩
        · rw [e, List.getElem?_map, List.getElem?_range (by omega)]
          rfl
        · rw [lineR_at n.mark (Y := Y) (y := y) (by omega) n.kids x ih hh.1 hh.2.1, hitL_eq h, lastM_cons, decide_eq_true hr]
    · have s := szC hk hr
      rw [if_neg hr] at e
      have eh : (n.kids.map fun k => (k.sz.1, k.pic)).map (fun p => p.1) = n.kids.map fun k => k.sz.1 := by
        rw [List.map_map]
        rfl
      have ef : ((n.kids.map fun k => (k.sz.1, k.pic)).map fun p => p.2.map fun ln => ln ++ List.replicate (mx (n.kids.map fun k => k.sz.1) - p.1).toNat n.mark).flatten = linesC n.mark (mx (n.kids.map fun k => k.sz.1)) n.kids := by
        rw [List.map_map]
        rfl
      rw [eh, ef] at e
      have hW : ∀ k ∈ n.kids, k.sz.1 ≤ mx (n.kids.map fun k => k.sz.1) := fun k km => mx_mem (List.mem_map_of_mem (f := fun k : Nd => k.sz.1) km)
      refine ⟨by rw [e, s, linesC_len _ _ _ ih], fun ln h => ?_, fun X Y x y h => ?_⟩
      · rw [e] at h
        rw [linesC_wide _ _ ih hW ln h, s]
      · have hh := holdB_iff.mp h
        rw [s] at hh
        dsimp only at hh
        obtain ⟨ln, l1, l2⟩ := linesC_at n.mark _ hh.1 hh.2.1 n.kids y ih hW hh.2.2.1 hh.2.2.2
        refine ⟨ln, by rw [e]; exact l1, ?_⟩
        rw [l2, hitL_eq h, lastM_cons, decide_eq_false hr]
/-! how many points a rectangle has -/
def rowc (p : Nd × Int × Int) (Y : Int) (s : Nat) : Nat := (List.range s).countP fun (i : Nat) => holdB ((i : Int) - 1) Y p
def tot (p : Nd × Int × Int) (W t : Nat) : Nat := ((List.range t).map fun (j : Nat) => rowc p ((j : Int) - 1) (W + 2)).sum
theorem rowc_succ (p : Nd × Int × Int) (Y : Int) (s : Nat) : rowc p Y (s + 1) = rowc p Y s + if holdB ((s : Int) - 1) Y p = true then 1 else 0 := by
  unfold rowc
  rw [List.range_succ, List.countP_append, List.countP_singleton]
theorem tot_succ (p : Nd × Int × Int) (W t : Nat) : tot p W (t + 1) = tot p W t + rowc p ((t : Int) - 1) (W + 2) := by
  unfold tot
  rw [List.range_succ, List.map_append, List.sum_append]
  simp
theorem count_iv (a b : Int) : ∀ n : Nat, ((List.range n).countP (fun (i : Nat) => decide (a ≤ (i : Int) - 1 ∧ (i : Int) - 1 < b)) : Int) = max 0 (min b ((n : Int) - 1) - max a (-1))
  | 0 => by
    rw [List.range_zero, List.countP_nil]
    omega
  | n + 1 => by
    rw [List.range_succ, List.countP_append, List.countP_singleton, Int.natCast_add, count_iv a b n]
    by_cases h : a ≤ (n : Int) - 1 ∧ (n : Int) - 1 < b
    · rw [if_pos (decide_eq_true h)]
      omega
    · rw [if_neg (by rw [decide_eq_false h]; decide)]
      omega
theorem tot_zero {p : Nd × Int × Int} (h : ∀ X Y, holdB X Y p = false) (W : Nat) : ∀ t, tot p W t = 0
  | 0 => rfl
  | t + 1 => by
    rw [tot_succ, tot_zero h W t]
    unfold rowc
    rw [List.countP_eq_zero.mpr fun i _ => by rw [h]; decide]
theorem tot_eq {n : Nd} {p : Nd × Int × Int} (hp : p ∈ n.rects 0 0) {W H : Nat} (hW : (W : Int) = n.sz.1) (hH : (H : Int) = n.sz.2) : (tot p W (H + 2) : Int) = p.1.sz.1 * p.1.sz.2 := by
  have n1 := sz_nn p.1
  by_cases hw : p.1.sz.1 = 0
  · rw [tot_zero (fun X Y => decide_eq_false (by omega)), hw]
    simp
  by_cases hh : p.1.sz.2 = 0
  · rw [tot_zero (fun X Y => decide_eq_false (by omega)), hh]
    simp
  have b1 := holdB_iff.mp (in_root (X := p.2.1) (Y := p.2.2) (holdB_iff.mpr ⟨Int.le_refl _, by omega, Int.le_refl _, by omega⟩) n 0 0 hp)
  have b2 := holdB_iff.mp (in_root (X := p.2.1 + p.1.sz.1 - 1) (Y := p.2.2 + p.1.sz.2 - 1) (holdB_iff.mpr ⟨by omega, by omega, by omega, by omega⟩) n 0 0 hp)
  dsimp only at b1 b2
  have rc : ∀ Y : Int, (rowc p Y (W + 2) : Int) = if p.2.2 ≤ Y ∧ Y < p.2.2 + p.1.sz.2 then p.1.sz.1 else 0 := fun Y => by
    unfold rowc
    by_cases hy : p.2.2 ≤ Y ∧ Y < p.2.2 + p.1.sz.2
    · rw [if_pos hy]
      rw [show (fun (i : Nat) => holdB ((i : Int) - 1) Y p) = fun (i : Nat) => decide (p.2.1 ≤ (i : Int) - 1 ∧ (i : Int) - 1 < p.2.1 + p.1.sz.1) from funext fun i => by
        unfold holdB
        rw [decide_eq_decide]
        constructor
        · exact fun h => ⟨h.1, h.2.1⟩
        · exact fun h => ⟨h.1, h.2, hy.1, hy.2⟩]
      rw [count_iv]
      omega
    · rw [if_neg hy, List.countP_eq_zero.mpr fun i _ => by
        unfold holdB
        rw [decide_eq_false fun h => hy ⟨h.2.2.1, h.2.2.2⟩]
        decide]
      rfl
  have st : ∀ t : Nat, (tot p W t : Int) = p.1.sz.1 * ((List.range t).countP (fun (j : Nat) => decide (p.2.2 ≤ (j : Int) - 1 ∧ (j : Int) - 1 < p.2.2 + p.1.sz.2)) : Int) := by
    intro t
    induction t with
    | zero => rw [List.range_zero, List.countP_nil]; simp [tot]
    | succ t ih =>
      rw [tot_succ, Int.natCast_add, ih, rc, List.range_succ, List.countP_append, List.countP_singleton, Int.natCast_add, Int.mul_add]
      congr 1
      by_cases hy : p.2.2 ≤ (t : Int) - 1 ∧ (t : Int) - 1 < p.2.2 + p.1.sz.2
      · rw [if_pos hy, if_pos (decide_eq_true hy)]
        simp
      · rw [if_neg hy, if_neg (by rw [decide_eq_false hy]; decide)]
        simp
  rw [st, count_iv]
  congr 1
  omega
theorem sum_le_map {α : Type} {f : α → Int} {g : α → Nat} (c : Int) : ∀ (ks : List α), (∀ k ∈ ks, f k ≤ c * (g k : Int)) → (ks.map f).sum ≤ c * ((ks.map g).sum : Nat)
  | [], _ => by simp
  | k :: r, h => by
    rw [List.map_cons, List.map_cons, List.sum_cons, List.sum_cons, Int.natCast_add, Int.mul_add]
    exact Int.add_le_add (h k List.mem_cons_self) (sum_le_map c r fun q hq => h q (List.mem_cons_of_mem _ hq))
theorem mx_le {l : List Int} {b : Int} (h0 : 0 ≤ b) (h : ∀ x ∈ l, x ≤ b) : mx l ≤ b := by
  rcases (foldmx l 0).2.2 with e | e
  · unfold mx
    rw [e]
    exact h0
  · exact h _ e
theorem mem_le_sum {α : Type} {g : α → Nat} : ∀ {ks : List α} {k : α}, k ∈ ks → g k ≤ (ks.map g).sum
  | q :: r, k, h => by
    rw [List.map_cons, List.sum_cons]
    rcases List.mem_cons.mp h with rfl | h
    · omega
    · have := mem_le_sum (g := g) h
      omega
theorem subs_sum (n : Nd) : n.subs.length = 1 + (n.kids.map fun k => k.subs.length).sum := by
  rw [Nd.subs_eq, List.length_cons, List.length_flatten, List.map_map]
  show _ + 1 = 1 + _
  rw [Nat.add_comm]
  rfl
theorem sz_le : ∀ n : Nd, (∀ x ∈ n.subs, x.label.length ≤ 30) → n.sz.1 ≤ 30 * (n.subs.length : Int) ∧ n.sz.2 ≤ 1 * (n.subs.length : Int) := Nd.ind (p := fun n => (∀ x ∈ n.subs, x.label.length ≤ 30) → n.sz.1 ≤ 30 * (n.subs.length : Int) ∧ n.sz.2 ≤ 1 * (n.subs.length : Int)) fun n ih h => by
  have ik : ∀ k ∈ n.kids, k.sz.1 ≤ 30 * (k.subs.length : Int) ∧ k.sz.2 ≤ 1 * (k.subs.length : Int) := fun k hk => ih k hk fun x hx => h x (by
    rw [Nd.subs_eq n]
    exact List.mem_cons_of_mem _ (List.mem_flatten.mpr ⟨k.subs, List.mem_map.mpr ⟨k, hk, rfl⟩, hx⟩))
  have e := subs_sum n
  have nl : n.label.length ≤ 30 := h n (by rw [Nd.subs_eq]; exact List.mem_cons_self)
  have a1 := sum_le_map (f := fun k : Nd => k.sz.1) (g := fun k : Nd => k.subs.length) 30 n.kids fun k hk => (ik k hk).1
  have a2 := sum_le_map (f := fun k : Nd => k.sz.2) (g := fun k : Nd => k.subs.length) 1 n.kids fun k hk => (ik k hk).2
  have a3 : mx (n.kids.map fun k => k.sz.1) ≤ 30 * ((n.kids.map fun k => k.subs.length).sum : Nat) := mx_le (by omega) fun x hx => by
    obtain ⟨k, hk, rfl⟩ := List.mem_map.mp hx
    have := (ik k hk).1
    have := mem_le_sum (g := fun k : Nd => k.subs.length) hk
    omega
  have a4 : mx (n.kids.map fun k => k.sz.2) ≤ 1 * ((n.kids.map fun k => k.subs.length).sum : Nat) := mx_le (by omega) fun x hx => by
    obtain ⟨k, hk, rfl⟩ := List.mem_map.mp hx
    have := (ik k hk).2
    have := mem_le_sum (g := fun k : Nd => k.subs.length) hk
    omega
  by_cases hk : n.kids = []
  · rw [szL hk]
    split
    · dsimp only; omega
    · dsimp only; omega
  · by_cases hr : n.label = sRow
    · rw [szR hk hr]
      dsimp only
      omega
    · rw [szC hk hr]
      dsimp only
      omega
end D

namespace D
open PySem PySem.Spec PyProof.Rows L2
local macro_rules | `(tactic| walk_at "st") => `(tactic| first | exact SqT.of (by assumption) | exact Or.inl (by assumption) | exact SqT.of upd_same | fail "st")
local macro_rules | `(tactic| walk_at "ixt") => `(tactic| refine ⟨_, _, _, _, rfl, rfl, (by walk_at "st" : SqT _ _ _ _), by rfl, ?_⟩)
local macro_rules | `(tactic| walk_at "sq") => `(tactic| first | exact SqL.of (by assumption) | assumption | exact Or.inl (by assumption) | exact SqL.of upd_same | fail "sq")
local macro_rules | `(tactic| walk_at "ix") => `(tactic| refine ⟨_, _, _, _, rfl, rfl, (by walk_at "sq" : SqL _ _ _ _), by rfl, ?_⟩)
local macro_rules | `(tactic| walk_at "set") => `(tactic| refine ⟨_, _, _, _, rfl, rfl, by first | assumption | exact upd_same, by rfl, ?_⟩)
local macro_rules | `(tactic| walk_at "len") => `(tactic| refine ⟨_, _, rfl, Or.inl (by walk_at "sq" : SqL _ _ _ _), ?_⟩)
local macro_rules | `(tactic| walk_at "g") => `(tactic| repeat (first | refine ⟨_, rfl, ?_⟩ | refine ⟨_, _, rfl, rfl, ?_⟩ | refine ⟨Or.inr (by decide), ?_⟩ | refine ⟨Or.inl (by decide), ?_⟩ | refine ⟨(by decide : (0 : Int) < _), ?_⟩ | refine ⟨(⟨by decide, by decide⟩ : CDiv _ _), ?_⟩ | refine ⟨(⟨by decide, by decide, by decide⟩ : CPow _ _), ?_⟩ | refine Or.inl ⟨_, rfl, ?_⟩ | refine ⟨rfl, ?_⟩ | walk_at "ix" | walk_at "ixt" | walk_at "len" | fail "g"))
local macro_rules | `(tactic| walk_at "if") => `(tactic| refine ite2 (fun e => ?_) (fun e => ?_))
def topS (i : Nat) : Stmt := PySem.Challenge.pw_drawnanew_k18_whole_points.main.body.getD i (.Pass ⟨0, 0, 0, 0⟩)
abbrev s__wall : Stmt := topS 0
theorem sc__wall : FnScope ["k"] ["k"] (defScope s__wall) := ⟨rfl, rfl, rfl, by decide +kernel, rfl, by decide +kernel, by decide +kernel⟩
abbrev s_TooMany___init__ : Stmt := inClass (topS 3) 0
theorem sc_TooMany___init__ : FnScope ["self", "count"] ["self", "count"] (defScope s_TooMany___init__) := ⟨rfl, rfl, rfl, by decide +kernel, rfl, by decide +kernel, by decide +kernel⟩
abbrev s_TwiceMarked___init__ : Stmt := inClass (topS 4) 0
theorem sc_TwiceMarked___init__ : FnScope ["self", "mark"] ["self", "mark"] (defScope s_TwiceMarked___init__) := ⟨rfl, rfl, rfl, by decide +kernel, rfl, by decide +kernel, by decide +kernel⟩
abbrev s_NoNode___init__ : Stmt := inClass (topS 5) 0
theorem sc_NoNode___init__ : FnScope ["self", "mark"] ["self", "mark"] (defScope s_NoNode___init__) := ⟨rfl, rfl, rfl, by decide +kernel, rfl, by decide +kernel, by decide +kernel⟩
abbrev s_measure : Stmt := topS 7
theorem sc_measure : FnScope ["label", "sizes", "width", "_", "height"] ["label", "sizes"] (defScope s_measure) := ⟨rfl, rfl, rfl, by decide +kernel, rfl, by decide +kernel, by decide +kernel⟩
abbrev s__measured : Stmt := topS 8
theorem sc__measured : FnScope ["node", "rows", "sizes", "child"] ["node"] (defScope s__measured) := ⟨rfl, rfl, rfl, by decide +kernel, rfl, by decide +kernel, by decide +kernel⟩
abbrev s__rectangles : Stmt := topS 9
theorem sc__rectangles : FnScope ["node", "x", "y", "sizes", "width", "height", "rows", "child"] ["node", "x", "y", "sizes"] (defScope s__rectangles) := ⟨rfl, rfl, rfl, by decide +kernel, rfl, by decide +kernel, by decide +kernel⟩
abbrev s__holds : Stmt := topS 10
theorem sc__holds : FnScope ["rectangle", "px", "py", "x", "y", "width", "height"] ["rectangle", "px", "py"] (defScope s__holds) := ⟨rfl, rfl, rfl, by decide +kernel, rfl, by decide +kernel, by decide +kernel⟩
abbrev s_Laid___init__ : Stmt := inClass (topS 11) 0
theorem sc_Laid___init__ : FnScope ["self", "page"] ["self", "page"] (defScope s_Laid___init__) := ⟨rfl, rfl, rfl, by decide +kernel, rfl, by decide +kernel, by decide +kernel⟩
abbrev s_Laid__keep : Stmt := inClass (topS 11) 1
theorem sc_Laid__keep : FnScope ["self", "page", "measured", "sizes", "mark", "_", "size", "told", "place"] ["self", "page", "measured"] (defScope s_Laid__keep) := ⟨rfl, rfl, rfl, by decide +kernel, rfl, by decide +kernel, by decide +kernel⟩
abbrev s_Laid_page : Stmt := inClass (topS 11) 2
theorem sc_Laid_page : FnScope ["self"] ["self"] (defScope s_Laid_page) := ⟨rfl, rfl, rfl, by decide +kernel, rfl, by decide +kernel, by decide +kernel⟩
abbrev s_Laid_size : Stmt := inClass (topS 11) 3
theorem sc_Laid_size : FnScope ["self", "_", "width", "height"] ["self"] (defScope s_Laid_size) := ⟨rfl, rfl, rfl, by decide +kernel, rfl, by decide +kernel, by decide +kernel⟩
abbrev s_Laid___getitem__ : Stmt := inClass (topS 11) 4
theorem sc_Laid___getitem__ : FnScope ["self", "mark"] ["self", "mark"] (defScope s_Laid___getitem__) := ⟨rfl, rfl, rfl, by decide +kernel, rfl, by decide +kernel, by decide +kernel⟩
abbrev s_Laid___iter__ : Stmt := inClass (topS 11) 5
theorem sc_Laid___iter__ : FnScope ["self"] ["self"] (defScope s_Laid___iter__) := ⟨rfl, rfl, rfl, by decide +kernel, rfl, by decide +kernel, by decide +kernel⟩
abbrev s_Laid_hit : Stmt := inClass (topS 11) 6
theorem sc_Laid_hit : FnScope ["self", "x", "y", "found", "mark", "place"] ["self", "x", "y"] (defScope s_Laid_hit) := ⟨rfl, rfl, rfl, by decide +kernel, rfl, by decide +kernel, by decide +kernel⟩
abbrev s_Laid_take : Stmt := inClass (topS 11) 7
theorem sc_Laid_take : FnScope ["self", "patches"] ["self", "patches"] (defScope s_Laid_take) := ⟨rfl, rfl, rfl, by decide +kernel, rfl, by decide +kernel, by decide +kernel⟩
abbrev s_nodes_in : Stmt := topS 14
theorem sc_nodes_in : FnScope ["node", "nodes", "child"] ["node"] (defScope s_nodes_in) := ⟨rfl, rfl, rfl, by decide +kernel, rfl, by decide +kernel, by decide +kernel⟩
abbrev s_first_twice : Stmt := topS 15
theorem sc_first_twice : FnScope ["marks", "known", "seen", "mark"] ["marks", "known"] (defScope s_first_twice) := ⟨rfl, rfl, rfl, by decide +kernel, rfl, by decide +kernel, by decide +kernel⟩
abbrev s_Page___init__ : Stmt := inClass (topS 16) 0
theorem sc_Page___init__ : FnScope ["self", "root", "nodes", "twice", "node", "child"] ["self", "root"] (defScope s_Page___init__) := ⟨rfl, rfl, rfl, by decide +kernel, rfl, by decide +kernel, by decide +kernel⟩
abbrev s_Page_top : Stmt := inClass (topS 16) 1
theorem sc_Page_top : FnScope ["self"] ["self"] (defScope s_Page_top) := ⟨rfl, rfl, rfl, by decide +kernel, rfl, by decide +kernel, by decide +kernel⟩
abbrev s_Page_shown : Stmt := inClass (topS 16) 2
theorem sc_Page_shown : FnScope ["self"] ["self"] (defScope s_Page_shown) := ⟨rfl, rfl, rfl, by decide +kernel, rfl, by decide +kernel, by decide +kernel⟩
abbrev s_Page___getitem__ : Stmt := inClass (topS 16) 3
theorem sc_Page___getitem__ : FnScope ["self", "mark"] ["self", "mark"] (defScope s_Page___getitem__) := ⟨rfl, rfl, rfl, by decide +kernel, rfl, by decide +kernel, by decide +kernel⟩
abbrev s_Page___contains__ : Stmt := inClass (topS 16) 4
theorem sc_Page___contains__ : FnScope ["self", "mark"] ["self", "mark"] (defScope s_Page___contains__) := ⟨rfl, rfl, rfl, by decide +kernel, rfl, by decide +kernel, by decide +kernel⟩
abbrev s_Page___iter__ : Stmt := inClass (topS 16) 5
theorem sc_Page___iter__ : FnScope ["self"] ["self"] (defScope s_Page___iter__) := ⟨rfl, rfl, rfl, by decide +kernel, rfl, by decide +kernel, by decide +kernel⟩
abbrev s_Page___eq__ : Stmt := inClass (topS 16) 6
theorem sc_Page___eq__ : FnScope ["self", "other"] ["self", "other"] (defScope s_Page___eq__) := ⟨rfl, rfl, rfl, by decide +kernel, rfl, by decide +kernel, by decide +kernel⟩
abbrev s_Page_parent : Stmt := inClass (topS 16) 7
theorem sc_Page_parent : FnScope ["self", "mark"] ["self", "mark"] (defScope s_Page_parent) := ⟨rfl, rfl, rfl, by decide +kernel, rfl, by decide +kernel, by decide +kernel⟩
abbrev s__law_mixed : Stmt := topS 18
theorem sc__law_mixed : FnScope ["_law_number", "_law_turn", "_law_first", "_law_second"] ["_law_number", "_law_turn"] (defScope s__law_mixed) := ⟨rfl, rfl, rfl, by decide +kernel, rfl, by decide +kernel, by decide +kernel⟩
abbrev s__law_bag : Stmt := topS 19
theorem sc__law_bag : FnScope ["_law_script", "_law_cell", "_law_numbers", "_law_seed", "_law_at"] ["_law_script"] (defScope s__law_bag) := ⟨rfl, rfl, rfl, by decide +kernel, rfl, by decide +kernel, by decide +kernel⟩
abbrev s__law_pick : Stmt := topS 20
theorem sc__law_pick : FnScope ["_law_bag_here", "_law_many", "_law_turn", "_law_worth", "_law_cell", "_law_great"] ["_law_bag_here", "_law_many"] (defScope s__law_pick) := ⟨rfl, rfl, rfl, by decide +kernel, rfl, by decide +kernel, by decide +kernel⟩
abbrev s__law_choice : Stmt := topS 21
theorem sc__law_choice : FnScope ["_law_bag_here", "_law_things"] ["_law_bag_here", "_law_things"] (defScope s__law_choice) := ⟨rfl, rfl, rfl, by decide +kernel, rfl, by decide +kernel, by decide +kernel⟩
abbrev s__law_text : Stmt := topS 22
theorem sc__law_text : FnScope ["_law_bag_here", "_law_least", "_law_most", "_law_signs", "_law_told", "_law_step"] ["_law_bag_here", "_law_least", "_law_most"] (defScope s__law_text) := ⟨rfl, rfl, rfl, by decide +kernel, rfl, by decide +kernel, by decide +kernel⟩
abbrev s__law_label : Stmt := topS 23
theorem sc__law_label : FnScope ["_law_bag_here", "_law_way"] ["_law_bag_here"] (defScope s__law_label) := ⟨rfl, rfl, rfl, by decide +kernel, rfl, by decide +kernel, by decide +kernel⟩
abbrev s__law_marks : Stmt := topS 24
theorem sc__law_marks : FnScope ["_law_bag_here", "_law_count", "_law_most", "_law_left", "_law_right", "_law_step", "_law_start", "_law_k"] ["_law_bag_here", "_law_count"] (defScope s__law_marks) := ⟨rfl, rfl, rfl, by decide +kernel, rfl, by decide +kernel, by decide +kernel⟩
abbrev s__law_flat : Stmt := topS 25
theorem sc__law_flat : FnScope ["_law_bag_here", "_law_marks_here", "_law_deepest", "_law_flat_here", "_law_mark", "_law_most"] ["_law_bag_here", "_law_marks_here", "_law_deepest"] (defScope s__law_flat) := ⟨rfl, rfl, rfl, by decide +kernel, rfl, by decide +kernel, by decide +kernel⟩
abbrev s__law_grown : Stmt := topS 26
theorem sc__law_grown : FnScope ["_law_flat_here", "_law_ready", "_law_k", "_law_beneath"] ["_law_flat_here"] (defScope s__law_grown) := ⟨rfl, rfl, rfl, by decide +kernel, rfl, by decide +kernel, by decide +kernel⟩
abbrev s__law_picture : Stmt := topS 27
theorem sc__law_picture : FnScope ["_law_node", "_law_inner", "_law_lines", "_law_most", "_law_wide", "_law_told", "_law_y", "_law_line", "_law_child"] ["_law_node"] (defScope s__law_picture) := ⟨rfl, rfl, rfl, by decide +kernel, rfl, by decide +kernel, by decide +kernel⟩
abbrev s__law_lines_of : Stmt := topS 28
theorem sc__law_lines_of : FnScope ["_law_node", "_law_above", "_law_lines", "_law_child"] ["_law_node", "_law_above", "_law_lines"] (defScope s__law_lines_of) := ⟨rfl, rfl, rfl, by decide +kernel, rfl, by decide +kernel, by decide +kernel⟩
abbrev s__law_tree : Stmt := topS 29
theorem sc__law_tree : FnScope ["_law_bag_here", "_law_flat_here", "_law_mark", "_law_label_here", "_law_depth"] ["_law_bag_here"] (defScope s__law_tree) := ⟨rfl, rfl, rfl, by decide +kernel, rfl, by decide +kernel, by decide +kernel⟩
abbrev s__law_holds : Stmt := topS 30
theorem sc__law_holds : FnScope ["_law_box", "_law_x", "_law_y"] ["_law_box", "_law_x", "_law_y"] (defScope s__law_holds) := ⟨rfl, rfl, rfl, by decide +kernel, rfl, by decide +kernel, by decide +kernel⟩
abbrev s_law : Stmt := topS 31
theorem sc_law : FnScope ["_law_script", "_law_bag_here", "_law_tree_here", "_law_laid", "_law_wide", "_law_picture_here", "_law_high", "_law_above", "_law_boxes", "_law_counts", "_law_mark", "_law_y", "_law_x", "_law_told", "_law_off"] ["_law_script"] (defScope s_law) := ⟨rfl, rfl, rfl, by decide +kernel, rfl, by decide +kernel, by decide +kernel⟩

structure Txt (K : PySem.W.Frag) (mg : Str → Option Value) where
  f__wall : Addr
  d__wall : FuncData
  F__wall : Fun K "_wall" "_wall" s__wall f__wall d__wall
  b__wall : Binds K d__wall ["k"] []
  g__wall : mg "_wall" = some (.ref f__wall)
  f_measure : Addr
  d_measure : FuncData
  F_measure : Fun K "measure" "measure" s_measure f_measure d_measure
  b_measure : Binds K d_measure ["label", "sizes"] []
  g_measure : mg "measure" = some (.ref f_measure)
  f__measured : Addr
  d__measured : FuncData
  F__measured : Fun K "_measured" "_measured" s__measured f__measured d__measured
  b__measured : Binds K d__measured ["node"] []
  g__measured : mg "_measured" = some (.ref f__measured)
  f__rectangles : Addr
  d__rectangles : FuncData
  F__rectangles : Fun K "_rectangles" "_rectangles" s__rectangles f__rectangles d__rectangles
  b__rectangles : Binds K d__rectangles ["node", "x", "y", "sizes"] []
  g__rectangles : mg "_rectangles" = some (.ref f__rectangles)
  f__holds : Addr
  d__holds : FuncData
  F__holds : Fun K "_holds" "_holds" s__holds f__holds d__holds
  b__holds : Binds K d__holds ["rectangle", "px", "py"] []
  g__holds : mg "_holds" = some (.ref f__holds)
  f_nodes_in : Addr
  d_nodes_in : FuncData
  F_nodes_in : Fun K "nodes_in" "nodes_in" s_nodes_in f_nodes_in d_nodes_in
  b_nodes_in : Binds K d_nodes_in ["node"] []
  g_nodes_in : mg "nodes_in" = some (.ref f_nodes_in)
  f_first_twice : Addr
  d_first_twice : FuncData
  F_first_twice : Fun K "first_twice" "first_twice" s_first_twice f_first_twice d_first_twice
  b_first_twice : Binds K d_first_twice ["marks", "known"] []
  g_first_twice : mg "first_twice" = some (.ref f_first_twice)
  f__law_mixed : Addr
  d__law_mixed : FuncData
  F__law_mixed : Fun K "_law_mixed" "_law_mixed" s__law_mixed f__law_mixed d__law_mixed
  b__law_mixed : Binds K d__law_mixed ["_law_number", "_law_turn"] []
  g__law_mixed : mg "_law_mixed" = some (.ref f__law_mixed)
  f__law_bag : Addr
  d__law_bag : FuncData
  F__law_bag : Fun K "_law_bag" "_law_bag" s__law_bag f__law_bag d__law_bag
  b__law_bag : Binds K d__law_bag ["_law_script"] []
  g__law_bag : mg "_law_bag" = some (.ref f__law_bag)
  f__law_pick : Addr
  d__law_pick : FuncData
  F__law_pick : Fun K "_law_pick" "_law_pick" s__law_pick f__law_pick d__law_pick
  b__law_pick : Binds K d__law_pick ["_law_bag_here", "_law_many"] []
  g__law_pick : mg "_law_pick" = some (.ref f__law_pick)
  f__law_choice : Addr
  d__law_choice : FuncData
  F__law_choice : Fun K "_law_choice" "_law_choice" s__law_choice f__law_choice d__law_choice
  b__law_choice : Binds K d__law_choice ["_law_bag_here", "_law_things"] []
  g__law_choice : mg "_law_choice" = some (.ref f__law_choice)
  f__law_text : Addr
  d__law_text : FuncData
  F__law_text : Fun K "_law_text" "_law_text" s__law_text f__law_text d__law_text
  b__law_text : Binds K d__law_text ["_law_bag_here", "_law_least", "_law_most"] []
  g__law_text : mg "_law_text" = some (.ref f__law_text)
  f__law_label : Addr
  d__law_label : FuncData
  F__law_label : Fun K "_law_label" "_law_label" s__law_label f__law_label d__law_label
  b__law_label : Binds K d__law_label ["_law_bag_here"] []
  g__law_label : mg "_law_label" = some (.ref f__law_label)
  f__law_marks : Addr
  d__law_marks : FuncData
  F__law_marks : Fun K "_law_marks" "_law_marks" s__law_marks f__law_marks d__law_marks
  b__law_marks : Binds K d__law_marks ["_law_bag_here", "_law_count"] []
  g__law_marks : mg "_law_marks" = some (.ref f__law_marks)
  f__law_flat : Addr
  d__law_flat : FuncData
  F__law_flat : Fun K "_law_flat" "_law_flat" s__law_flat f__law_flat d__law_flat
  b__law_flat : Binds K d__law_flat ["_law_bag_here", "_law_marks_here", "_law_deepest"] []
  g__law_flat : mg "_law_flat" = some (.ref f__law_flat)
  f__law_grown : Addr
  d__law_grown : FuncData
  F__law_grown : Fun K "_law_grown" "_law_grown" s__law_grown f__law_grown d__law_grown
  b__law_grown : Binds K d__law_grown ["_law_flat_here"] []
  g__law_grown : mg "_law_grown" = some (.ref f__law_grown)
  f__law_picture : Addr
  d__law_picture : FuncData
  F__law_picture : Fun K "_law_picture" "_law_picture" s__law_picture f__law_picture d__law_picture
  b__law_picture : Binds K d__law_picture ["_law_node"] []
  g__law_picture : mg "_law_picture" = some (.ref f__law_picture)
  f__law_lines_of : Addr
  d__law_lines_of : FuncData
  F__law_lines_of : Fun K "_law_lines_of" "_law_lines_of" s__law_lines_of f__law_lines_of d__law_lines_of
  b__law_lines_of : Binds K d__law_lines_of ["_law_node", "_law_above", "_law_lines"] []
  g__law_lines_of : mg "_law_lines_of" = some (.ref f__law_lines_of)
  f__law_tree : Addr
  d__law_tree : FuncData
  F__law_tree : Fun K "_law_tree" "_law_tree" s__law_tree f__law_tree d__law_tree
  b__law_tree : Binds K d__law_tree ["_law_bag_here"] []
  g__law_tree : mg "_law_tree" = some (.ref f__law_tree)
  f__law_holds : Addr
  d__law_holds : FuncData
  F__law_holds : Fun K "_law_holds" "_law_holds" s__law_holds f__law_holds d__law_holds
  b__law_holds : Binds K d__law_holds ["_law_box", "_law_x", "_law_y"] []
  g__law_holds : mg "_law_holds" = some (.ref f__law_holds)
  f_law : Addr
  d_law : FuncData
  F_law : Fun K "law" "law" s_law f_law d_law
  b_law : Binds K d_law ["_law_script"] []
  g_law : mg "law" = some (.ref f_law)
  C_Laid : Addr
  g_Laid : mg "Laid" = some (.ref C_Laid)
  cl_Laid : Cls K C_Laid
  mk_Laid : PySem.W.makesIn K C_Laid = true
  kc_Laid : PySem.W.keepIn K (.ref C_Laid) = true
  nf_Laid : PySem.W.notFirst K C_Laid (.ref C_Laid) = true
  in_Laid : C8.InsC K C_Laid
  ns_Laid : PySem.W.noSeq K C_Laid = true
  nA_Laid__page : NoAttr K C_Laid "_page"
  nA_Laid__places : NoAttr K C_Laid "_places"
  nA_Laid__told : NoAttr K C_Laid "_told"
  f_Laid___init__ : Addr
  d_Laid___init__ : FuncData
  F_Laid___init__ : Fun K "__init__" "Laid.__init__" s_Laid___init__ f_Laid___init__ d_Laid___init__
  b_Laid___init__ : Binds K d_Laid___init__ ["self", "page"] []
  a_Laid___init__ : PySem.W.findIn K (.ref C_Laid) "__init__" = some (some (.ref f_Laid___init__))
  i_Laid___init__ : PySem.W.isFn K (.ref f_Laid___init__) = true
  n_Laid___init__ : PySem.W.fnIn K f_Laid___init__ = true
  f_Laid__keep : Addr
  d_Laid__keep : FuncData
  F_Laid__keep : Fun K "_keep" "Laid._keep" s_Laid__keep f_Laid__keep d_Laid__keep
  b_Laid__keep : Binds K d_Laid__keep ["self", "page", "measured"] []
  a_Laid__keep : PySem.W.findIn K (.ref C_Laid) "_keep" = some (some (.ref f_Laid__keep))
  i_Laid__keep : PySem.W.isFn K (.ref f_Laid__keep) = true
  n_Laid__keep : PySem.W.fnIn K f_Laid__keep = true
  f_Laid_page : Addr
  d_Laid_page : FuncData
  F_Laid_page : Fun K "page" "Laid.page" s_Laid_page f_Laid_page d_Laid_page
  b_Laid_page : Binds K d_Laid_page ["self"] []
  p_Laid_page : Addr
  P_Laid_page : PropOf K C_Laid "page" p_Laid_page f_Laid_page
  f_Laid_size : Addr
  d_Laid_size : FuncData
  F_Laid_size : Fun K "size" "Laid.size" s_Laid_size f_Laid_size d_Laid_size
  b_Laid_size : Binds K d_Laid_size ["self"] []
  p_Laid_size : Addr
  P_Laid_size : PropOf K C_Laid "size" p_Laid_size f_Laid_size
  f_Laid___getitem__ : Addr
  d_Laid___getitem__ : FuncData
  F_Laid___getitem__ : Fun K "__getitem__" "Laid.__getitem__" s_Laid___getitem__ f_Laid___getitem__ d_Laid___getitem__
  b_Laid___getitem__ : Binds K d_Laid___getitem__ ["self", "mark"] []
  a_Laid___getitem__ : PySem.W.findIn K (.ref C_Laid) "__getitem__" = some (some (.ref f_Laid___getitem__))
  i_Laid___getitem__ : PySem.W.isFn K (.ref f_Laid___getitem__) = true
  n_Laid___getitem__ : PySem.W.fnIn K f_Laid___getitem__ = true
  f_Laid___iter__ : Addr
  d_Laid___iter__ : FuncData
  F_Laid___iter__ : Fun K "__iter__" "Laid.__iter__" s_Laid___iter__ f_Laid___iter__ d_Laid___iter__
  b_Laid___iter__ : Binds K d_Laid___iter__ ["self"] []
  a_Laid___iter__ : PySem.W.findIn K (.ref C_Laid) "__iter__" = some (some (.ref f_Laid___iter__))
  i_Laid___iter__ : PySem.W.isFn K (.ref f_Laid___iter__) = true
  n_Laid___iter__ : PySem.W.fnIn K f_Laid___iter__ = true
  f_Laid_hit : Addr
  d_Laid_hit : FuncData
  F_Laid_hit : Fun K "hit" "Laid.hit" s_Laid_hit f_Laid_hit d_Laid_hit
  b_Laid_hit : Binds K d_Laid_hit ["self", "x", "y"] []
  a_Laid_hit : PySem.W.findIn K (.ref C_Laid) "hit" = some (some (.ref f_Laid_hit))
  i_Laid_hit : PySem.W.isFn K (.ref f_Laid_hit) = true
  n_Laid_hit : PySem.W.fnIn K f_Laid_hit = true
  f_Laid_take : Addr
  d_Laid_take : FuncData
  F_Laid_take : Fun K "take" "Laid.take" s_Laid_take f_Laid_take d_Laid_take
  b_Laid_take : Binds K d_Laid_take ["self", "patches"] []
  a_Laid_take : PySem.W.findIn K (.ref C_Laid) "take" = some (some (.ref f_Laid_take))
  i_Laid_take : PySem.W.isFn K (.ref f_Laid_take) = true
  n_Laid_take : PySem.W.fnIn K f_Laid_take = true
  li_Laid : ItK K C_Laid f_Laid___iter__
  C_Page : Addr
  g_Page : mg "Page" = some (.ref C_Page)
  cl_Page : Cls K C_Page
  mk_Page : PySem.W.makesIn K C_Page = true
  kc_Page : PySem.W.keepIn K (.ref C_Page) = true
  nf_Page : PySem.W.notFirst K C_Page (.ref C_Page) = true
  in_Page : C8.InsC K C_Page
  ns_Page : PySem.W.noSeq K C_Page = true
  nA_Page__nodes : NoAttr K C_Page "_nodes"
  nA_Page__parents : NoAttr K C_Page "_parents"
  nA_Page__root : NoAttr K C_Page "_root"
  f_Page___init__ : Addr
  d_Page___init__ : FuncData
  F_Page___init__ : Fun K "__init__" "Page.__init__" s_Page___init__ f_Page___init__ d_Page___init__
  b_Page___init__ : Binds K d_Page___init__ ["self", "root"] []
  a_Page___init__ : PySem.W.findIn K (.ref C_Page) "__init__" = some (some (.ref f_Page___init__))
  i_Page___init__ : PySem.W.isFn K (.ref f_Page___init__) = true
  n_Page___init__ : PySem.W.fnIn K f_Page___init__ = true
  f_Page_top : Addr
  d_Page_top : FuncData
  F_Page_top : Fun K "top" "Page.top" s_Page_top f_Page_top d_Page_top
  b_Page_top : Binds K d_Page_top ["self"] []
  p_Page_top : Addr
  P_Page_top : PropOf K C_Page "top" p_Page_top f_Page_top
  f_Page_shown : Addr
  d_Page_shown : FuncData
  F_Page_shown : Fun K "shown" "Page.shown" s_Page_shown f_Page_shown d_Page_shown
  b_Page_shown : Binds K d_Page_shown ["self"] []
  p_Page_shown : Addr
  P_Page_shown : PropOf K C_Page "shown" p_Page_shown f_Page_shown
  f_Page___getitem__ : Addr
  d_Page___getitem__ : FuncData
  F_Page___getitem__ : Fun K "__getitem__" "Page.__getitem__" s_Page___getitem__ f_Page___getitem__ d_Page___getitem__
  b_Page___getitem__ : Binds K d_Page___getitem__ ["self", "mark"] []
  a_Page___getitem__ : PySem.W.findIn K (.ref C_Page) "__getitem__" = some (some (.ref f_Page___getitem__))
  i_Page___getitem__ : PySem.W.isFn K (.ref f_Page___getitem__) = true
  n_Page___getitem__ : PySem.W.fnIn K f_Page___getitem__ = true
  f_Page___contains__ : Addr
  d_Page___contains__ : FuncData
  F_Page___contains__ : Fun K "__contains__" "Page.__contains__" s_Page___contains__ f_Page___contains__ d_Page___contains__
  b_Page___contains__ : Binds K d_Page___contains__ ["self", "mark"] []
  a_Page___contains__ : PySem.W.findIn K (.ref C_Page) "__contains__" = some (some (.ref f_Page___contains__))
  i_Page___contains__ : PySem.W.isFn K (.ref f_Page___contains__) = true
  n_Page___contains__ : PySem.W.fnIn K f_Page___contains__ = true
  f_Page___iter__ : Addr
  d_Page___iter__ : FuncData
  F_Page___iter__ : Fun K "__iter__" "Page.__iter__" s_Page___iter__ f_Page___iter__ d_Page___iter__
  b_Page___iter__ : Binds K d_Page___iter__ ["self"] []
  a_Page___iter__ : PySem.W.findIn K (.ref C_Page) "__iter__" = some (some (.ref f_Page___iter__))
  i_Page___iter__ : PySem.W.isFn K (.ref f_Page___iter__) = true
  n_Page___iter__ : PySem.W.fnIn K f_Page___iter__ = true
  f_Page___eq__ : Addr
  d_Page___eq__ : FuncData
  F_Page___eq__ : Fun K "__eq__" "Page.__eq__" s_Page___eq__ f_Page___eq__ d_Page___eq__
  b_Page___eq__ : Binds K d_Page___eq__ ["self", "other"] []
  a_Page___eq__ : PySem.W.findIn K (.ref C_Page) "__eq__" = some (some (.ref f_Page___eq__))
  i_Page___eq__ : PySem.W.isFn K (.ref f_Page___eq__) = true
  n_Page___eq__ : PySem.W.fnIn K f_Page___eq__ = true
  f_Page_parent : Addr
  d_Page_parent : FuncData
  F_Page_parent : Fun K "parent" "Page.parent" s_Page_parent f_Page_parent d_Page_parent
  b_Page_parent : Binds K d_Page_parent ["self", "mark"] []
  a_Page_parent : PySem.W.findIn K (.ref C_Page) "parent" = some (some (.ref f_Page_parent))
  i_Page_parent : PySem.W.isFn K (.ref f_Page_parent) = true
  n_Page_parent : PySem.W.fnIn K f_Page_parent = true
  li_Page : ItK K C_Page f_Page___iter__
  C_ScreenError : Addr
  g_ScreenError : mg "ScreenError" = some (.ref C_ScreenError)
  hd_ScreenError : PySem.W.hasDictIn K C_ScreenError = true
  ty_ScreenError : PySem.W.typeIn K (.ref C_ScreenError) = some (.type "type")
  be_ScreenError : PySem.W.subIn K (.ref C_ScreenError) (.type "BaseException") = some true
  vb_ScreenError : PySem.W.subIn K (.ref C_ScreenError) (.type "ValueError") = some true
  C_TooMany : Addr
  g_TooMany : mg "TooMany" = some (.ref C_TooMany)
  hd_TooMany : PySem.W.hasDictIn K C_TooMany = true
  ty_TooMany : PySem.W.typeIn K (.ref C_TooMany) = some (.type "type")
  be_TooMany : PySem.W.subIn K (.ref C_TooMany) (.type "BaseException") = some true
  vb_TooMany : PySem.W.subIn K (.ref C_TooMany) (.type "ValueError") = some true
  ox_TooMany : OexC K C_TooMany
  xf_TooMany : XfC K C_TooMany
  is_TooMany : ExcC K C_TooMany
  f_TooMany___init__ : Addr
  d_TooMany___init__ : FuncData
  F_TooMany___init__ : Fun K "__init__" "TooMany.__init__" s_TooMany___init__ f_TooMany___init__ d_TooMany___init__
  b_TooMany___init__ : Binds K d_TooMany___init__ ["self", "count"] []
  iC_TooMany : PySem.W.findIn K (.ref C_TooMany) "__init__" = some (some (.ref f_TooMany___init__))
  tI_TooMany : PySem.W.typeIn K (.ref f_TooMany___init__) = some (.type "function")
  nf_TooMany_count : PySem.W.findIn K (.ref C_TooMany) "count" = some none
  C_TwiceMarked : Addr
  g_TwiceMarked : mg "TwiceMarked" = some (.ref C_TwiceMarked)
  hd_TwiceMarked : PySem.W.hasDictIn K C_TwiceMarked = true
  ty_TwiceMarked : PySem.W.typeIn K (.ref C_TwiceMarked) = some (.type "type")
  be_TwiceMarked : PySem.W.subIn K (.ref C_TwiceMarked) (.type "BaseException") = some true
  vb_TwiceMarked : PySem.W.subIn K (.ref C_TwiceMarked) (.type "ValueError") = some true
  ox_TwiceMarked : OexC K C_TwiceMarked
  xf_TwiceMarked : XfC K C_TwiceMarked
  is_TwiceMarked : ExcC K C_TwiceMarked
  f_TwiceMarked___init__ : Addr
  d_TwiceMarked___init__ : FuncData
  F_TwiceMarked___init__ : Fun K "__init__" "TwiceMarked.__init__" s_TwiceMarked___init__ f_TwiceMarked___init__ d_TwiceMarked___init__
  b_TwiceMarked___init__ : Binds K d_TwiceMarked___init__ ["self", "mark"] []
  iC_TwiceMarked : PySem.W.findIn K (.ref C_TwiceMarked) "__init__" = some (some (.ref f_TwiceMarked___init__))
  tI_TwiceMarked : PySem.W.typeIn K (.ref f_TwiceMarked___init__) = some (.type "function")
  nf_TwiceMarked_mark : PySem.W.findIn K (.ref C_TwiceMarked) "mark" = some none
  C_NoNode : Addr
  g_NoNode : mg "NoNode" = some (.ref C_NoNode)
  hd_NoNode : PySem.W.hasDictIn K C_NoNode = true
  ty_NoNode : PySem.W.typeIn K (.ref C_NoNode) = some (.type "type")
  be_NoNode : PySem.W.subIn K (.ref C_NoNode) (.type "BaseException") = some true
  vb_NoNode : PySem.W.subIn K (.ref C_NoNode) (.type "ValueError") = some true
  ox_NoNode : OexC K C_NoNode
  xf_NoNode : XfC K C_NoNode
  is_NoNode : ExcC K C_NoNode
  f_NoNode___init__ : Addr
  d_NoNode___init__ : FuncData
  F_NoNode___init__ : Fun K "__init__" "NoNode.__init__" s_NoNode___init__ f_NoNode___init__ d_NoNode___init__
  b_NoNode___init__ : Binds K d_NoNode___init__ ["self", "mark"] []
  iC_NoNode : PySem.W.findIn K (.ref C_NoNode) "__init__" = some (some (.ref f_NoNode___init__))
  tI_NoNode : PySem.W.typeIn K (.ref f_NoNode___init__) = some (.type "function")
  nf_NoNode_mark : PySem.W.findIn K (.ref C_NoNode) "mark" = some none
  ne_TooMany_ScreenError : C_TooMany ≠ C_ScreenError
  s_TooMany_ScreenError : PySem.W.subIn K (.ref C_TooMany) (.ref C_ScreenError) = some true
  ne_TooMany_TwiceMarked : C_TooMany ≠ C_TwiceMarked
  s_TooMany_TwiceMarked : PySem.W.subIn K (.ref C_TooMany) (.ref C_TwiceMarked) = some false
  ne_TooMany_NoNode : C_TooMany ≠ C_NoNode
  s_TooMany_NoNode : PySem.W.subIn K (.ref C_TooMany) (.ref C_NoNode) = some false
  ne_TwiceMarked_ScreenError : C_TwiceMarked ≠ C_ScreenError
  s_TwiceMarked_ScreenError : PySem.W.subIn K (.ref C_TwiceMarked) (.ref C_ScreenError) = some true
  ne_TwiceMarked_TooMany : C_TwiceMarked ≠ C_TooMany
  s_TwiceMarked_TooMany : PySem.W.subIn K (.ref C_TwiceMarked) (.ref C_TooMany) = some false
  ne_TwiceMarked_NoNode : C_TwiceMarked ≠ C_NoNode
  s_TwiceMarked_NoNode : PySem.W.subIn K (.ref C_TwiceMarked) (.ref C_NoNode) = some false
  ne_NoNode_ScreenError : C_NoNode ≠ C_ScreenError
  s_NoNode_ScreenError : PySem.W.subIn K (.ref C_NoNode) (.ref C_ScreenError) = some true
  ne_NoNode_TooMany : C_NoNode ≠ C_TooMany
  s_NoNode_TooMany : PySem.W.subIn K (.ref C_NoNode) (.ref C_TooMany) = some false
  ne_NoNode_TwiceMarked : C_NoNode ≠ C_TwiceMarked
  s_NoNode_TwiceMarked : PySem.W.subIn K (.ref C_NoNode) (.ref C_TwiceMarked) = some false
  m_ValueError : mg "ValueError" = none
  m_abs : mg "abs" = none
  m_enumerate : mg "enumerate" = none
  m_int : mg "int" = none
  m_isinstance : mg "isinstance" = none
  m_iter : mg "iter" = none
  m_len : mg "len" = none
  m_max : mg "max" = none
  m_range : mg "range" = none
  m_set : mg "set" = none
  m_str : mg "str" = none
  m_sum : mg "sum" = none
  m_tuple : mg "tuple" = none
  t_MOST_NODES : Tok
  c_MOST_NODES : mg "MOST_NODES" = some (.int 400 t_MOST_NODES)
section
variable {P : Program} {w : World} {K : PySem.W.Frag} {mg : Str → Option Value} {base : Heap}
def sp_mixed : Sp := fun vs H Q _ => ∃ a t : Int, vs = [.int a, .int t] ∧ ∀ w : Int, 0 ≤ w → Q (.int w) H
theorem ok_mixed (T : Txt K mg) : FnOk P w K mg base CX0 1 T.f__law_mixed T.d__law_mixed ["_law_number", "_law_turn"] sp_mixed := by
  refine T.F__law_mixed.ok sc__law_mixed (fun vs H Q E h => ?_) (fun cdv A outer s H vs Q E hr h => ?_)
  · obtain ⟨a, t, rfl, _⟩ := h
    rfl
  · obtain ⟨a, t, rfl, q⟩ := h
    refine ⟨_, (pss_cons (ps_set (i := 2) sc__law_mixed.nd rfl (Or.inl rfl) (pe_op op_mod (pe_callTy call_int1 (by rfl) T.m_int (by decide +kernel) (pa_cons (pe_op op_add (pe_op op_mul (pe_op op_add (pv 0) pe_int) pe_int) (pe_op op_mul (pe_op op_add (pv 1) pe_int) pe_int)) pa_nil)) pe_int))
      (pss_cons (ps_set (i := 3) sc__law_mixed.nd rfl (Or.inl rfl) (pe_op op_mod (pe_callTy call_int1 (by rfl) T.m_int (by decide +kernel) (pa_cons (pe_op op_add (pe_op op_add (pe_op op_mul (pv 2) (pv 2)) (pe_op op_mul (pv 2) pe_int)) (pe_op op_mul (pe_op op_add (pv 1) pe_int) pe_int)) pa_nil)) pe_int))
      (pss_one (ps_ret (pe_op op_mod (pe_callTy call_int1 (by rfl) T.m_int (by decide +kernel) (pa_cons (pe_op op_add (pe_op op_add (pe_op op_fdiv (pv 3) pe_int) (pe_op op_mul (pv 3) pe_int)) (pv 1)) pa_nil)) pe_int))))), ?_⟩
    walk_at "g"
    have h0 := Int.emod_nonneg ((a + 1) * 48271 + (t + 1) * 1103515245) (by decide : (2147483647 : Int) ≠ 0)
    have h1 := Int.emod_lt_of_pos ((a + 1) * 48271 + (t + 1) * 1103515245) (by decide : (0 : Int) < 2147483647)
    refine ⟨Or.inr ⟨by omega, by omega⟩, ?_⟩
    walk_at "g"
    refine q _ (Int.emod_nonneg _ (by decide))
/-- the bag is made -/
def sp_bag (K : PySem.W.Frag) : Sp := fun vs H Q _ => ∃ (a : Addr) (ns : List Int), vs = [.ref a] ∧ SqL K H a (ns.map V.int) ∧ ns.length ≤ 63 ∧
  ∀ b H', Same H H' → H b = none → Bag K (one b) H' b → Q (.ref b) H'
theorem ok_bag (T : Txt K mg) : FnOk P w K mg base CX0 1 T.f__law_bag T.d__law_bag ["_law_script"] (sp_bag K) := by
  refine T.F__law_bag.ok sc__law_bag (fun vs H Q E h => ?_) (fun cdv A outer s H vs Q E hr h => ?_)
  · obtain ⟨a, t, rfl, _⟩ := h
    rfl
  · obtain ⟨a, ns, rfl, hS, hlen, q⟩ := h
    refine ⟨_, (pss_cons (ps_setLc (i := 2) (own := [("_law_cell", 1)]) (g := gName 1) (tt := tYes) (by rfl) sc__law_bag.nd rfl rfl (sw_true rfl rfl rfl (by decide +kernel)) (pi_listK (K := K) rfl (pv 0)) (blkOk_by (own := [("_law_cell", 1)]) (N := ["_law_script", "_law_cell", "_law_numbers", "_law_seed", "_law_at"]) (sc := defScope s__law_bag) (by decide +kernel)) (fun _ _ _ _ _ => (pg_name (i := 1) sc__law_bag.nd rfl (Or.inl rfl))) (fun _ _ _ _ _ => pts_nil) (fun _ _ _ _ _ => (pe_callTy call_int1 (by rfl) T.m_int (by decide +kernel) (pa_cons (pv 1) pa_nil))))
      (pss_cons (ps_set (i := 3) sc__law_bag.nd rfl (Or.inl rfl) (pe_callB (call_lenK (K := K) rfl) (by rfl) T.m_len PySem.boot_len (pa_cons (pv 2) pa_nil)))
      (pss_cons (ps_for PassesOwn.never rfl (pi_enumK (K := K) rfl (by rfl) T.m_enumerate (pa_cons (pe_slice (sl_listK (K := K) rfl) (pv 2) po_none (po_some pe_int)) pa_nil)) (pg_tupK (K := K) rfl rfl (pgs_cons (pg_name (i := 4) sc__law_bag.nd rfl (Or.inl rfl)) (pgs_cons (pg_name (i := 1) sc__law_bag.nd rfl (Or.inl rfl)) pgs_nil))) (pss_one (ps_set (i := 3) sc__law_bag.nd rfl (Or.inl rfl) (pe_op op_mod (pe_callTy call_int1 (by rfl) T.m_int (by decide +kernel) (pa_cons (pe_op op_add (pe_op op_add (pe_op op_mul (pv 3) pe_int) (pe_op op_mod (pe_callTy call_int1 (by rfl) T.m_int (by decide +kernel) (pa_cons (pe_callB call_abs (by rfl) T.m_abs (by decide +kernel) (pa_cons (pv 1) pa_nil)) pa_nil)) pe_int)) (pe_op op_mul_ib (pe_op op_add (pv 4) pe_int) (pe_cmpR op_lt (pv 1) pe_int (nomark _)))) pa_nil)) pe_int))))
      (pss_one (ps_ret (pe_lst (pa_cons (pv 2) (pa_cons pe_int (pa_cons pe_int (pa_cons pe_int (pa_cons (pv 3) pa_nil))))))))))), ?_⟩
    refine ⟨.ref a, rfl, a, rfl, ⟨_, hS⟩, fun n hn => ?_⟩
    refine lc_list (K := K) (a := a) (xs := ns.map V.int) (fun i H' => Same H H' ∧ H' n = some (.lst ((ns.take i).map V.int))) ⟨same_new hn, by rw [upd_same]; rfl⟩ (fun i H' _ h => h.1.seq hS) (fun i x H' hx h => ?_) (fun H' h => ?_)
    · rw [List.getElem?_map] at hx
      obtain ⟨z, hz, rfl⟩ := Option.map_eq_some_iff.mp hx
      refine ⟨rfl, ?_⟩
      refine ⟨_, rfl, ?_⟩
      refine Or.inl ⟨_, rfl, ?_⟩
      refine ⟨_, h.2, ?_, fun b o e => ?_, ?_⟩
      · rw [List.length_map, List.length_take]
        exact small1000 (by omega)
      · rw [upd_ne (ne_of_none e hn)]
        exact h.1 b o e
      · rw [upd_same, List.take_add_one, hz, List.map_append]
        rfl
    · have h2 : H' n = some (.lst (ns.map V.int)) := by
        have e := h.2
        rwa [List.length_map, List.take_length] at e
      refine ⟨_, rfl, n, _, rfl, .inl (SqL.of h2), ?_⟩
      refine ⟨_, rfl, 63, rfl, n, _, rfl, SqL.of h2, fun c hc => ?_⟩
      have hcut : cutV (ns.map V.int) none (some 63) = ns.map V.int := by
        unfold cutV
        rw [show HT.sIx (ns.map V.int).length 0 none = 0 from HT.sIx_none .., show HT.sIx (ns.map V.int).length (ns.map V.int).length (some 63) = min 63 (ns.map V.int).length from HT.sIx_nat _ _ 63, List.drop_zero, Nat.sub_zero]
        rw [List.length_map, Nat.min_eq_right hlen]
        exact List.take_of_length_le (by rw [List.length_map]; exact Nat.le_refl _)
      rw [hcut]
      have hn' : n ≠ c := ne_of_none h2 hc
      refine ⟨c, _, rfl, SqL.of upd_same, ?_⟩
      refine for_enum (a := c) (xs := ns.map V.int) (fun i σ H2 => (∃ y1 z y4, σ = [some (.ref a), y1, some (.ref n), some (.int z), y4]) ∧ Same H H2 ∧ H2 n = some (.lst (ns.map V.int)) ∧ H2 c = some (.lst (ns.map V.int))) ⟨⟨_, _, _, rfl⟩, fun b o e => ?_, ?_, ?_⟩ (fun i σ H2 _ p => SqL.of p.2.2.2) (fun i x T σ H2 hx hT p => ?_) (fun σ H2 p => ?_)
      · rw [upd_ne (fun z => ?_)]
        · exact h.1 b o e
        · subst z
          rw [h.1 b o e] at hc
          cases hc
      · rw [upd_ne hn']
        exact h2
      · exact upd_same
      · obtain ⟨⟨y1, z, y4, rfl⟩, hs, e2, e3⟩ := p
        rw [List.getElem?_map] at hx
        obtain ⟨v, hv, rfl⟩ := Option.map_eq_some_iff.mp hx
        refine ⟨T, _, rfl, SqT.of upd_same, rfl, _, _, rfl, _, _, rfl, rfl, ?_⟩
        walk_at "g"
        have nT : n ≠ T := ne_of_none e2 hT
        have cT : c ≠ T := ne_of_none e3 hT
        refine ⟨⟨_, _, _, rfl⟩, fun b o e => same_new hT b o (hs b o e), ?_, ?_⟩
        · rw [upd_ne nT]
          exact e2
        · rw [upd_ne cT]
          exact e3
      · obtain ⟨⟨y1, z, y4, rfl⟩, hs, e2, e3⟩ := p
        refine ⟨_, rfl, _, rfl, (by show 5 ≤ sizeLine; decide), fun b hb => ?_⟩
        refine q b _ (fun x o e => same_new hb x o (hs x o e)) (hs.free hb) ⟨rfl, n, ns, 0, 0, 0, z, upd_same, fun e => ?_, .inl ?_, by decide, by decide⟩
        · exact ne_of_none e2 hb e
        · rw [upd_ne (ne_of_none e2 hb)]
          exact e2
/-- a number is drawn -/
def sp_pick (K : PySem.W.Frag) : Sp := fun vs H Q _ => ∃ (b : Addr) (m : Int) (M : Ms), vs = [.ref b, .int m] ∧ Bag K M H b ∧ 0 < m ∧ m < 1073741824 ∧
  ∀ (w : Int) (H' : Hp), 0 ≤ w → w < m → At b H H' → Bag K M H' b → Q (.int w) H'
theorem At.bag {M : Ms} {H H' : Hp} {b n : Addr} {ns : List Int} {p r t s : Int} (w : M b) (hn : ¬ M n) (rd : Rd H n (.lst (ns.map V.int))) (h : At b H H') (e : H' b = some (.lst [.ref n, .int p, .int r, .int t, .int s])) (hp : 0 ≤ p) (hr : 0 ≤ r) : Bag K M H' b :=
  ⟨w, n, ns, p, r, t, s, e, hn, sx_rd h.sx (fun z => hn (by rw [show n = b from z]; exact w)) rd, hp, hr⟩
theorem At.trans {H H1 H2 : Hp} {b : Addr} (h : At b H H1) (h' : At b H1 H2) : At b H H2 := fun a n => (h' a n).trans (h a n)
theorem ok_pick (T : Txt K mg) : FnOk P w K mg base CX0 2 T.f__law_pick T.d__law_pick ["_law_bag_here", "_law_many"] (sp_pick K) := by
  have G__law_mixed := ok_mixed (P := P) (w := w) (base := base) T
  refine T.F__law_pick.ok sc__law_pick (fun vs H Q E h => ?_) (fun cdv A outer s H vs Q E hr h => ?_)
  · obtain ⟨_, _, _, rfl, _⟩ := h
    rfl
  · obtain ⟨b, m, M, rfl, ⟨wb, n, ns, p, r, t, sd, hb, hn, rd, hp, hr0⟩, hm, hm2, q⟩ := h
    refine ⟨_, (pss_cons (ps_set (i := 2) sc__law_pick.nd rfl (Or.inl rfl) (pe_ix (ix_listK (K := K) rfl) (pv 0) pe_int (fun _ _ => rfl)))
      (pss_cons (ps_asg (pe_op op_add (pv 2) pe_int) (pg_sub (pv 0) pe_int set_list))
      (pss_cons (ps_if (pt_cmpR op_gt (pe_ix (ix_listK (K := K) rfl) (pv 0) pe_int (fun _ _ => rfl)) pe_int (nomark _)) (pss_cons (ps_set (i := 3) sc__law_pick.nd rfl (Or.inl rfl) (pe_op op_mod (pe_callTy call_int1 (by rfl) T.m_int (by decide +kernel) (pa_cons (pe_ix (ix_listK (K := K) rfl) (pv 0) pe_int (fun _ _ => rfl)) pa_nil)) (pv 1)))
      (pss_cons (ps_asg (pe_op op_fdiv (pe_ix (ix_listK (K := K) rfl) (pv 0) pe_int (fun _ _ => rfl)) (pv 1)) (pg_sub (pv 0) pe_int set_list))
      (pss_one (ps_ret (pv 3))))) pss_nil)
      (pss_cons (ps_if (pt_cmpR op_lt (pe_ix (ix_listK (K := K) rfl) (pv 0) pe_int (fun _ _ => rfl)) (pe_callB (call_lenK (K := K) rfl) (by rfl) T.m_len PySem.boot_len (pa_cons (pe_ix (ix_listK (K := K) rfl) (pv 0) pe_int (fun _ _ => rfl)) pa_nil)) (nomark _)) (pss_cons (ps_set (i := 4) sc__law_pick.nd rfl (Or.inl rfl) (pe_ix (ix_listK (K := K) rfl) (pe_ix (ix_listK (K := K) rfl) (pv 0) pe_int (fun _ _ => rfl)) (pe_ix (ix_listK (K := K) rfl) (pv 0) pe_int (fun _ _ => rfl)) (fun _ _ => rfl)))
      (pss_cons (ps_asg (pe_op op_add (pe_ix (ix_listK (K := K) rfl) (pv 0) pe_int (fun _ _ => rfl)) pe_int) (pg_sub (pv 0) pe_int set_list))
      (pss_cons (ps_set (i := 5) sc__law_pick.nd rfl (Or.inl rfl) (pe_callB call_abs (by rfl) T.m_abs (by decide +kernel) (pa_cons (pv 4) pa_nil)))
      (pss_cons (ps_if (pt_cmpR op_ge (pv 5) (pe_op op_pow pe_int pe_int) (nomark _)) (pss_cons (ps_asg (pe_op op_fdiv (pv 5) (pv 1)) (pg_sub (pv 0) pe_int set_list))
      (pss_one (ps_ret (pe_op op_mod (pe_callTy call_int1 (by rfl) T.m_int (by decide +kernel) (pa_cons (pv 5) pa_nil)) (pv 1))))) pss_nil)
      (pss_one (ps_ret (pe_op op_mod (pe_callTy call_int1 (by rfl) T.m_int (by decide +kernel) (pa_cons (pe_call G__law_mixed (hr.mono (by omega)) (by rfl) T.g__law_mixed T.F__law_mixed.kp T.b__law_mixed .nil pass0 (pa_cons (pe_op op_add_ib (pe_op op_add (pv 5) (pv 5)) (pe_cmpR op_lt (pv 4) pe_int (nomark _))) (pa_cons (pv 2) pa_nil))) pa_nil)) (pv 1)))))))) pss_nil)
      (pss_one (ps_ret (pe_op op_mod (pe_callTy call_int1 (by rfl) T.m_int (by decide +kernel) (pa_cons (pe_call G__law_mixed (hr.mono (by omega)) (by rfl) T.g__law_mixed T.F__law_mixed.kp T.b__law_mixed .nil pass0 (pa_cons (pe_ix (ix_listK (K := K) rfl) (pv 0) pe_int (fun _ _ => rfl)) (pa_cons (pv 2) pa_nil))) pa_nil)) (pv 1)))))))), ?_⟩
    -- turn
    walk_at "g"
    walk_at "set"
    generalize e1 : upd H b _ = H1
    have a1 : At b H H1 := by rw [← e1]; exact At.upd
    have b1 : H1 b = some (.lst [.ref n, .int p, .int r, .int (t + 1), .int sd]) := by rw [← e1, upd_same]; rfl
    have rd1 : Rd H1 n (.lst (ns.map V.int)) := sx_rd a1.sx (fun z => hn (by rw [show n = b from z]; exact wb)) rd
    clear e1
    walk_at "g"
    walk_at "if"
    · walk_at "g"
      refine ⟨hm, ?_⟩
      walk_at "g"
      refine ⟨⟨hm, hm2⟩, ?_⟩
      walk_at "g"
      walk_at "set"
      walk_at "g"
      refine q _ _ (Int.emod_nonneg _ (by omega)) (Int.emod_lt_of_pos _ hm) (a1.trans At.upd) ((a1.trans At.upd).bag wb hn rd upd_same hp ?_)
      exact Int.ediv_nonneg hr0 (by omega)
    · walk_at "g"
      walk_at "if"
      · rename_i ep
        have ep' : p < ((ns.map V.int).length : Int) := of_decide_eq_true ep
        obtain ⟨j, rfl⟩ : ∃ j : Nat, p = (j : Int) := ⟨p.toNat, by omega⟩
        have hj : j < ns.length := by
          rw [List.length_map] at ep'
          omega
        have hcell : (ns.map V.int)[j]? = some (.int ns[j]) := by
          rw [List.getElem?_map, List.getElem?_eq_getElem hj]
          rfl
        walk_at "g"
        refine ⟨n, _, _, _, rfl, rfl, Or.inl rd1, atI_nat hcell, ?_⟩
        walk_at "g"
        walk_at "set"
        generalize e2 : upd H1 b _ = H2
        have a2 : At b H H2 := by rw [← e2]; exact a1.trans At.upd
        have b2 : H2 b = some (.lst [.ref n, .int ((j : Int) + 1), .int r, .int (t + 1), .int sd]) := by rw [← e2, upd_same]; rfl
        clear e2
        generalize ns[j] = c
        walk_at "g"
        walk_at "if"
        · walk_at "g"
          refine ⟨⟨hm, hm2⟩, ?_⟩
          walk_at "g"
          walk_at "set"
          walk_at "g"
          refine ⟨hm, ?_⟩
          refine q _ _ (Int.emod_nonneg _ (by omega)) (Int.emod_lt_of_pos _ hm) (a2.trans At.upd) ((a2.trans At.upd).bag wb hn rd upd_same (by omega) ?_)
          exact Int.ediv_nonneg (by split <;> omega) (by omega)
        · walk_at "g"
          refine ⟨_, _, rfl, fun z hz => ?_⟩
          walk_at "g"
          refine ⟨hm, ?_⟩
          exact q _ _ (Int.emod_nonneg _ (by omega)) (Int.emod_lt_of_pos _ hm) a2 (a2.bag wb hn rd b2 (by omega) hr0)
      · walk_at "g"
        refine ⟨_, _, rfl, fun z hz => ?_⟩
        walk_at "g"
        refine ⟨hm, ?_⟩
        exact q _ _ (Int.emod_nonneg _ (by omega)) (Int.emod_lt_of_pos _ hm) a1 (a1.bag wb hn rd b1 hp hr0)
/-- one thing of a list is chosen -/
def sp_choice (K : PySem.W.Frag) : Sp := fun vs H Q _ => ∃ (b a : Addr) (xs : List V) (M : Ms), vs = [.ref b, .ref a] ∧ Bag K M H b ∧ SqL K H a xs ∧ a ≠ b ∧ 0 < xs.length ∧ xs.length < 1000000 ∧
  ∀ (v : V) (H' : Hp), v ∈ xs → At b H H' → Bag K M H' b → Q v H'
theorem at_pos {α : Type} {xs : List α} {w : Int} (h0 : 0 ≤ w) (h1 : w < (xs.length : Int)) : ∃ v, atI xs w = some v ∧ v ∈ xs ∧ xs[w.toNat]? = some v := by
  obtain ⟨j, rfl⟩ : ∃ j : Nat, w = (j : Int) := ⟨w.toNat, by omega⟩
  have hj : j < xs.length := by omega
  exact ⟨xs[j], atI_nat (List.getElem?_eq_getElem hj), List.getElem_mem hj, List.getElem?_eq_getElem hj⟩
theorem ok_choice (T : Txt K mg) : FnOk P w K mg base CX0 3 T.f__law_choice T.d__law_choice ["_law_bag_here", "_law_things"] (sp_choice K) := by
  have G__law_pick := ok_pick (P := P) (w := w) (base := base) T
  refine T.F__law_choice.ok sc__law_choice (fun vs H Q E h => ?_) (fun cdv A outer s H vs Q E hr h => ?_)
  · obtain ⟨_, _, _, _, rfl, _⟩ := h
    rfl
  · obtain ⟨b, a, xs, M, rfl, hB, hS, hab, hl, hl2, q⟩ := h
    refine ⟨_, (pss_one (ps_ret (pe_ix (ix_listK (K := K) rfl) (pv 1) (pe_call G__law_pick (hr.mono (by omega)) (by rfl) T.g__law_pick T.F__law_pick.kp T.b__law_pick .nil pass0 (pa_cons (pv 0) (pa_cons (pe_callB (call_lenK (K := K) rfl) (by rfl) T.m_len PySem.boot_len (pa_cons (pv 1) pa_nil)) pa_nil))) (fun _ _ => rfl)))), ?_⟩
    walk_at "g"
    refine ⟨b, _, M, rfl, hB, by omega, by omega, fun w H' h0 h1 hA hB' => ?_⟩
    have hS' := sx_l hA.sx (fun z : a = b => hab z) hS
    obtain ⟨v, hv, hm, _⟩ := at_pos h0 h1
    exact ⟨_, _, _, _, rfl, rfl, hS', hv, q v H' hm hA hB'⟩
end
end D

namespace D
open PySem PySem.Spec PyProof.Rows L2
local macro_rules | `(tactic| walk_at "st") => `(tactic| first | exact SqT.of (by assumption) | exact Or.inl (by assumption) | exact SqT.of upd_same | fail "st")
local macro_rules | `(tactic| walk_at "ixt") => `(tactic| refine ⟨_, _, _, _, rfl, rfl, (by walk_at "st" : SqT _ _ _ _), by rfl, ?_⟩)
local macro_rules | `(tactic| walk_at "sq") => `(tactic| first | exact SqL.of (by assumption) | assumption | exact Or.inl (by assumption) | exact SqL.of upd_same | fail "sq")
local macro_rules | `(tactic| walk_at "ix") => `(tactic| refine ⟨_, _, _, _, rfl, rfl, (by walk_at "sq" : SqL _ _ _ _), by rfl, ?_⟩)
local macro_rules | `(tactic| walk_at "set") => `(tactic| refine ⟨_, _, _, _, rfl, rfl, by first | assumption | exact upd_same, by rfl, ?_⟩)
local macro_rules | `(tactic| walk_at "len") => `(tactic| refine ⟨_, _, rfl, Or.inl (by walk_at "sq" : SqL _ _ _ _), ?_⟩)
local macro_rules | `(tactic| walk_at "g") => `(tactic| repeat (first | refine ⟨_, rfl, ?_⟩ | refine ⟨_, _, rfl, rfl, ?_⟩ | refine ⟨Or.inr (by decide), ?_⟩ | refine ⟨Or.inl (by decide), ?_⟩ | refine ⟨(by decide : (0 : Int) < _), ?_⟩ | refine ⟨(⟨by decide, by decide⟩ : CDiv _ _), ?_⟩ | refine ⟨(⟨by decide, by decide, by decide⟩ : CPow _ _), ?_⟩ | refine Or.inl ⟨_, rfl, ?_⟩ | refine ⟨rfl, ?_⟩ | walk_at "ix" | walk_at "ixt" | walk_at "len" | fail "g"))
local macro_rules | `(tactic| walk_at "if") => `(tactic| refine ite2 (fun e => ?_) (fun e => ?_))
section
variable {P : Program} {w : World} {K : PySem.W.Frag} {mg : Str → Option Value} {base : Heap}
/-- a text of plain signs is drawn -/
def DrA (K : PySem.W.Frag) (M : Ms) (b : Addr) (H : Hp) (n : Nat) (Q : VK) : Prop := ∀ (z : Str) (H' : Hp), z.length ≤ n → asc z → At b H H' → Bag K M H' b → Q (.str z) H'
def sp_text (K : PySem.W.Frag) : Sp := fun vs H Q _ => ∃ (b : Addr) (lo hi : Nat) (M : Ms), vs = [.ref b, .int lo, .int hi] ∧ Bag K M H b ∧ lo ≤ hi ∧ hi ≤ 1000 ∧ DrA K M b H hi Q
theorem ok_text (T : Txt K mg) : FnOk P w K mg base CX0 3 T.f__law_text T.d__law_text ["_law_bag_here", "_law_least", "_law_most"] (sp_text K) := by
  have G__law_pick := ok_pick (P := P) (w := w) (base := base) T
  refine T.F__law_text.ok sc__law_text (fun vs H Q E h => ?_) (fun cdv A outer s H vs Q E hr h => ?_)
  · obtain ⟨_, _, _, _, rfl, _⟩ := h
    rfl
  · obtain ⟨b, lo, hi, M, rfl, hB, h1, h2, q⟩ := h
    refine ⟨_, (pss_cons (ps_set (i := 3) sc__law_text.nd rfl (Or.inl rfl) pe_str)
      (pss_cons (ps_set (i := 3) sc__law_text.nd rfl (Or.inl rfl) (pe_op op_add_str (pv 3) pe_str))
      (pss_cons (ps_set (i := 4) sc__law_text.nd rfl (Or.inl rfl) pe_str)
      (pss_cons (ps_for PassesOwn.never rfl (pi_range1 (by rfl) T.m_range (pa_cons (pe_op op_add (pv 1) (pe_call G__law_pick (hr.mono (by omega)) (by rfl) T.g__law_pick T.F__law_pick.kp T.b__law_pick .nil pass0 (pa_cons (pv 0) (pa_cons (pe_op op_add (pe_op op_sub (pv 2) (pv 1)) pe_int) pa_nil)))) pa_nil)) (pg_name (i := 5) sc__law_text.nd rfl (Or.inl rfl)) (pss_one (ps_set (i := 4) sc__law_text.nd rfl (Or.inl rfl) (pe_op op_add_str (pv 4) (pe_ix ix_str (pv 3) (pe_call G__law_pick (hr.mono (by omega)) (by rfl) T.g__law_pick T.F__law_pick.kp T.b__law_pick .nil pass0 (pa_cons (pv 0) (pa_cons (pe_callB call_len_str (by rfl) T.m_len PySem.boot_len (pa_cons (pv 3) pa_nil)) pa_nil))) (fun _ _ => rfl))))))
      (pss_one (ps_ret (pv 4))))))), ?_⟩
    walk_at "g"
    refine ⟨by decide +kernel, ?_⟩
    generalize hz : (_ ++ _ : Str) = z
    have lz : z.length = 94 := by rw [← hz]; decide +kernel
    have az : ∀ c ∈ z.cps.toList, c < 128 := by
      rw [← hz]
      intro c hc
      have : (((Str.ofString " !\"#$&'()*+,-./0123456789:;<=>?@ABCDEFGHIJKLMNOPQRSTUVWXYZ[\\]^_`" ++ Str.ofString "abcdefghijklmnopqrstuvwxyz{|}~" : Str).cps.toList).all fun c => decide (c < 128)) = true := by decide +kernel
      exact of_decide_eq_true (List.all_eq_true.mp this c hc)
    clear hz
    walk_at "g"
    refine ⟨b, _, M, rfl, hB, by omega, by omega, fun w H1 h3 h4 hA hB1 => ?_⟩
    walk_at "g"
    refine ⟨by omega, by omega, ?_⟩
    refine for_range (lo := 0) (n := ((lo : Int) + w).toNat) (fun i σ H2 => ∃ (u : Str) (y5 : Option V), σ = [some (.ref b), some (.int lo), some (.int hi), some (.str z), some (.str u), y5] ∧ u.length = i ∧ asc u ∧ At b H H2 ∧ Bag K M H2 b) ?_ (fun i σ H2 hi p => ?_) (fun σ H2 p => ?_)
    · exact ⟨_, _, rfl, rfl, (fun c hc => nomatch hc), hA, hB1⟩
    · obtain ⟨u, y5, rfl, hu, au, hA2, hB2⟩ := p
      walk_at "g"
      refine ⟨by rw [lz]; decide, ?_⟩
      refine ⟨b, _, M, rfl, hB2, by rw [lz]; decide, by rw [lz]; decide, fun v H3 h5 h6 hA3 hB3 => ?_⟩
      rw [lz] at h6
      obtain ⟨c, hc, hm, _⟩ := at_pos (xs := z.cps.toList) h5 (by rw [show z.cps.toList.length = z.length from Array.length_toList, lz]; exact h6)
      refine ⟨z, v, c, rfl, rfl, by rw [lz]; decide, hc, ?_⟩
      refine ⟨u, _, rfl, rfl, ?_, ?_⟩
      · show u.length + 1 ≤ sizeLine
        exact small1000 (by omega)
      · refine ⟨_, _, rfl, ?_, asc_app au (fun d hd => ?_), hA2.trans hA3, hB3⟩
        · rw [str_len, hu]
          rfl
        · rw [List.mem_singleton.mp (show d ∈ [c] from hd)]
          exact az c hm
    · obtain ⟨u, y5, rfl, hu, au, hA2, hB2⟩ := p
      walk_at "g"
      exact q u H2 (by omega) au hA2 hB2
theorem dig_asc {v : Int} (h0 : 0 ≤ v) (h1 : v < 10) : asc (Str.ofString (toString v)) := by
  have h : v = 0 ∨ v = 1 ∨ v = 2 ∨ v = 3 ∨ v = 4 ∨ v = 5 ∨ v = 6 ∨ v = 7 ∨ v = 8 ∨ v = 9 := by omega
  unfold asc
  rcases h with rfl | rfl | rfl | rfl | rfl | rfl | rfl | rfl | rfl | rfl <;> decide +kernel
def isLabA : V → Bool
  | .str z => decide (z.length ≤ 30) && z.cps.toList.all fun c => decide (c < 128)
  | _ => false
theorem labA_all (xs : List V) (h : xs.all isLabA = true) : ∀ v ∈ xs, ∃ z : Str, v = V.str z ∧ z.length ≤ 30 ∧ asc z := fun v hv => by
  have h1 := List.all_eq_true.mp h v hv
  cases v with
  | str z =>
    have h2 : (decide (z.length ≤ 30) && z.cps.toList.all fun c => decide (c < 128)) = true := h1
    rw [Bool.and_eq_true] at h2
    exact ⟨z, rfl, of_decide_eq_true h2.1, fun c hc => of_decide_eq_true (List.all_eq_true.mp h2.2 c hc)⟩
  | _ => cases h1
theorem asc_of (z : Str) (h : (z.cps.toList.all fun c => decide (c < 128)) = true) : asc z := fun c hc => of_decide_eq_true (List.all_eq_true.mp h c hc)
def sp_label (K : PySem.W.Frag) : Sp := fun vs H Q _ => ∃ (b : Addr) (M : Ms), vs = [.ref b] ∧ Bag K M H b ∧ ∀ (z : Str) (H' : Hp), z.length ≤ 30 → asc z → Sx (one b) H H' → Gr H H' → Bag K M H' b → Q (.str z) H'
theorem ok_label (T : Txt K mg) : FnOk P w K mg base CX0 4 T.f__law_label T.d__law_label ["_law_bag_here"] (sp_label K) := by
  have G__law_pick := ok_pick (P := P) (w := w) (base := base) T
  have G__law_choice := ok_choice (P := P) (w := w) (base := base) T
  have G__law_text := ok_text (P := P) (w := w) (base := base) T
  refine T.F__law_label.ok sc__law_label (fun vs H Q E h => ?_) (fun cdv A outer s H vs Q E hr h => ?_)
  · obtain ⟨_, _, rfl, _⟩ := h
    rfl
  · obtain ⟨b, M, rfl, hB, q⟩ := h
    refine ⟨_, (pss_cons (ps_set (i := 1) sc__law_label.nd rfl (Or.inl rfl) (pe_call G__law_pick (hr.mono (by omega)) (by rfl) T.g__law_pick T.F__law_pick.kp T.b__law_pick .nil pass0 (pa_cons (pv 0) (pa_cons pe_int pa_nil))))
      (pss_cons (ps_if (pt_cmpR op_lt (pv 1) pe_int (nomark _)) (pss_one (ps_ret pe_str)) pss_nil)
      (pss_cons (ps_if (pt_cmpR op_eq (pv 1) pe_int (nomark _)) (pss_one (ps_ret pe_str)) pss_nil)
      (pss_cons (ps_if (pt_cmpR op_lt (pv 1) pe_int (nomark _)) (pss_one (ps_ret (pe_op op_add_str pe_str (pe_callTy call_str_int (by rfl) T.m_str (by decide +kernel) (pa_cons (pe_call G__law_pick (hr.mono (by omega)) (by rfl) T.g__law_pick T.F__law_pick.kp T.b__law_pick .nil pass0 (pa_cons (pv 0) (pa_cons pe_int pa_nil))) pa_nil))))) pss_nil)
      (pss_cons (ps_if (pt_cmpR op_eq (pv 1) pe_int (nomark _)) (pss_one (ps_ret (pe_op op_add_str pe_str (pe_call G__law_text (hr.mono (by omega)) (by rfl) T.g__law_text T.F__law_text.kp T.b__law_text .nil pass0 (pa_cons (pv 0) (pa_cons pe_int (pa_cons pe_int pa_nil))))))) pss_nil)
      (pss_cons (ps_if (pt_cmpR op_eq (pv 1) pe_int (nomark _)) (pss_one (ps_ret (pe_call G__law_choice (hr.mono (by omega)) (by rfl) T.g__law_choice T.F__law_choice.kp T.b__law_choice .nil pass0 (pa_cons (pv 0) (pa_cons (pe_lst (pa_cons pe_str (pa_cons pe_str (pa_cons pe_str (pa_cons pe_str (pa_cons pe_str (pa_cons pe_str (pa_cons pe_str (pa_cons pe_str (pa_cons pe_str (pa_cons pe_str (pa_cons pe_str (pa_cons pe_str (pa_cons pe_str (pa_cons pe_str (pa_cons pe_str (pa_cons pe_str (pa_cons pe_str (pa_cons pe_str (pa_cons pe_str pa_nil)))))))))))))))))))) pa_nil))))) pss_nil)
      (pss_one (ps_ret (pe_call G__law_text (hr.mono (by omega)) (by rfl) T.g__law_text T.F__law_text.kp T.b__law_text .nil pass0 (pa_cons (pv 0) (pa_cons pe_int (pa_cons pe_int pa_nil)))))))))))), ?_⟩
    walk_at "g"
    refine ⟨b, _, M, rfl, hB, by omega, by omega, fun w H1 h3 h4 hA hB1 => ?_⟩
    have q1 : ∀ (z : Str) (H' : Hp), z.length ≤ 30 → asc z → Sx (one b) H1 H' → Gr H1 H' → Bag K M H' b → Q (.str z) H' := fun z H' h a s g => q z H' h a (hA.sx.trans s) ((hA.gr hB1.there).trans g)
    have q2 : ∀ (z : Str) (H' : Hp), z.length ≤ 30 → asc z → At b H1 H' → Bag K M H' b → Q (.str z) H' := fun z H' h c a hb => q1 z H' h c a.sx (a.gr hb.there) hb
    walk_at "g"
    walk_at "if"
    · walk_at "g"
      exact q1 _ _ (by decide +kernel) (asc_of _ (by decide +kernel)) Sx.refl Gr.refl hB1
    walk_at "g"
    walk_at "if"
    · walk_at "g"
      exact q1 _ _ (by decide +kernel) (asc_of _ (by decide +kernel)) Sx.refl Gr.refl hB1
    walk_at "g"
    walk_at "if"
    · walk_at "g"
      refine ⟨b, _, M, rfl, hB1, by omega, by omega, fun v H2 h5 h6 hA2 hB2 => ?_⟩
      walk_at "g"
      refine ⟨log2_10 h5 h6, ?_⟩
      have hd := dig_len h5 h6
      refine ⟨_, _, rfl, rfl, ?_, ?_⟩
      · refine Nat.le_of_lt (small1000 ?_)
        rw [hd]
        decide +kernel
      · refine q2 _ _ ?_ (asc_app (asc_of _ (by decide +kernel)) (dig_asc h5 h6)) hA2 hB2
        rw [str_len, hd]
        decide +kernel
    walk_at "g"
    walk_at "if"
    · walk_at "g"
      refine ⟨b, 0, 13, M, rfl, hB1, by decide, by decide, fun z H2 hz az hA2 hB2 => ?_⟩
      refine ⟨_, _, rfl, rfl, ?_, ?_⟩
      · refine Nat.le_of_lt (small1000 ?_)
        rw [show (Str.ofString "button ").length = 7 by decide +kernel]
        omega
      · refine q2 _ _ ?_ (asc_app (asc_of _ (by decide +kernel)) az) hA2 hB2
        rw [str_len, show (Str.ofString "button ").length = 7 by decide +kernel]
        omega
    walk_at "g"
    walk_at "if"
    · walk_at "g"
      refine ⟨by decide, fun p hp => ?_⟩
      have hpb : p ≠ b := fun z => hB1.there (by rw [← z]; exact hp)
      refine ⟨b, p, _, M, rfl, hB1.keep (N := fun _ => False) (Sx.new hp) (fun z => z) (fun _ z => z.elim), SqL.of upd_same, hpb, by decide, by decide, fun v H2 hv hA2 hB2 => ?_⟩
      obtain ⟨z, rfl, hz, az⟩ := labA_all _ (by decide +kernel) v hv
      exact q1 z H2 hz az ((Sx.new hp).trans hA2.sx) (Gr.upd.trans (hA2.gr hB2.there)) hB2
    walk_at "g"
    refine ⟨b, 1, 20, M, rfl, hB1, by decide, by decide, fun z H2 hz az hA2 hB2 => ?_⟩
    exact q2 z H2 (by omega) az hA2 hB2
end
end D

namespace D
open PySem PySem.Spec PyProof.Rows L2
local macro_rules | `(tactic| walk_at "st") => `(tactic| first | exact SqT.of (by assumption) | exact Or.inl (by assumption) | exact SqT.of upd_same | fail "st")
local macro_rules | `(tactic| walk_at "ixt") => `(tactic| refine ⟨_, _, _, _, rfl, rfl, (by walk_at "st" : SqT _ _ _ _), by rfl, ?_⟩)
local macro_rules | `(tactic| walk_at "sq") => `(tactic| first | exact SqL.of (by assumption) | assumption | exact Or.inl (by assumption) | exact SqL.of upd_same | fail "sq")
local macro_rules | `(tactic| walk_at "ix") => `(tactic| refine ⟨_, _, _, _, rfl, rfl, (by walk_at "sq" : SqL _ _ _ _), by rfl, ?_⟩)
local macro_rules | `(tactic| walk_at "set") => `(tactic| refine ⟨_, _, _, _, rfl, rfl, by first | assumption | exact upd_same, by rfl, ?_⟩)
local macro_rules | `(tactic| walk_at "len") => `(tactic| refine ⟨_, _, rfl, Or.inl (by walk_at "sq" : SqL _ _ _ _), ?_⟩)
local macro_rules | `(tactic| walk_at "g") => `(tactic| repeat (first | refine ⟨_, rfl, ?_⟩ | refine ⟨_, _, rfl, rfl, ?_⟩ | refine ⟨Or.inr (by decide), ?_⟩ | refine ⟨Or.inl (by decide), ?_⟩ | refine ⟨(by decide : (0 : Int) < _), ?_⟩ | refine ⟨(⟨by decide, by decide⟩ : CDiv _ _), ?_⟩ | refine ⟨(⟨by decide, by decide, by decide⟩ : CPow _ _), ?_⟩ | refine Or.inl ⟨_, rfl, ?_⟩ | refine ⟨rfl, ?_⟩ | walk_at "ix" | walk_at "ixt" | walk_at "len" | fail "g"))
local macro_rules | `(tactic| walk_at "if") => `(tactic| refine ite2 (fun e => ?_) (fun e => ?_))
section
variable {P : Program} {w : World} {K : PySem.W.Frag} {mg : Str → Option Value} {base : Heap}
def rdN (l : List Nat) : Nat := l.foldl (fun a c => a * 10 + (c - 48)) 0
def dec (n : Nat) : Str := Str.ofString (toString (n : Int))
theorem dec_all : ((List.range 997).all fun n => decide (rdN (dec n).cps.toList = n) && (decide ((dec n).length ≤ 3) && (dec n).cps.toList.all fun c => decide (c < 128))) = true := by decide +kernel
theorem dec_facts {n : Nat} (h : n < 997) : rdN (dec n).cps.toList = n ∧ (dec n).length ≤ 3 ∧ asc (dec n) := by
  have := List.all_eq_true.mp dec_all n (List.mem_range.mpr h)
  simp only [Bool.and_eq_true, decide_eq_true_eq] at this
  exact ⟨this.1, this.2.1, asc_of _ this.2.2⟩
theorem dec_inj {a b : Nat} (ha : a < 997) (hb : b < 997) (h : dec a = dec b) : a = b := by
  rw [← (dec_facts ha).1, ← (dec_facts hb).1, h]
theorem cop_all : ((List.range 997).all fun n => decide (n = 0) || decide (Nat.gcd 997 n = 1)) = true := by decide +kernel
theorem step_inj {st s a b : Nat} (h1 : 1 ≤ s) (h2 : s < 997) (ha : a < 997) (hb : b < 997) (h : (st + a * s) % 997 = (st + b * s) % 997) : a = b := by
  have co : Nat.Coprime 997 s := by
    have := List.all_eq_true.mp cop_all s (List.mem_range.mpr h2)
    simp only [Bool.or_eq_true, decide_eq_true_eq] at this
    rcases this with z | z
    · omega
    · exact z
  have key : ∀ a b : Nat, a < b → b < 997 → (st + a * s) % 997 = (st + b * s) % 997 → False := fun a b hl hb h => by
    have e : (st + b * s) - (st + a * s) = (b - a) * s := by rw [Nat.sub_mul]; omega
    have d : 997 ∣ (b - a) * s := by
      rw [← e]
      exact Nat.dvd_of_mod_eq_zero (Nat.sub_mod_eq_zero_of_mod_eq h.symm)
    have := Nat.le_of_dvd (by omega) (co.dvd_of_dvd_mul_right d)
    omega
  rcases Nat.lt_trichotomy a b with z | z | z
  · exact (key a b z hb h).elim
  · exact z
  · exact (key b a z ha h.symm).elim
def mkOf (l r : Str) (st s k : Nat) : Str := l ++ dec ((st + k * s) % 997) ++ r
theorem str_cps (a b : Str) : (a ++ b).cps.toList = a.cps.toList ++ b.cps.toList := Array.toList_append
theorem mkOf_inj {l r : Str} {st s a b : Nat} (h1 : 1 ≤ s) (h2 : s < 997) (ha : a < 997) (hb : b < 997) (h : mkOf l r st s a = mkOf l r st s b) : a = b := by
  refine step_inj (st := st) h1 h2 ha hb (dec_inj (Nat.mod_lt _ (by decide)) (Nat.mod_lt _ (by decide)) ?_)
  have e := congrArg (fun z : Str => z.cps.toList) h
  unfold mkOf at e
  simp only [str_cps] at e
  exact sg_ext (List.append_cancel_left (List.append_cancel_right e))
theorem nodup_range {α : Type} {f : Nat → α} {n : Nat} (h : ∀ a b, a < n → b < n → f a = f b → a = b) : ((List.range n).map f).Nodup := by
  induction n with
  | zero => exact List.nodup_nil
  | succ n ih =>
    rw [List.range_succ, List.map_append, List.nodup_append]
    refine ⟨ih fun a b ha hb => h a b (by omega) (by omega), by simp, fun x hx y hy => ?_⟩
    obtain ⟨a, ha, rfl⟩ := List.mem_map.mp hx
    rw [List.mem_singleton.mp hy]
    intro e
    have := h a n (by have := List.mem_range.mp ha; omega) (by omega) e
    have := List.mem_range.mp ha
    omega
/-- marks that may stand in one tree -/
def goodMs (ms : List Str) : Prop := ms.Nodup ∧ ∀ m ∈ ms, m.length ≤ 60 ∧ asc m
def sp_marks (K : PySem.W.Frag) : Sp := fun vs H Q _ => ∃ (b : Addr) (n : Nat) (M : Ms), vs = [.ref b, .int (n : Nat)] ∧ Bag K M H b ∧ Mk M H ∧ 1 ≤ n ∧ n ≤ 400 ∧ Dr K M b H (fun d => ∃ ms : List Str, d = .list (ms.map PyData.str) ∧ ms.length = n ∧ goodMs ms) Q
theorem ok_marks (T : Txt K mg) : FnOk P w K mg base CX0 4 T.f__law_marks T.d__law_marks ["_law_bag_here", "_law_count"] (sp_marks K) := by
  have G__law_pick := ok_pick (P := P) (w := w) (base := base) T
  have G__law_text := ok_text (P := P) (w := w) (base := base) T
  refine T.F__law_marks.ok sc__law_marks (fun vs H Q E h => ?_) (fun cdv A outer s H vs Q E hr h => ?_)
  · obtain ⟨_, _, _, rfl, _⟩ := h
    rfl
  · obtain ⟨b, n, M, rfl, hB, hM, n1, n400, q⟩ := h
    refine ⟨_, (pss_cons (ps_set (i := 2) sc__law_marks.nd rfl (Or.inl rfl) (pe_ix (ix_listK (K := K) rfl) (pe_lst (pa_cons pe_int (pa_cons pe_int (pa_cons pe_int (pa_cons pe_int pa_nil))))) (pe_call G__law_pick (hr.mono (by omega)) (by rfl) T.g__law_pick T.F__law_pick.kp T.b__law_pick .nil pass0 (pa_cons (pv 0) (pa_cons pe_int pa_nil))) (fun _ _ => rfl)))
      (pss_cons (ps_set (i := 3) sc__law_marks.nd rfl (Or.inr rfl) (pe_call G__law_text (hr.mono (by omega)) (by rfl) T.g__law_text T.F__law_text.kp T.b__law_text .nil pass0 (pa_cons (pv 0) (pa_cons pe_int (pa_cons (pv 2) pa_nil)))))
      (pss_cons (ps_set (i := 4) sc__law_marks.nd rfl (Or.inr rfl) (pe_call G__law_text (hr.mono (by omega)) (by rfl) T.g__law_text T.F__law_text.kp T.b__law_text .nil pass0 (pa_cons (pv 0) (pa_cons pe_int (pa_cons (pv 2) pa_nil)))))
      (pss_cons (ps_set (i := 5) sc__law_marks.nd rfl (Or.inr rfl) (pe_op op_add pe_int (pe_call G__law_pick (hr.mono (by omega)) (by rfl) T.g__law_pick T.F__law_pick.kp T.b__law_pick .nil pass0 (pa_cons (pv 0) (pa_cons pe_int pa_nil)))))
      (pss_cons (ps_set (i := 6) sc__law_marks.nd rfl (Or.inr rfl) (pe_call G__law_pick (hr.mono (by omega)) (by rfl) T.g__law_pick T.F__law_pick.kp T.b__law_pick .nil pass0 (pa_cons (pv 0) (pa_cons pe_int pa_nil))))
      (pss_one (ps_ret (pe_lc (own := [("_law_k", 7)]) (g := gName 7) (tt := tYes) (by rfl) sc__law_marks.nd (pi_range1 (by rfl) T.m_range (pa_cons (pv 1) pa_nil)) (blkOk_by (own := [("_law_k", 7)]) (N := ["_law_bag_here", "_law_count", "_law_most", "_law_left", "_law_right", "_law_step", "_law_start", "_law_k"]) (sc := defScope s__law_marks) (by decide +kernel)) (fun _ _ _ _ _ => (pg_name (i := 7) sc__law_marks.nd rfl (Or.inl rfl))) (fun _ _ _ _ _ => pts_nil) (fun _ _ _ _ _ => (pe_op op_add_str (pe_op op_add_str (pv 3) (pe_callTy call_str_int (by rfl) T.m_str (by decide +kernel) (pa_cons (pe_op op_mod (pe_callTy call_int1 (by rfl) T.m_int (by decide +kernel) (pa_cons (pe_op op_add (pv 6) (pe_op op_mul (pv 7) (pv 5))) pa_nil)) pe_int) pa_nil))) (pv 4))))))))))), ?_⟩
    walk_at "g"
    refine ⟨szK rfl, fun p hp => ?_⟩
    have e1 : upd H p (.lst [.int 3, .int 3, .int 3, .int 28]) p = some (.lst [.int 3, .int 3, .int 3, .int 28]) := upd_same
    have hB1 := hB.same (same_new hp (o := .lst [.int 3, .int 3, .int 3, .int 28]))
    have pb : p ≠ b := fun z => hB.there (by rw [← z]; exact hp)
    have s1 : Sx (one b) H (upd H p (.lst [.int 3, .int 3, .int 3, .int 28])) := Sx.new hp
    have g1 : Gr H (upd H p (.lst [.int 3, .int 3, .int 3, .int 28])) := Gr.upd
    generalize upd H p (.lst [.int 3, .int 3, .int 3, .int 28]) = H1 at e1 hB1 s1 g1
    walk_at "g"
    refine ⟨b, 4, M, rfl, hB1, by omega, by omega, fun w1 H2 a0 a1 hA2 hB2 => ?_⟩
    have e2 := (hA2 p pb).trans e1
    obtain ⟨most, hm, mk⟩ : ∃ m : Nat, atI [V.int 3, .int 3, .int 3, .int 28] w1 = some (.int m) ∧ m ≤ 28 := by
      have : w1 = 0 ∨ w1 = 1 ∨ w1 = 2 ∨ w1 = 3 := by omega
      rcases this with rfl | rfl | rfl | rfl
      · exact ⟨3, rfl, by omega⟩
      · exact ⟨3, rfl, by omega⟩
      · exact ⟨3, rfl, by omega⟩
      · exact ⟨28, rfl, by omega⟩
    refine ⟨_, _, _, _, rfl, rfl, SqL.of e2, hm, ?_⟩
    walk_at "g"
    refine ⟨b, 0, most, M, rfl, hB2, by omega, by omega, fun l H3 ll la hA3 hB3 => ?_⟩
    walk_at "g"
    refine ⟨b, 0, most, M, rfl, hB3, by omega, by omega, fun r H4 lr ra hA4 hB4 => ?_⟩
    walk_at "g"
    refine ⟨b, 996, M, rfl, hB4, by omega, by omega, fun w5 H5 b0 b1 hA5 hB5 => ?_⟩
    obtain ⟨sp, rfl⟩ : ∃ k : Nat, w5 = (k : Int) := ⟨w5.toNat, by omega⟩
    walk_at "g"
    refine ⟨b, 997, M, rfl, hB5, by omega, by omega, fun w6 H6 c0 c1 hA6 hB6 => ?_⟩
    obtain ⟨st, rfl⟩ : ∃ k : Nat, w6 = (k : Int) := ⟨w6.toNat, by omega⟩
    have hA := hA2.trans (hA3.trans (hA4.trans (hA5.trans hA6)))
    have s6 : Sx (one b) H H6 := s1.trans hA.sx
    have g6 : Gr H H6 := g1.trans (At.gr hA hB6.there)
    walk_at "g"
    refine ⟨by omega, by omega, fun D hD => ?_⟩
    have Db : D ≠ b := fun z => hB6.there (by rw [← z]; exact hD)
    refine rng_loop (lo := 0) (n := ((n : Nat) : Int).toNat) (fun j H' => Same H6 H' ∧ H' D = some (.lst (((List.range j).map (mkOf l r st (1 + sp))).map V.str))) ⟨same_new hD, upd_same⟩ (fun j H' hj p => ?_) (fun H7 p => ?_)
    · obtain ⟨s7, eD⟩ := p
      refine ⟨rfl, ?_⟩
      walk_at "g"
      refine ⟨Or.inr ⟨by omega, by omega⟩, ?_⟩
      walk_at "g"
      have ev : ((st : Int) + (0 + (j : Int)) * (1 + (sp : Int))) % 997 = (((st + j * (1 + sp)) % 997 : Nat) : Int) := by
        simp only [Int.zero_add, Int.natCast_emod, Int.natCast_add, Int.natCast_mul]
        rfl
      rw [ev]
      have hv : (st + j * (1 + sp)) % 997 < 997 := Nat.mod_lt _ (by decide)
      obtain ⟨d1, d2, d3⟩ := dec_facts hv
      refine ⟨Nat.lt_of_le_of_lt (Nat.log2_le_self _) (by rw [Int.natAbs_natCast]; omega), ?_⟩
      refine ⟨_, _, rfl, rfl, ?_, ?_⟩
      · refine Nat.le_of_lt (small1000 ?_)
        show l.length + (dec ((st + j * (1 + sp)) % 997)).length ≤ 1000
        omega
      walk_at "g"
      refine ⟨?_, ?_⟩
      · refine Nat.le_of_lt (small1000 ?_)
        rw [str_len]
        show l.length + (dec ((st + j * (1 + sp)) % 997)).length + r.length ≤ 1000
        omega
      refine ⟨_, eD, small1000 (by rw [List.length_map, List.length_map, List.length_range]; omega), same_put s7 hD, ?_⟩
      rw [upd_same, List.range_succ, List.map_append, List.map_append]
      rfl
    · obtain ⟨s7, eD⟩ := p
      rw [show ((n : Nat) : Int).toNat = n from rfl] at eD
      have hM6 := hM.gr g6
      refine q _ _ (.list (((List.range n).map (mkOf l r st (1 + sp))).map PyData.str)) (s6.trans (Sx.same s7)) (g6.trans (Gr.same s7)) (hB6.same s7) (.lst (hM6.out hD) (.inl eD) (RpAll.strs _)) ⟨_, rfl, by rw [List.length_map, List.length_range], nodup_range fun x y hx hy e => mkOf_inj (by omega) (by omega) (by omega) (by omega) e, fun m hm => ?_⟩
      obtain ⟨k, _, rfl⟩ := List.mem_map.mp hm
      obtain ⟨d1, d2, d3⟩ := dec_facts (Nat.mod_lt (st + k * (1 + sp)) (by decide : 0 < 997))
      refine ⟨?_, asc_app (asc_app la d3) ra⟩
      unfold mkOf
      rw [str_len, str_len]
      omega
end
end D

namespace D
open PySem PySem.Spec PyProof.Rows L2
local macro_rules | `(tactic| walk_at "st") => `(tactic| first | exact SqT.of (by assumption) | exact Or.inl (by assumption) | exact SqT.of upd_same | fail "st")
local macro_rules | `(tactic| walk_at "ixt") => `(tactic| refine ⟨_, _, _, _, rfl, rfl, (by walk_at "st" : SqT _ _ _ _), by rfl, ?_⟩)
local macro_rules | `(tactic| walk_at "sq") => `(tactic| first | exact SqL.of (by assumption) | assumption | exact Or.inl (by assumption) | exact SqL.of upd_same | fail "sq")
local macro_rules | `(tactic| walk_at "ix") => `(tactic| refine ⟨_, _, _, _, rfl, rfl, (by walk_at "sq" : SqL _ _ _ _), by rfl, ?_⟩)
local macro_rules | `(tactic| walk_at "set") => `(tactic| refine ⟨_, _, _, _, rfl, rfl, by first | assumption | exact upd_same, by rfl, ?_⟩)
local macro_rules | `(tactic| walk_at "len") => `(tactic| refine ⟨_, _, rfl, Or.inl (by walk_at "sq" : SqL _ _ _ _), ?_⟩)
local macro_rules | `(tactic| walk_at "g") => `(tactic| repeat (first | refine ⟨_, rfl, ?_⟩ | refine ⟨_, _, rfl, rfl, ?_⟩ | refine ⟨Or.inr (by decide), ?_⟩ | refine ⟨Or.inl (by decide), ?_⟩ | refine ⟨(by decide : (0 : Int) < _), ?_⟩ | refine ⟨(⟨by decide, by decide⟩ : CDiv _ _), ?_⟩ | refine ⟨(⟨by decide, by decide, by decide⟩ : CPow _ _), ?_⟩ | refine Or.inl ⟨_, rfl, ?_⟩ | refine ⟨rfl, ?_⟩ | walk_at "ix" | walk_at "ixt" | walk_at "len" | fail "g"))
local macro_rules | `(tactic| walk_at "if") => `(tactic| refine ite2 (fun e => ?_) (fun e => ?_))
section
variable {P : Program} {w : World} {K : PySem.W.Frag} {mg : Str → Option Value} {base : Heap}
abbrev FlE := Str × Str × Nat
def flE (e : FlE) : PyData := .tuple [.str e.1, .str e.2.1, .int (e.2.2 : Nat)]
def goodFl (ms : List Str) (dp : Nat) (es : List FlE) : Prop := es.map (·.1) = ms ∧ (∀ e ∈ es, e.2.1.length ≤ 30 ∧ asc e.2.1 ∧ e.2.2 ≤ dp) ∧ ∃ e r, es = e :: r ∧ e.2.2 = 0 ∧ ∀ x ∈ r, 1 ≤ x.2.2
def sp_flat (K : PySem.W.Frag) : Sp := fun vs H Q _ => ∃ (b : Addr) (v : V) (dp : Nat) (ms : List Str) (M : Ms), vs = [.ref b, v, .int (dp : Nat)] ∧ Bag K M H b ∧ Mk M H ∧ Rp M H v (.list (ms.map PyData.str)) ∧ ms ≠ [] ∧ ms.length ≤ 400 ∧ 1 ≤ dp ∧ dp ≤ 8 ∧ Dr K M b H (fun d => ∃ es : List FlE, d = .list (es.map flE) ∧ goodFl ms dp es) Q
theorem ok_flat (T : Txt K mg) : FnOk P w K mg base CX0 5 T.f__law_flat T.d__law_flat ["_law_bag_here", "_law_marks_here", "_law_deepest"] (sp_flat K) := by
  have G__law_pick := ok_pick (P := P) (w := w) (base := base) T
  have G__law_label := ok_label (P := P) (w := w) (base := base) T
  refine T.F__law_flat.ok sc__law_flat (fun vs H Q E h => ?_) (fun cdv A outer s H vs Q E hr h => ?_)
  · obtain ⟨_, _, _, _, _, rfl, _⟩ := h
    rfl
  · obtain ⟨b, v, dp, ms, M, rfl, hB, hM, hR, hne, h400, d1, d8, q⟩ := h
    obtain ⟨a, xs, rfl, na, ha, rx⟩ := Rp.lstN hR
    have ex := rx.ofStrs
    subst ex
    obtain ⟨m0, mr, rfl⟩ : ∃ m r, ms = m :: r := by cases ms with | nil => exact absurd rfl hne | cons m r => exact ⟨m, r, rfl⟩
    have mb := hB.w
    have ab : a ≠ b := fun z => na (by rw [z]; exact mb)
    refine ⟨_, (pss_cons (ps_set (i := 3) sc__law_flat.nd rfl (Or.inl rfl) (pe_lst (pa_cons (pe_tup (pa_cons (pe_ix (ix_listK (K := K) rfl) (pv 1) pe_int (fun _ _ => rfl)) (pa_cons (pe_call G__law_label (hr.mono (by omega)) (by rfl) T.g__law_label T.F__law_label.kp T.b__law_label .nil pass0 (pa_cons (pv 0) pa_nil)) (pa_cons pe_int pa_nil)))) pa_nil)))
      (pss_cons (ps_for PassesOwn.never rfl (pi_listK (K := K) rfl (pe_slice (sl_listK (K := K) rfl) (pv 1) (po_some pe_int) po_none)) (pg_name (i := 4) sc__law_flat.nd rfl (Or.inl rfl)) (pss_cons (ps_set (i := 5) sc__law_flat.nd rfl (Or.inl rfl) (pe_op op_add (pe_ix (ix_tupK (K := K) rfl) (pe_ix (ix_listK (K := K) rfl) (pv 3) (pe_un un_neg pe_int) (fun _ _ => rfl)) pe_int (fun _ _ => rfl)) pe_int))
      (pss_cons (ps_if (pt_cmpR op_gt (pv 5) (pv 2) (nomark _)) (pss_one (ps_set (i := 5) sc__law_flat.nd rfl (Or.inl rfl) (pv 2))) pss_nil)
      (pss_one (ps_expr (pe_bmK2 (K := K) rfl PySem.F.plainAttrs_list PySem.F.slot_list_append PySem.F.type_list_append mt_append (pv 3) (pa_cons (pe_tup (pa_cons (pv 4) (pa_cons (pe_call G__law_label (hr.mono (by omega)) (by rfl) T.g__law_label T.F__law_label.kp T.b__law_label .nil pass0 (pa_cons (pv 0) pa_nil)) (pa_cons (pe_op op_add pe_int (pe_call G__law_pick (hr.mono (by omega)) (by rfl) T.g__law_pick T.F__law_pick.kp T.b__law_pick .nil pass0 (pa_cons (pv 0) (pa_cons (pv 5) pa_nil)))) pa_nil)))) pa_nil)))))))
      (pss_one (ps_ret (pv 3))))), ?_⟩
    walk_at "g"
    refine ⟨_, _, _, _, rfl, rfl, .inl ha, atI_nat (j := 0) rfl, ?_⟩
    walk_at "g"
    refine ⟨b, M, rfl, hB, fun l0 H1 ll0 la0 s1 g1 hB1 => ?_⟩
    walk_at "g"
    refine ⟨szK rfl, fun p1 hp1 => ?_⟩
    have r0 : Rp M (upd H1 p1 (.tup [.str m0, .str l0, .int 0])) (.ref p1) (flE (m0, l0, 0)) := Rp.newT (hM.gr g1) hp1 (.cons (.str _) (.cons (.str _) (.one (.int _))))
    have hB2 := hB1.same (same_new hp1 (o := .tup [.str m0, .str l0, .int 0]))
    have s2 : Sx (one b) H (upd H1 p1 (.tup [.str m0, .str l0, .int 0])) := s1.trans (Sx.new hp1)
    have g2 : Gr H (upd H1 p1 (.tup [.str m0, .str l0, .int 0])) := g1.trans Gr.upd
    generalize upd H1 p1 (.tup [.str m0, .str l0, .int 0]) = H2 at r0 hB2 s2 g2
    walk_at "g"
    refine ⟨szK rfl, fun F hF => ?_⟩
    have Fb : F ≠ b := fun z => hB2.there (by rw [← z]; exact hF)
    have eF : upd H2 F (.lst [.ref p1]) F = some (.lst [.ref p1]) := upd_same
    have nF0 : H F = none := by
      cases e : H F with
      | none => rfl
      | some o => exact absurd hF (g2 F (ne_none e))
    have hB3 := (hB2.more hF).same (same_new hF (o := .lst [.ref p1]))
    have hM3 : Mk (also M F) (upd H2 F (.lst [.ref p1])) := ((hM.gr g2).gr Gr.upd).also upd_there
    have r3 : Rp (also M F) (upd H2 F (.lst [.ref p1])) (.ref p1) (flE (m0, l0, 0)) := (r0.fresh hF).sx (Sx.new hF)
    have s3 : Sx (one b) H (upd H2 F (.lst [.ref p1])) := s2.trans (Sx.new hF)
    have g3 : Gr H (upd H2 F (.lst [.ref p1])) := g2.trans Gr.upd
    have aF : a ≠ F := rd_ne ha nF0
    generalize upd H2 F (.lst [.ref p1]) = H3 at eF hB3 hM3 r3 s3 g3
    walk_at "g"
    have ha3 := sx_rd s3 (show ¬ one b a from ab) ha
    refine ⟨a, _, rfl, .inl ha3, fun p4 hp4 => ?_⟩
    rw [show cutV ((m0 :: mr).map V.str) (some 1) none = mr.map V.str from cut1 _ _]
    have p4F : p4 ≠ F := fun z => by rw [z, eF] at hp4; cases hp4
    have p4b : p4 ≠ b := fun z => hB3.there (by rw [← z]; exact hp4)
    have e4 : upd H3 p4 (.lst (mr.map V.str)) p4 = some (.lst (mr.map V.str)) := upd_same
    have eF := same_new hp4 (o := .lst (mr.map V.str)) _ _ eF
    have hB4 := hB3.same (same_new hp4 (o := .lst (mr.map V.str)))
    have hM4 : Mk (also M F) (upd H3 p4 (.lst (mr.map V.str))) := hM3.gr Gr.upd
    have r4 := r3.sx (Sx.new hp4 (o := .lst (mr.map V.str)))
    have s4 : Sx (one b) H (upd H3 p4 (.lst (mr.map V.str))) := s3.trans (Sx.new hp4)
    have g4 : Gr H (upd H3 p4 (.lst (mr.map V.str))) := g3.trans Gr.upd
    generalize upd H3 p4 (.lst (mr.map V.str)) = H4 at e4 eF hB4 hM4 r4 s4 g4
    refine ⟨p4, rfl, ⟨_, SqL.of e4⟩, ?_⟩
    refine for_list (K := K) (a := p4) (xs := mr.map V.str) (fun i σ H' => (∃ y4 y5, σ = [some (.ref b), some (.ref a), some (.int (dp : Nat)), some (.ref F), y4, y5]) ∧ H' p4 = some (.lst (mr.map V.str)) ∧ Sx (also (one b) F) H H' ∧ Gr H H' ∧ Bag K (also M F) H' b ∧ Mk (also M F) H' ∧ ∃ (vs : List V) (es : List FlE), H' F = some (.lst vs) ∧ RpAll (also M F) H' vs (es.map flE) ∧ es.map (·.1) = (m0 :: mr).take (i + 1) ∧ (∀ e ∈ es, e.2.1.length ≤ 30 ∧ asc e.2.1 ∧ e.2.2 ≤ dp) ∧ ∃ e r, es = e :: r ∧ e.2.2 = 0 ∧ ∀ x ∈ r, 1 ≤ x.2.2) ⟨⟨_, _, rfl⟩, e4, s4.le (fun c z => .inl z), g4, hB4, hM4, [.ref p1], [(m0, l0, 0)], eF, .one r4, rfl, fun e he => (by rw [List.mem_singleton.mp he]; exact ⟨ll0, la0, Nat.zero_le _⟩), _, _, rfl, rfl, fun x hx => nomatch hx⟩ (fun i σ H' _ p => SqL.of p.2.1) (fun i x σ H' hx p => ?_) (fun σ H' p => ?_)
    · obtain ⟨⟨y4, y5, rfl⟩, e4, s5, g5, hB5, hM5, vs, es, eF, rs, k1, k2, e0, r0, rfl, k3, k4⟩ := p
      rw [List.getElem?_map] at hx
      obtain ⟨m, hm, rfl⟩ := Option.map_eq_some_iff.mp hx
      have ls := rs.length
      rw [List.length_map] at ls
      obtain ⟨us, u, eu, ru, rl⟩ : ∃ us u, vs = us ++ [u] ∧ RpAll (also M F) H' us ((e0 :: r0).dropLast.map flE) ∧ Rp (also M F) H' u (flE ((e0 :: r0).getLast (by simp))) := by
        have e : (e0 :: r0).map flE = (e0 :: r0).dropLast.map flE ++ [flE ((e0 :: r0).getLast (by simp))] := by
          rw [← List.map_singleton, ← List.map_append, List.dropLast_concat_getLast]
        rw [e] at rs
        exact rs.last
      obtain ⟨la1, la2, la3⟩ := k2 _ (List.getLast_mem (l := e0 :: r0) (by simp))
      generalize (e0 :: r0).getLast (by simp) = le at rl la1 la2 la3
      obtain ⟨t, ts, rfl, nt, ht, rt⟩ := Rp.tupN rl
      obtain ⟨t1, t2, t3, rfl, q1, q2, q3⟩ := rt.inv3
      cases q3
      walk_at "g"
      rw [eu] at eF
      refine ⟨_, _, _, _, rfl, rfl, SqL.of eF, atI_last _ _, ?_⟩
      refine ⟨t, _, _, _, rfl, rfl, .inl ht, atI_nat (j := 2) rfl, ?_⟩
      refine ⟨_, _, rfl, rfl, ?_⟩
      dsimp only [gName]
      with_reducible refine seq_join (fun σ3 H3 => ∃ mo : Nat, σ3 = [some (.ref b), some (.ref a), some (.int (dp : Nat)), some (.ref F), some (.str m), some (.int (mo : Nat))] ∧ H3 = H' ∧ 1 ≤ mo ∧ mo ≤ dp) (fun hN => ?_) (fun σ3 H3 c => ?_)
      · walk_at "g"
        walk_at "if"
        · exact ⟨_, rfl, hN _ _ ⟨dp, rfl, rfl, d1, Nat.le_refl _⟩⟩
        · rename_i hc
          have hc : (le.2.2 : Int) + 1 ≤ (dp : Int) := by simpa using hc
          exact hN _ _ ⟨le.2.2 + 1, rfl, rfl, by omega, by omega⟩
      obtain ⟨mo, rfl, rfl, mo1, mo2⟩ := c
      walk_at "g"
      refine ⟨.inl ⟨rfl, _, SqL.of eF⟩, ?_⟩
      walk_at "g"
      refine ⟨b, also M F, rfl, hB5, fun l H6 ll la s6 g6 hB6 => ?_⟩
      walk_at "g"
      refine ⟨b, mo, also M F, rfl, hB6, by omega, by omega, fun w H7 h0 h1 hA7 hB7 => ?_⟩
      obtain ⟨lv, rfl⟩ : ∃ k : Nat, w = (k : Int) := ⟨w.toNat, by omega⟩
      have s67 : Sx (one b) H3 H7 := s6.trans hA7.sx
      have g67 : Gr H3 H7 := g6.trans (At.gr hA7 hB7.there)
      have wb : also M F b := .inl mb
      have wF : also M F F := .inr rfl
      have e47 := s67 _ _ p4b e4
      have eF7 := s67 _ _ Fb eF
      have rs7 := rs.sx (s67.le (one_le wb))
      walk_at "g"
      refine ⟨szK rfl, fun p7 hp7 => ?_⟩
      have hp7 : H7 p7 = none := hp7
      have p7F : F ≠ p7 := ne_of_none eF7 hp7
      have eF8 := same_new hp7 (o := .tup [.str m, .str l, .int (1 + (lv : Int))]) _ _ eF7
      refine ⟨F, _, .ref p7, rfl, rfl, eF8, ?_, ?_⟩
      · rw [← eu, ls]
        have : (e0 :: r0).length = ((e0 :: r0).map (·.1)).length := (List.length_map _).symm
        rw [this, k1, List.length_take]
        exact small1000 (by omega)
      have re : Rp (also M F) (upd H7 p7 (.tup [.str m, .str l, .int (1 + (lv : Int))])) (.ref p7) (flE (m, l, 1 + lv)) := Rp.newT (hM5.gr g67) hp7 (.cons (.str _) (.cons (.str _) (.one (by show Rp _ _ _ (PyData.int ((1 + lv : Nat) : Int)); rw [show ((1 + lv : Nat) : Int) = 1 + (lv : Int) by omega]; exact .int _))))
      have rs8 := rs7.sx (Sx.new hp7 (o := .tup [.str m, .str l, .int (1 + (lv : Int))]))
      have pF : ∀ {J : Hp} {o : HO}, Sx (also M F) J (upd J F o) := Sx.put wF
      refine ⟨⟨_, _, rfl⟩, ?_, (s5.trans ((s67.le (fun c z => .inl z)).trans (Sx.new hp7))).trans (Sx.put (.inr rfl)), ((g5.trans g67).trans Gr.upd).trans Gr.upd, ?_, ((hM5.gr g67).gr Gr.upd).gr Gr.upd, _, (e0 :: r0) ++ [(m, l, 1 + lv)], upd_same, ?_, ?_, fun e he => ?_, e0, r0 ++ [(m, l, 1 + lv)], rfl, k3, fun x hx => ?_⟩
      · rw [upd_ne p4F, upd_ne (ne_of_none e47 hp7)]
        exact e47
      · exact (hB7.same (same_new hp7)).keep (N := one F) (Sx.put rfl) (Ne.symm Fb) (fun c z => by rw [show c = F from z]; exact wF)
      · rw [List.map_append, ← eu]
        exact ((rs8.append (.one re)).sx pF)
      · rw [List.map_append, k1, List.take_add_one (i := i + 1), List.getElem?_cons_succ, hm]
        rfl
      · rcases List.mem_append.mp he with he | he
        · exact k2 e he
        · rw [List.mem_singleton.mp he]
          exact ⟨ll, la, by show 1 + lv ≤ dp; omega⟩
      · rcases List.mem_append.mp hx with hx | hx
        · exact k4 x hx
        · rw [List.mem_singleton.mp hx]
          show 1 ≤ 1 + lv
          omega
    · obtain ⟨⟨y4, y5, rfl⟩, e4, s5, g5, hB5, hM5, vs, es, eF, rs, k1, k2, k3⟩ := p
      walk_at "g"
      rw [List.length_map, List.take_of_length_le (by simp)] at k1
      exact q _ _ (.list (es.map flE)) (s5.cut nF0) g5 (hB5.less mb also_le) (.lst (hM.out nF0) (.inl eF) (rs.less also_le)) ⟨es, rfl, k1, k2, k3⟩
end
end D

namespace D
open PySem PySem.Spec PyProof.Rows L2
local macro_rules | `(tactic| walk_at "st") => `(tactic| first | exact SqT.of (by assumption) | exact Or.inl (by assumption) | exact SqT.of upd_same | fail "st")
local macro_rules | `(tactic| walk_at "ixt") => `(tactic| refine ⟨_, _, _, _, rfl, rfl, (by walk_at "st" : SqT _ _ _ _), by rfl, ?_⟩)
local macro_rules | `(tactic| walk_at "sq") => `(tactic| first | exact SqL.of (by assumption) | assumption | exact Or.inl (by assumption) | exact SqL.of upd_same | fail "sq")
local macro_rules | `(tactic| walk_at "ix") => `(tactic| refine ⟨_, _, _, _, rfl, rfl, (by walk_at "sq" : SqL _ _ _ _), by rfl, ?_⟩)
local macro_rules | `(tactic| walk_at "set") => `(tactic| refine ⟨_, _, _, _, rfl, rfl, by first | assumption | exact upd_same, by rfl, ?_⟩)
local macro_rules | `(tactic| walk_at "len") => `(tactic| refine ⟨_, _, rfl, Or.inl (by walk_at "sq" : SqL _ _ _ _), ?_⟩)
local macro_rules | `(tactic| walk_at "g") => `(tactic| repeat (first | refine ⟨_, rfl, ?_⟩ | refine ⟨_, _, rfl, rfl, ?_⟩ | refine ⟨Or.inr (by decide), ?_⟩ | refine ⟨Or.inl (by decide), ?_⟩ | refine ⟨(by decide : (0 : Int) < _), ?_⟩ | refine ⟨(⟨by decide, by decide⟩ : CDiv _ _), ?_⟩ | refine ⟨(⟨by decide, by decide, by decide⟩ : CPow _ _), ?_⟩ | refine Or.inl ⟨_, rfl, ?_⟩ | refine ⟨rfl, ?_⟩ | walk_at "ix" | walk_at "ixt" | walk_at "len" | fail "g"))
local macro_rules | `(tactic| walk_at "if") => `(tactic| refine ite2 (fun e => ?_) (fun e => ?_))
section
variable {P : Program} {w : World} {K : PySem.W.Frag} {mg : Str → Option Value} {base : Heap}
def entN (n : Nd) : Str × Str := (n.mark, n.label)
def entF (e : FlE) : Str × Str := (e.1, e.2.1)
def rdE (p : Nat × Nd) : PyData := .tuple [.int (p.1 : Nat), p.2.enc]
theorem nil_or_snoc {α : Type} : ∀ l : List α, l = [] ∨ ∃ r x, l = r ++ [x]
  | [] => .inl rfl
  | x :: r => .inr ⟨(x :: r).dropLast, (x :: r).getLast (by simp), (List.dropLast_concat_getLast (by simp)).symm⟩
def sp_grown : Sp := fun vs H Q _ => ∃ (v : V) (dp : Nat) (es : List FlE) (M : Ms), vs = [v] ∧ Rp M H v (.list (es.map flE)) ∧ Mk M H ∧ es.length ≤ 400 ∧ (∀ e ∈ es, e.2.2 ≤ dp) ∧ (∃ e r, es = e :: r ∧ e.2.2 = 0 ∧ ∀ x ∈ r, 1 ≤ x.2.2) ∧
  ∀ v' H' n, Same H H' → Rp M H' v' (Nd.enc n) → n.subs.map entN = es.map entF → n.dep ≤ dp + 1 → Q v' H'
theorem ok_grown (T : Txt K mg) : FnOk P w K mg base CX0 1 T.f__law_grown T.d__law_grown ["_law_flat_here"] sp_grown := by
  refine T.F__law_grown.ok sc__law_grown (fun vs H Q E h => ?_) (fun cdv A outer s H vs Q E hr h => ?_)
  · obtain ⟨_, _, _, _, rfl, _⟩ := h
    rfl
  · obtain ⟨v, dp, es, M, rfl, hR, hM, h400, hdp, hrt, q⟩ := h
    obtain ⟨a, xs, rfl, na, ha, rx⟩ := Rp.lstN hR
    have lx := rx.length
    rw [List.length_map] at lx
    refine ⟨_, (pss_cons (ps_set (i := 1) sc__law_grown.nd rfl (Or.inl rfl) (pe_lst pa_nil))
      (pss_cons (ps_for PassesOwn.never rfl (pi_range3 (by rfl) T.m_range (pa_cons (pe_op op_sub (pe_callB (call_lenK (K := K) rfl) (by rfl) T.m_len PySem.boot_len (pa_cons (pv 0) pa_nil)) pe_int) (pa_cons (pe_un un_neg pe_int) (pa_cons (pe_un un_neg pe_int) pa_nil)))) (pg_name (i := 2) sc__law_grown.nd rfl (Or.inl rfl)) (pss_cons (ps_set (i := 3) sc__law_grown.nd rfl (Or.inl rfl) (pe_lst pa_nil))
      (pss_cons (ps_while PassesOwn.never (PW.pt (pw_and (pt_truthK (K := K) rfl (pv 1) (by intro _; rfl)) (pw_and1 (pt_cmpR op_gt (pe_ix (ix_tupK (K := K) rfl) (pe_ix (ix_listK (K := K) rfl) (pv 1) (pe_un un_neg pe_int) (fun _ _ => rfl)) pe_int (fun _ _ => rfl)) (pe_ix (ix_tupK (K := K) rfl) (pe_ix (ix_listK (K := K) rfl) (pv 0) (pv 2) (fun _ _ => rfl)) pe_int (fun _ _ => rfl)) (nomark _))))) (pss_one (ps_expr (pe_bmK2 (K := K) rfl PySem.F.plainAttrs_list PySem.F.slot_list_append PySem.F.type_list_append mt_append (pv 3) (pa_cons (pe_ix (ix_tupK (K := K) rfl) (pe_bm0K2 (K := K) rfl PySem.F.plainAttrs_list PySem.F.slot_list_pop PySem.F.type_list_pop mt_pop (pv 1)) pe_int (fun _ _ => rfl)) pa_nil)))))
      (pss_one (ps_expr (pe_bmK2 (K := K) rfl PySem.F.plainAttrs_list PySem.F.slot_list_append PySem.F.type_list_append mt_append (pv 1) (pa_cons (pe_tup (pa_cons (pe_ix (ix_tupK (K := K) rfl) (pe_ix (ix_listK (K := K) rfl) (pv 0) (pv 2) (fun _ _ => rfl)) pe_int (fun _ _ => rfl)) (pa_cons (pe_tup (pa_cons (pe_ix (ix_tupK (K := K) rfl) (pe_ix (ix_listK (K := K) rfl) (pv 0) (pv 2) (fun _ _ => rfl)) pe_int (fun _ _ => rfl)) (pa_cons (pe_ix (ix_tupK (K := K) rfl) (pe_ix (ix_listK (K := K) rfl) (pv 0) (pv 2) (fun _ _ => rfl)) pe_int (fun _ _ => rfl)) (pa_cons (pe_callTy (call_tupleK (K := K) rfl) (by rfl) T.m_tuple (by decide +kernel) (pa_cons (pv 3) pa_nil)) pa_nil)))) pa_nil))) pa_nil)))))))
      (pss_one (ps_ret (pe_ix (ix_tupK (K := K) rfl) (pe_ix (ix_listK (K := K) rfl) (pv 1) pe_int (fun _ _ => rfl)) pe_int (fun _ _ => rfl)))))), ?_⟩
    walk_at "g"
    refine ⟨szK rfl, fun R hR0 => ?_⟩
    have eR : upd H R (.lst []) R = some (.lst []) := upd_same
    have hM1 : Mk (also M R) (upd H R (.lst [])) := hM.new.also upd_there
    have s1 : Same H (upd H R (.lst [])) := same_new hR0
    generalize upd H R (.lst []) = H1 at eR hM1 s1
    walk_at "g"
    have ha1 := same_rd s1 ha
    refine ⟨_, _, rfl, .inl (.inl ha1), ?_⟩
    walk_at "g"
    rw [lx]
    have rg : RgC ((es.length : Int) - 1) (-1) (-1) es.length := by
      have := RgC.neg (i := (es.length : Int) - 1) (j := -1) (by omega) (by omega) (by omega) (by omega)
      rwa [show ((es.length : Int) - 1 - -1).toNat = es.length by omega] at this
    refine ⟨_, _, _, es.length, rfl, rg, ?_⟩
    refine for_rangeC (lo := (es.length : Int) - 1) (c := -1) (n := es.length) (fun i σ H' => (∃ y2 y3, σ = [some (.ref a), some (.ref R), y2, y3]) ∧ Same H H' ∧ Mk (also M R) H' ∧ ∃ (rs : List V) (Rl : List (Nat × Nd)), H' R = some (.lst rs) ∧ RpAll (also M R) H' rs (Rl.map rdE) ∧ (Rl.reverse.map fun p => p.2.subs.map entN).flatten = (es.drop (es.length - i)).map entF ∧ (∀ p ∈ Rl, p.2.dep + p.1 ≤ dp + 1 ∧ ∃ e ∈ es.drop (es.length - i), e.2.2 = p.1) ∧ Rl.length ≤ i ∧ (i = es.length → ∃ n, Rl = [(0, n)])) ?_ (fun i σ H' hi p => ?_) (fun σ H' p => ?_)
    · refine ⟨⟨_, _, rfl⟩, s1, hM1, [], [], eR, .nil, by simp, (fun p hp => nomatch hp), Nat.le_refl _, fun z => ?_⟩
      obtain ⟨e, r, rfl, _⟩ := hrt
      simp at z
    · obtain ⟨⟨y2, y3, rfl⟩, s2, hM2, rs, Rl, eR, rr, k1, k2, k3, k4⟩ := p
      obtain ⟨k, hk⟩ : ∃ k, es.length = i + 1 + k := ⟨es.length - (i + 1), by omega⟩
      obtain ⟨e, he⟩ : ∃ e, es[k]? = some e := ⟨_, List.getElem?_eq_getElem (by omega)⟩
      have ek : (es.length : Int) - 1 + (i : Nat) * -1 = (k : Int) := by omega
      rw [ek]
      have de : es.drop k = e :: es.drop (k + 1) := by
        rw [List.drop_eq_getElem_cons (by omega)]
        congr 1
        exact (List.getElem?_eq_some_iff.mp he).2
      have d1 : es.length - i = k + 1 := by omega
      have d2 : es.length - (i + 1) = k := by omega
      rw [d1] at k1 k2
      obtain ⟨u, hu, ru⟩ := rx.getD (show (es.map flE)[k]? = some (flE e) by rw [List.getElem?_map, he]; rfl)
      obtain ⟨t, ts, rfl, nt, ht, rt⟩ := Rp.tupN ru
      obtain ⟨t1, t2, t3, rfl, q1, q2, q3⟩ := rt.inv3
      cases q1; cases q2; cases q3
      have a2 := same_rd s2 ha
      have t2' := same_rd s2 ht
      walk_at "g"
      refine ⟨szK rfl, fun B hB => ?_⟩
      have RB : R ≠ B := ne_of_none eR hB
      have nB0 : H B = none := s2.free hB
      have eB : upd H' B (.lst []) B = some (.lst []) := upd_same
      have eR := same_new hB (o := .lst []) _ _ eR
      have rr := (rr.fresh hB).sx (Sx.new hB (o := .lst []))
      have s3 := s2.trans (same_new hB (o := .lst []))
      have hM3 : Mk (also (also M R) B) (upd H' B (.lst [])) := hM2.new.also upd_there
      generalize upd H' B (.lst []) = H3 at eB eR rr s3 hM3
      dsimp only [gName]
      have nR2 : also (also M R) B R := .inl (.inr rfl)
      have nB2 : also (also M R) B B := .inr rfl
      with_reducible refine seq_join (fun σ3 H4 => ∃ (Rl1 Rl2 : List (Nat × Nd)) (rs bs : List V), Rl = Rl1 ++ Rl2 ∧ σ3 = [some (.ref a), some (.ref R), some (.int (k : Nat)), some (.ref B)] ∧ Same H H4 ∧ Mk (also (also M R) B) H4 ∧ H4 R = some (.lst rs) ∧ H4 B = some (.lst bs) ∧ RpAll (also (also M R) B) H4 rs (Rl1.map rdE) ∧ RpAll (also (also M R) B) H4 bs (Rl2.reverse.map fun p => p.2.enc) ∧ (∀ p ∈ Rl2, e.2.2 < p.1) ∧ ∀ p, Rl1.getLast? = some p → p.1 ≤ e.2.2) (fun hN => ?_) (fun σ3 H4 c => ?_)
      · refine ⟨fun m σ H' => ∃ (Rl1 Rl2 : List (Nat × Nd)) (rs bs : List V), m = Rl1.length ∧ Rl = Rl1 ++ Rl2 ∧ σ = [some (.ref a), some (.ref R), some (.int (k : Nat)), some (.ref B)] ∧ Same H H' ∧ Mk (also (also M R) B) H' ∧ H' R = some (.lst rs) ∧ H' B = some (.lst bs) ∧ RpAll (also (also M R) B) H' rs (Rl1.map rdE) ∧ RpAll (also (also M R) B) H' bs (Rl2.reverse.map fun p => p.2.enc) ∧ ∀ p ∈ Rl2, e.2.2 < p.1, ⟨_, Rl, [], rs, [], rfl, (List.append_nil _).symm, rfl, s3, hM3, eR, eB, rr, .nil, fun p hp => nomatch hp⟩, fun m σ H4 hW => ?_⟩
        obtain ⟨Rl1, Rl2, rs, bs, rfl, rfl, rfl, s4, hM4, eR, eB, r1, r2, hlv⟩ := hW
        have l1 := r1.length
        have l2 := r2.length
        rw [List.length_map] at l1
        rw [List.length_map, List.length_reverse] at l2
        rw [List.length_append] at k3
        have a4 := same_rd s4 ha
        have t4 := same_rd s4 ht
        walk_at "g"
        refine ⟨!rs.isEmpty, .inl ⟨_, SqL.of eR, rfl⟩, ?_⟩
        rcases nil_or_snoc Rl1 with rfl | ⟨Rs, pl, rfl⟩
        · have : rs = [] := List.length_eq_zero_iff.mp l1
          subst this
          exact hN _ _ ⟨[], Rl2, [], bs, rfl, rfl, s4, hM4, eR, eB, r1, r2, hlv, fun p hp => nomatch hp⟩
        · obtain ⟨pv, pn⟩ := pl
          rw [List.map_append] at r1
          obtain ⟨us, u1, rfl, rus, ru1⟩ := RpAll.last r1
          obtain ⟨w, ws, rfl, nw, hw, rw1⟩ := Rp.tupN ru1
          obtain ⟨x1, x2, rfl, y1, y2⟩ := rw1.inv2
          cases y1
          rw [show (!(us ++ [V.ref w]).isEmpty) = true by simp]
          walk_at "g"
          refine ⟨_, _, _, _, rfl, rfl, SqL.of eR, atI_last _ _, ?_⟩
          refine ⟨w, _, _, _, rfl, rfl, .inl hw, atI_nat (j := 0) rfl, ?_⟩
          walk_at "g"
          refine ⟨_, _, _, _, rfl, rfl, .inl a4, atI_nat hu, ?_⟩
          refine ⟨t, _, _, _, rfl, rfl, .inl t4, atI_nat (j := 2) rfl, ?_⟩
          walk_at "g"
          by_cases hc : (e.2.2 : Int) < (pv : Nat)
          · rw [decide_eq_true hc]
            refine ⟨fun σ' H' => ∃ (Rl1 Rl2' : List (Nat × Nd)) (rs bs : List V), (Rs ++ [(pv, pn)]) ++ Rl2 = Rl1 ++ Rl2' ∧ Rl1.length < (Rs ++ [(pv, pn)]).length ∧ σ' = [some (.ref a), some (.ref R), some (.int (k : Nat)), some (.ref B)] ∧ Same H H' ∧ Mk (also (also M R) B) H' ∧ H' R = some (.lst rs) ∧ H' B = some (.lst bs) ∧ RpAll (also (also M R) B) H' rs (Rl1.map rdE) ∧ RpAll (also (also M R) B) H' bs (Rl2'.reverse.map fun p => p.2.enc) ∧ ∀ p ∈ Rl2', e.2.2 < p.1, fun σ' H' z => ?_, ?_⟩
            · obtain ⟨A1, A2, rs', bs', z1, z2, z3, z4, z5, z6, z7, z8, z9, z10⟩ := z
              exact ⟨_, z2, A1, A2, rs', bs', rfl, z1, z3, z4, z5, z6, z7, z8, z9, z10⟩
            walk_at "g"
            refine ⟨.inl ⟨rfl, _, SqL.of eB⟩, ?_⟩
            walk_at "g"
            refine ⟨.inl ⟨rfl, _, SqL.of eR⟩, R, _, .ref w, rfl, rfl, eR, ?_, ?_⟩
            · rw [List.length_append, List.length_singleton, Nat.add_sub_cancel, List.getElem?_append_right (Nat.le_refl _), Nat.sub_self]
              rfl
            rw [List.dropLast_concat]
            have sR : Sx (also (also M R) B) H4 (upd H4 R (.lst us)) := Sx.put nR2
            have eR1 : upd H4 R (.lst us) R = some (.lst us) := upd_same
            have eB1 : upd H4 R (.lst us) B = some (.lst bs) := by rw [upd_ne (Ne.symm RB)]; exact eB
            have s5 : Same H (upd H4 R (.lst us)) := same_put s4 hR0
            have hM5 := hM4.gr (Gr.upd (p := R) (o := .lst us))
            have hw1 := sx_rd sR nw hw
            have y21 := y2.sx sR
            have rus1 := rus.sx sR
            have r21 := r2.sx sR
            generalize upd H4 R (.lst us) = H5 at eR1 eB1 s5 hM5 hw1 y21 rus1 r21
            refine ⟨w, _, _, _, rfl, rfl, .inl hw1, atI_nat (j := 1) rfl, ?_⟩
            refine ⟨B, bs, x2, rfl, rfl, eB1, ?_, ?_⟩
            · have : (Rs ++ [(pv, pn)]).length + Rl2.length ≤ i := k3
              exact small1000 (by omega)
            have sB : Sx (also (also M R) B) H5 (upd H5 B (.lst (bs ++ [x2]))) := Sx.put nB2
            refine ⟨Rs, (pv, pn) :: Rl2, us, bs ++ [x2], by simp, by simp, rfl, same_put s5 nB0, hM5.gr Gr.upd, by rw [upd_ne RB]; exact eR1, upd_same, rus1.sx sB, ?_, fun p hp => ?_⟩
            · rw [List.reverse_cons, List.map_append]
              exact (r21.append (.one y21)).sx sB
            · rcases List.mem_cons.mp hp with rfl | hp
              · show e.2.2 < pv
                omega
              · exact hlv p hp
          · rw [decide_eq_false hc]
            refine hN _ _ ⟨Rs ++ [(pv, pn)], Rl2, _, bs, by simp, rfl, s4, hM4, eR, eB, by rw [List.map_append]; exact r1, r2, hlv, fun p hp => ?_⟩
            rw [List.getLast?_concat] at hp
            cases hp
            show pv ≤ e.2.2
            omega
      obtain ⟨Rl1, Rl2, rs, bs, rfl, rfl, s4, hM4, eR, eB, r1, r2, hlv, hlast⟩ := c
      have a4 := same_rd s4 ha
      have t4 := same_rd s4 ht
      have l1 := r1.length
      rw [List.length_map] at l1
      rw [List.length_append] at k3
      walk_at "g"
      refine ⟨.inl ⟨rfl, _, SqL.of eR⟩, ?_⟩
      refine ⟨_, rfl, _, rfl, _, _, _, _, rfl, rfl, .inl a4, atI_nat hu, ?_⟩
      refine ⟨t, _, _, _, rfl, rfl, .inl t4, atI_nat (j := 2) rfl, ?_⟩
      refine ⟨_, rfl, _, rfl, _, _, _, _, rfl, rfl, .inl a4, atI_nat hu, ?_⟩
      refine ⟨t, _, _, _, rfl, rfl, .inl t4, atI_nat (j := 0) rfl, ?_⟩
      refine ⟨_, rfl, _, rfl, _, _, _, _, rfl, rfl, .inl a4, atI_nat hu, ?_⟩
      refine ⟨t, _, _, _, rfl, rfl, .inl t4, atI_nat (j := 1) rfl, ?_⟩
      refine ⟨_, rfl, B, bs, rfl, .inl ⟨SqL.of eB, fun p1 hp1 => ?_⟩⟩
      have hkids : (Rl2.reverse.map fun p => p.2.enc) = (Rl2.reverse.map (·.2)).map Nd.enc := by rw [List.map_map]; rfl
      rw [hkids] at r2
      generalize hks : Rl2.reverse.map (·.2) = ks at r2 hkids
      have rk : Rp (also (also M R) B) (upd H4 p1 (.tup bs)) (.ref p1) (.tuple (ks.map Nd.enc)) := Rp.newT hM4 hp1 r2
      have r1a := r1.sx (Sx.new hp1 (o := .tup bs))
      have eR1 := same_new hp1 (o := .tup bs) _ _ eR
      have s5 := s4.trans (same_new hp1 (o := .tup bs))
      have hM5 := hM4.gr (Gr.upd (p := p1) (o := .tup bs))
      generalize upd H4 p1 (.tup bs) = H5 at rk r1a eR1 s5 hM5
      refine ⟨szK rfl, fun p2 hp2 => ?_⟩
      have hp2 : H5 p2 = none := hp2
      have rn : Rp (also (also M R) B) (upd H5 p2 (.tup [.str e.1, .str e.2.1, .ref p1])) (.ref p2) (Nd.mk e.1 e.2.1 ks).enc := by
        rw [Nd.enc_eq]
        exact Rp.newT hM5 hp2 (.cons (.str _) (.cons (.str _) (.one rk)))
      have r1b := r1a.sx (Sx.new hp2 (o := .tup [.str e.1, .str e.2.1, .ref p1]))
      have eR2 := same_new hp2 (o := .tup [.str e.1, .str e.2.1, .ref p1]) _ _ eR1
      have s6 := s5.trans (same_new hp2 (o := .tup [.str e.1, .str e.2.1, .ref p1]))
      have hM6 := hM5.gr (Gr.upd (p := p2) (o := .tup [.str e.1, .str e.2.1, .ref p1]))
      generalize upd H5 p2 (.tup [.str e.1, .str e.2.1, .ref p1]) = H6 at rn r1b eR2 s6 hM6
      refine ⟨szK rfl, fun p3 hp3 => ?_⟩
      have hp3 : H6 p3 = none := hp3
      have rp : Rp (also (also M R) B) (upd H6 p3 (.tup [.int e.2.2, .ref p2])) (.ref p3) (rdE (e.2.2, Nd.mk e.1 e.2.1 ks)) := Rp.newT hM6 hp3 (.cons (.int _) (.one rn))
      have r1c := r1b.sx (Sx.new hp3 (o := .tup [.int e.2.2, .ref p2]))
      have eR3 := same_new hp3 (o := .tup [.int e.2.2, .ref p2]) _ _ eR2
      have s7 := s6.trans (same_new hp3 (o := .tup [.int e.2.2, .ref p2]))
      have hM7 := hM6.gr (Gr.upd (p := p3) (o := .tup [.int e.2.2, .ref p2]))
      generalize upd H6 p3 (.tup [.int e.2.2, .ref p2]) = H7 at rp r1c eR3 s7 hM7
      refine ⟨R, rs, .ref p3, rfl, rfl, eR3, small1000 (by omega), ?_⟩
      have sR : Sx (also (also M R) B) H7 (upd H7 R (.lst (rs ++ [.ref p3]))) := Sx.put nR2
      have he' : e ∈ es.drop k := by rw [de]; exact List.mem_cons_self
      refine ⟨⟨_, _, rfl⟩, same_put s7 hR0, fun c z => (hM7.gr Gr.upd) c (.inl z), rs ++ [.ref p3], Rl1 ++ [(e.2.2, Nd.mk e.1 e.2.1 ks)], upd_same, ?_, ?_, fun p hp => ?_, by rw [List.length_append, List.length_singleton]; omega, fun z => ?_⟩
      · rw [List.map_append]
        exact ((r1c.append (.one rp)).sx sR).less also_le
      · rw [d2, de, List.map_cons, List.reverse_append, List.map_append, List.flatten_append]
        rw [List.reverse_append, List.map_append, List.flatten_append] at k1
        rw [← k1]
        have : ([(e.2.2, Nd.mk e.1 e.2.1 ks)].reverse.map fun p : Nat × Nd => p.2.subs.map entN).flatten = entF e :: (Rl2.reverse.map fun p => p.2.subs.map entN).flatten := by
          show ((Nd.mk e.1 e.2.1 ks).subs.map entN ++ []) = _
          rw [List.append_nil, Nd.subs_eq, List.map_cons]
          congr 1
          show ((ks.map Nd.subs).flatten).map entN = _
          rw [List.map_flatten, ← hks, List.map_map, List.map_map]
          rfl
        rw [this, List.cons_append]
      · rw [d2]
        rcases List.mem_append.mp hp with hp | hp
        · obtain ⟨z1, e', z2, z3⟩ := k2 p (List.mem_append_left _ hp)
          exact ⟨z1, e', by rw [de]; exact List.mem_cons_of_mem _ z2, z3⟩
        · rw [List.mem_singleton.mp hp]
          refine ⟨?_, e, he', rfl⟩
          have hle := hdp e (List.mem_of_getElem? he)
          have : Nd.deps ks ≤ dp - e.2.2 := Nd.deps_le fun c hc => by
            rw [← hks] at hc
            obtain ⟨p', hp', rfl⟩ := List.mem_map.mp hc
            have hp' := List.mem_reverse.mp hp'
            have z1 := (k2 p' (List.mem_append_right _ hp')).1
            have z2 := hlv p' hp'
            omega
          rw [Nd.dep_eq]
          show Nd.deps ks + 1 + e.2.2 ≤ dp + 1
          omega
      · have k0 : k = 0 := by omega
        subst k0
        obtain ⟨e0, r0, rfl, z0, zr⟩ := hrt
        cases he
        refine ⟨Nd.mk e.1 e.2.1 ks, ?_⟩
        rcases nil_or_snoc Rl1 with rfl | ⟨Rs, pl, rfl⟩
        · rw [z0]
          rfl
        · have h1 := hlast pl List.getLast?_concat
          obtain ⟨_, e', m1, m2⟩ := k2 pl (List.mem_append_left _ (List.mem_append_right _ List.mem_cons_self))
          have := zr e' (by simpa using m1)
          omega
    · obtain ⟨⟨y2, y3, rfl⟩, s2, hM2, rs, Rl, eR, rr, k1, k2, k3, k4⟩ := p
      obtain ⟨n, rfl⟩ := k4 rfl
      obtain ⟨w, rfl, rw1⟩ := rr.inv1
      obtain ⟨t, ts, rfl, nt, ht, rt⟩ := Rp.tupN rw1
      obtain ⟨x1, x2, rfl, y1, y2'⟩ := rt.inv2
      cases y1
      walk_at "g"
      rw [Nat.sub_self, List.drop_zero] at k1
      have k1 : n.subs.map entN = es.map entF := by simpa using k1
      exact q _ _ n s2 (y2'.less also_le) k1 (by have := (k2 _ List.mem_cons_self).1; omega)
end
end D

namespace D
open PySem PySem.Spec PyProof.Rows L2
local macro_rules | `(tactic| walk_at "st") => `(tactic| first | exact SqT.of (by assumption) | exact Or.inl (by assumption) | exact SqT.of upd_same | fail "st")
local macro_rules | `(tactic| walk_at "ixt") => `(tactic| refine ⟨_, _, _, _, rfl, rfl, (by walk_at "st" : SqT _ _ _ _), by rfl, ?_⟩)
local macro_rules | `(tactic| walk_at "sq") => `(tactic| first | exact SqL.of (by assumption) | assumption | exact Or.inl (by assumption) | exact SqL.of upd_same | fail "sq")
local macro_rules | `(tactic| walk_at "ix") => `(tactic| refine ⟨_, _, _, _, rfl, rfl, (by walk_at "sq" : SqL _ _ _ _), by rfl, ?_⟩)
local macro_rules | `(tactic| walk_at "set") => `(tactic| refine ⟨_, _, _, _, rfl, rfl, by first | assumption | exact upd_same, by rfl, ?_⟩)
local macro_rules | `(tactic| walk_at "len") => `(tactic| refine ⟨_, _, rfl, Or.inl (by walk_at "sq" : SqL _ _ _ _), ?_⟩)
local macro_rules | `(tactic| walk_at "g") => `(tactic| repeat (first | refine ⟨_, rfl, ?_⟩ | refine ⟨_, _, rfl, rfl, ?_⟩ | refine ⟨Or.inr (by decide), ?_⟩ | refine ⟨Or.inl (by decide), ?_⟩ | refine ⟨(by decide : (0 : Int) < _), ?_⟩ | refine ⟨(⟨by decide, by decide⟩ : CDiv _ _), ?_⟩ | refine ⟨(⟨by decide, by decide, by decide⟩ : CPow _ _), ?_⟩ | refine Or.inl ⟨_, rfl, ?_⟩ | refine ⟨rfl, ?_⟩ | walk_at "ix" | walk_at "ixt" | walk_at "len" | fail "g"))
local macro_rules | `(tactic| walk_at "if") => `(tactic| refine ite2 (fun e => ?_) (fun e => ?_))
section
variable {P : Program} {w : World} {K : PySem.W.Frag} {mg : Str → Option Value} {base : Heap}
/-- trees that the law draws -/
structure goodT (n : Nd) : Prop where
  nd : n.marks.Nodup
  dep : n.dep ≤ 60
  len : n.subs.length ≤ 400
  txt : ∀ x ∈ n.subs, (x.mark.length ≤ 60 ∧ asc x.mark) ∧ x.label.length ≤ 30 ∧ asc x.label
theorem goodT_of {n : Nd} {es : List FlE} {ms : List Str} (h : n.subs.map entN = es.map entF) (hm : es.map (·.1) = ms) (g : goodMs ms) (hl : ms.length ≤ 400) (ht : ∀ e ∈ es, e.2.1.length ≤ 30 ∧ asc e.2.1) (hd : n.dep ≤ 60) : goodT n := by
  have e1 : n.marks = ms := by
    rw [← hm]
    have := congrArg (List.map Prod.fst) h
    rw [List.map_map, List.map_map] at this
    exact this
  have l1 : n.subs.length = es.length := by
    have := congrArg List.length h
    rwa [List.length_map, List.length_map] at this
  refine ⟨by rw [e1]; exact g.1, hd, by rw [l1]; have := congrArg List.length hm; rw [List.length_map] at this; omega, fun x hx => ?_⟩
  have hx' : entN x ∈ es.map entF := by rw [← h]; exact List.mem_map.mpr ⟨x, hx, rfl⟩
  obtain ⟨e, he, ee⟩ := List.mem_map.mp hx'
  have hmk : x.mark ∈ ms := by rw [← hm]; exact List.mem_map.mpr ⟨e, he, congrArg Prod.fst ee⟩
  have hlb : e.2.1 = x.label := congrArg Prod.snd ee
  exact ⟨g.2 _ hmk, by rw [← hlb]; exact (ht e he).1, by rw [← hlb]; exact (ht e he).2⟩
def sp_tree (K : PySem.W.Frag) : Sp := fun vs H Q _ => ∃ (b : Addr) (M : Ms), vs = [.ref b] ∧ Bag K M H b ∧ Mk M H ∧ Dr K M b H (fun d => ∃ n : Nd, d = n.enc ∧ goodT n) Q
theorem ok_tree (T : Txt K mg) : FnOk P w K mg base CX0 6 T.f__law_tree T.d__law_tree ["_law_bag_here"] (sp_tree K) := by
  have G__law_pick := ok_pick (P := P) (w := w) (base := base) T
  have G__law_marks := ok_marks (P := P) (w := w) (base := base) T
  have G__law_flat := ok_flat (P := P) (w := w) (base := base) T
  have G__law_grown := ok_grown (P := P) (w := w) (base := base) T
  refine T.F__law_tree.ok sc__law_tree (fun vs H Q E h => ?_) (fun cdv A outer s H vs Q E hr h => ?_)
  · obtain ⟨_, _, rfl, _⟩ := h
    rfl
  · obtain ⟨b, M, rfl, hB, hM, q⟩ := h
    refine ⟨_, (pss_cons (ps_if (pt_cmpR op_eq (pe_call G__law_pick (hr.mono (by omega)) (by rfl) T.g__law_pick T.F__law_pick.kp T.b__law_pick .nil pass0 (pa_cons (pv 0) (pa_cons pe_int pa_nil))) pe_int (nomark _)) (pss_cons (ps_set (i := 1) sc__law_tree.nd rfl (Or.inl rfl) (pe_call G__law_flat (hr.mono (by omega)) (by rfl) T.g__law_flat T.F__law_flat.kp T.b__law_flat .nil pass0 (pa_cons (pv 0) (pa_cons (pe_call G__law_marks (hr.mono (by omega)) (by rfl) T.g__law_marks T.F__law_marks.kp T.b__law_marks .nil pass0 (pa_cons (pv 0) (pa_cons (pe_op op_add pe_int (pe_call G__law_pick (hr.mono (by omega)) (by rfl) T.g__law_pick T.F__law_pick.kp T.b__law_pick .nil pass0 (pa_cons (pv 0) (pa_cons pe_int pa_nil)))) pa_nil))) (pa_cons pe_int pa_nil)))))
      (pss_one (ps_ret (pe_call G__law_grown (hr.mono (by omega)) (by rfl) T.g__law_grown T.F__law_grown.kp T.b__law_grown .nil pass0 (pa_cons (pe_lc (own := [("_law_mark", 2), ("_law_label_here", 3), ("_law_depth", 4)]) (g := gTup K 3 (gCons (gName 2) (gCons (gName 3) (gCons (gName 4) gNil)))) (tt := tYes) (by rfl) sc__law_tree.nd (pi_listK (K := K) rfl (pv 1)) (blkOk_by (own := [("_law_mark", 2), ("_law_label_here", 3), ("_law_depth", 4)]) (N := ["_law_bag_here", "_law_flat_here", "_law_mark", "_law_label_here", "_law_depth"]) (sc := defScope s__law_tree) (by decide +kernel)) (fun _ _ _ _ _ => (pg_tupK (K := K) rfl rfl (pgs_cons (pg_name (i := 2) sc__law_tree.nd rfl (Or.inl rfl)) (pgs_cons (pg_name (i := 3) sc__law_tree.nd rfl (Or.inl rfl)) (pgs_cons (pg_name (i := 4) sc__law_tree.nd rfl (Or.inl rfl)) pgs_nil))))) (fun _ _ _ _ _ => pts_nil) (fun _ _ _ _ _ => (pe_tup (pa_cons (pv 2) (pa_cons (pe_slice sl_str (pv 3) po_none (po_some pe_int)) (pa_cons (pv 4) pa_nil)))))) pa_nil))))) pss_nil)
      (pss_one (ps_ret (pe_call G__law_grown (hr.mono (by omega)) (by rfl) T.g__law_grown T.F__law_grown.kp T.b__law_grown .nil pass0 (pa_cons (pe_call G__law_flat (hr.mono (by omega)) (by rfl) T.g__law_flat T.F__law_flat.kp T.b__law_flat .nil pass0 (pa_cons (pv 0) (pa_cons (pe_call G__law_marks (hr.mono (by omega)) (by rfl) T.g__law_marks T.F__law_marks.kp T.b__law_marks .nil pass0 (pa_cons (pv 0) (pa_cons (pe_op op_add pe_int (pe_call G__law_pick (hr.mono (by omega)) (by rfl) T.g__law_pick T.F__law_pick.kp T.b__law_pick .nil pass0 (pa_cons (pv 0) (pa_cons pe_int pa_nil)))) pa_nil))) (pa_cons pe_int pa_nil)))) pa_nil))))), ?_⟩
    walk_at "g"
    refine ⟨b, 8, M, rfl, hB, by omega, by omega, fun w1 H1 a0 a1 hA1 hB1 => ?_⟩
    have s1 := hA1.sx
    have g1 : Gr H H1 := At.gr hA1 hB1.there
    have E1 : Ds K M b H1 [] [] := ⟨hB1, hM.gr g1, .nil⟩
    walk_at "g"
    by_cases c6 : w1 = 7
    · subst c6
      walk_at "g"
      refine ⟨b, 26, M, rfl, hB1, by omega, by omega, fun w2 H2 b0 b1 hA2 hB2 => ?_⟩
      obtain ⟨n, rfl⟩ : ∃ k : Nat, w2 = (k : Int) := ⟨w2.toNat, by omega⟩
      have E2 := E1.pick hA2 hB2
      walk_at "g"
      refine ⟨b, 15 + n, M, by show _ = [V.ref b, V.int ((15 + n : Nat) : Int)]; rw [show ((15 + n : Nat) : Int) = 15 + (n : Int) by omega]; rfl, hB2, E2.ok, by omega, by omega, fun v3 H3 d3 s3 g3 hB3 r3 hd3 => ?_⟩
      obtain ⟨ms, rfl, lm, gm⟩ := hd3
      have E3 := E2.draw s3 g3 hB3 r3
      walk_at "g"
      refine ⟨b, v3, 5, ms, M, rfl, hB3, E3.ok, r3, (fun z => by rw [z, List.length_nil] at lm; omega), by omega, by omega, by omega, fun v4 H4 d4 s4 g4 hB4 r4 hd4 => ?_⟩
      obtain ⟨es, rfl, k1, k2, k3⟩ := hd4
      have E4 := E3.draw s4 g4 hB4 r4
      have s14 : Sx (one b) H H4 := s1.trans (hA2.sx.trans (s3.trans s4))
      have g14 : Gr H H4 := g1.trans ((At.gr hA2 hB2.there).trans (g3.trans g4))
      have les : es.length = 15 + n := by rw [← lm, ← k1, List.length_map]
      obtain ⟨a, xs, rfl, na, ha, rx⟩ := Rp.lstN r4
      have lx := rx.length
      rw [List.length_map] at lx
      walk_at "g"
      refine ⟨⟨_, .inl ha⟩, fun D hD => ?_⟩
      have nD : ¬ M D := E4.ok.out hD
      have hM5 : Mk (also M D) (upd H4 D (.lst [])) := E4.ok.new.also upd_there
      have es2 : ∃ c : FlE → FlE, c = fun e => (e.1, cutS e.2.1 none (some 3), e.2.2) := ⟨_, rfl⟩
      obtain ⟨c, hc⟩ := es2
      refine list_loop (K := K) (a := a) (xs := xs) (fun j H' => Same H4 H' ∧ Mk (also M D) H' ∧ ∃ vs, H' D = some (.lst vs) ∧ RpAll (also M D) H' vs ((es.take j).map fun e => flE (c e))) ⟨same_new hD, hM5, [], upd_same, .nil⟩ (fun j H' _ z => .inl (same_rd z.1 ha)) (fun j x6 H' hx6 p => ?_) (fun H7 p => ?_)
      · obtain ⟨s7, hM7, vs, eD, rv⟩ := p
        obtain ⟨d6, hd6, ru⟩ := rx.get hx6
        rw [List.getElem?_map] at hd6
        obtain ⟨e6, he6, rfl⟩ := Option.map_eq_some_iff.mp hd6
        have hj := (List.getElem?_eq_some_iff.mp he6).1
        have hb6 := k2 e6 (List.mem_of_getElem? he6)
        obtain ⟨t, ts, rfl, nt, ht, rt⟩ := Rp.tupN ru
        obtain ⟨t1, t2, t3, rfl, q1, q2, q3⟩ := rt.inv3
        cases q1; cases q2; cases q3
        have t7 := same_rd s7 ht
        refine ⟨t, _, rfl, .inl t7, rfl, _, _, rfl, _, _, rfl, _, _, rfl, rfl, rfl, ?_⟩
        walk_at "g"
        refine ⟨Nat.le_of_lt (small1000 (by have := hb6.1; omega)), ?_⟩
        walk_at "g"
        have lv := rv.length
        rw [List.length_map, List.length_take] at lv
        refine ⟨szK rfl, fun p6 hp6 => ?_⟩
        have hp6 : H' p6 = none := hp6
        have rn : Rp (also M D) (upd H' p6 (.tup [.str e6.1, .str (cutS e6.2.1 none (some 3)), .int e6.2.2])) (.ref p6) (flE (c e6)) := by
          rw [hc]
          exact Rp.newT hM7 hp6 (.cons (.str _) (.cons (.str _) (.one (.int _))))
        have rv' := rv.sx (Sx.new hp6 (o := .tup [.str e6.1, .str (cutS e6.2.1 none (some 3)), .int e6.2.2]))
        have eD' := same_new hp6 (o := .tup [.str e6.1, .str (cutS e6.2.1 none (some 3)), .int e6.2.2]) _ _ eD
        have s8 := s7.trans (same_new hp6 (o := .tup [.str e6.1, .str (cutS e6.2.1 none (some 3)), .int e6.2.2]))
        refine ⟨_, eD', small1000 (by omega), same_put s8 hD, (hM7.gr Gr.upd).gr Gr.upd, _, upd_same, ?_⟩
        rw [List.take_add_one, he6, List.map_append]
        exact (rv'.append (.one rn)).sx (Sx.put (.inr rfl))
      obtain ⟨s7, hM7, vs, eD, rv⟩ := p
      rw [List.take_of_length_le (show es.length ≤ xs.length by omega)] at rv
      walk_at "g"
      have rD : Rp M H7 (.ref D) (.list ((es.map c).map flE)) := by
        rw [List.map_map]
        exact .lst nD (.inl eD) (rv.less also_le)
      have c1 : (es.map c).map (·.1) = ms := by
        rw [List.map_map, ← k1, hc]
        rfl
      refine ⟨_, 5, _, M, rfl, rD, E4.ok.gr (Gr.same s7), by rw [List.length_map]; omega, fun e he => ?_, ?_, fun v5 H5 t s5 r5 q1 q2 => ?_⟩
      · obtain ⟨k, hk, rfl⟩ := List.mem_map.mp he
        rw [hc]
        exact (k2 k hk).2.2
      · obtain ⟨e0, r0, rfl, z0, z1⟩ := k3
        rw [List.map_cons]
        refine ⟨_, _, rfl, by rw [hc]; exact z0, fun x hx => ?_⟩
        obtain ⟨k, hk, rfl⟩ := List.mem_map.mp hx
        rw [hc]
        exact z1 k hk
      · refine q _ _ _ (s14.trans (Sx.same (s7.trans s5))) (g14.trans (Gr.same (s7.trans s5))) (hB4.same (s7.trans s5)) r5 ⟨t, rfl, goodT_of (es := es.map c) q1 c1 gm (by omega) (fun e he => ?_) (by omega)⟩
        obtain ⟨k, hk, rfl⟩ := List.mem_map.mp he
        rw [hc]
        have z := k2 k hk
        exact ⟨Nat.le_trans (cutS_length _ _ _) z.1, asc_cut z.2.1⟩
    · rw [decide_eq_false (show ¬ V.int w1 = V.int 7 from fun z => c6 (by injection z))]
      walk_at "g"
      refine ⟨b, 14, M, rfl, hB1, by omega, by omega, fun w2 H2 b0 b1 hA2 hB2 => ?_⟩
      obtain ⟨n, rfl⟩ : ∃ k : Nat, w2 = (k : Int) := ⟨w2.toNat, by omega⟩
      have E2 := E1.pick hA2 hB2
      walk_at "g"
      refine ⟨b, 1 + n, M, by show _ = [V.ref b, V.int ((1 + n : Nat) : Int)]; rw [show ((1 + n : Nat) : Int) = 1 + (n : Int) by omega]; rfl, hB2, E2.ok, by omega, by omega, fun v3 H3 d3 s3 g3 hB3 r3 hd3 => ?_⟩
      obtain ⟨ms, rfl, lm, gm⟩ := hd3
      have E3 := E2.draw s3 g3 hB3 r3
      walk_at "g"
      refine ⟨b, v3, 5, ms, M, rfl, hB3, E3.ok, r3, (fun z => by rw [z, List.length_nil] at lm; omega), by omega, by omega, by omega, fun v4 H4 d4 s4 g4 hB4 r4 hd4 => ?_⟩
      obtain ⟨es, rfl, k1, k2, k3⟩ := hd4
      have E4 := E3.draw s4 g4 hB4 r4
      walk_at "g"
      have les : es.length = 1 + n := by rw [← lm, ← k1, List.length_map]
      refine ⟨v4, 5, es, M, rfl, r4, E4.ok, by omega, fun e he => (k2 e he).2.2, k3, fun v5 H5 t s5 r5 q1 q2 => ?_⟩
      exact q _ _ _ (s1.trans (hA2.sx.trans (s3.trans (s4.trans (Sx.same s5))))) (g1.trans ((At.gr hA2 hB2.there).trans (g3.trans (g4.trans (Gr.same s5))))) (hB4.same s5) r5 ⟨t, rfl, goodT_of q1 k1 gm (by omega) (fun e he => ⟨(k2 e he).1, (k2 e he).2.1⟩) (by omega)⟩
end
end D

namespace D
open PySem PySem.Spec PyProof.Rows L2
local macro_rules | `(tactic| walk_at "st") => `(tactic| first | exact SqT.of (by assumption) | exact Or.inl (by assumption) | exact SqT.of upd_same | fail "st")
local macro_rules | `(tactic| walk_at "ixt") => `(tactic| refine ⟨_, _, _, _, rfl, rfl, (by walk_at "st" : SqT _ _ _ _), by rfl, ?_⟩)
local macro_rules | `(tactic| walk_at "sq") => `(tactic| first | exact SqL.of (by assumption) | assumption | exact Or.inl (by assumption) | exact SqL.of upd_same | fail "sq")
local macro_rules | `(tactic| walk_at "ix") => `(tactic| refine ⟨_, _, _, _, rfl, rfl, (by walk_at "sq" : SqL _ _ _ _), by rfl, ?_⟩)
local macro_rules | `(tactic| walk_at "set") => `(tactic| refine ⟨_, _, _, _, rfl, rfl, by first | assumption | exact upd_same, by rfl, ?_⟩)
local macro_rules | `(tactic| walk_at "len") => `(tactic| refine ⟨_, _, rfl, Or.inl (by walk_at "sq" : SqL _ _ _ _), ?_⟩)
local macro_rules | `(tactic| walk_at "g") => `(tactic| repeat (first | refine ⟨_, rfl, ?_⟩ | refine ⟨_, _, rfl, rfl, ?_⟩ | refine ⟨Or.inr (by decide), ?_⟩ | refine ⟨Or.inl (by decide), ?_⟩ | refine ⟨(by decide : (0 : Int) < _), ?_⟩ | refine ⟨(⟨by decide, by decide⟩ : CDiv _ _), ?_⟩ | refine ⟨(⟨by decide, by decide, by decide⟩ : CPow _ _), ?_⟩ | refine Or.inl ⟨_, rfl, ?_⟩ | refine ⟨rfl, ?_⟩ | walk_at "ix" | walk_at "ixt" | walk_at "len" | fail "g"))
local macro_rules | `(tactic| walk_at "if") => `(tactic| refine ite2 (fun e => ?_) (fun e => ?_))
section
variable {P : Program} {w : World} {K : PySem.W.Frag} {mg : Str → Option Value} {base : Heap}
def sp_nodes (n0 : Nat) : Sp := fun vs H Q _ => ∃ (v : V) (n : Nd) (M : Ms), vs = [v] ∧ Rp M H v n.enc ∧ Mk M H ∧ n.dep ≤ n0 ∧ n.subs.length ≤ 400 ∧ ∀ H' p us, Same H H' → H p = none → H' p = some (.lst us) → RpAll M H' us (n.subs.map Nd.enc) → Q (.ref p) H'
theorem flat_len {α : Type} {f : α → List α} : ∀ {ks : List α} {k : α}, k ∈ ks → (f k).length ≤ ((ks.map f).flatten).length
  | q :: r, k, h => by
    rw [List.map_cons, List.flatten_cons, List.length_append]
    rcases List.mem_cons.mp h with rfl | h
    · omega
    · have := flat_len (f := f) h
      omega
theorem take_flat {α β : Type} (f : α → List β) (l : List α) (i : Nat) (x : α) (h : l[i]? = some x) : ((l.take (i + 1)).map f).flatten = ((l.take i).map f).flatten ++ f x := by
  rw [List.take_add_one, h, Option.toList_some, List.map_append, List.flatten_append]
  simp
theorem flat_take_le {α β : Type} (f : α → List β) (l : List α) (i : Nat) : (((l.take i).map f).flatten).length ≤ ((l.map f).flatten).length := by
  have e : l = l.take i ++ l.drop i := (List.take_append_drop i l).symm
  have h2 : (l.map f).flatten = ((l.take i).map f).flatten ++ ((l.drop i).map f).flatten := by rw [← List.flatten_append, ← List.map_append, ← e]
  rw [h2, List.length_append]
  omega
theorem ok_nodes (T : Txt K mg) : ∀ n0, FnOk P w K mg base CX0 (n0 + 1) T.f_nodes_in T.d_nodes_in ["node"] (sp_nodes n0) := by
  intro n0
  induction n0 with
  | zero =>
    refine T.F_nodes_in.ok sc_nodes_in (fun vs H Q E h => ?_) (fun cdv A outer s H vs Q E hr h => ?_)
    · obtain ⟨_, _, _, rfl, _⟩ := h
      rfl
    · obtain ⟨v, n, M, rfl, _, _, hd, _⟩ := h
      exact absurd n.dep_pos (by omega)
  | succ n0 ih =>
    have G_nodes_in := ih
    refine T.F_nodes_in.ok sc_nodes_in (fun vs H Q E h => ?_) (fun cdv A outer s H vs Q E hr h => ?_)
    · obtain ⟨_, _, _, rfl, _⟩ := h
      rfl
    · obtain ⟨v, n, M, rfl, hR, hM, hd, hl, q⟩ := h
      have hR0 := hR
      rw [Nd.enc_eq] at hR
      obtain ⟨t, ts, rfl, nt, ht, rt⟩ := Rp.tupN hR
      obtain ⟨x1, x2, x3, rfl, q1, q2, q3⟩ := rt.inv3
      cases q1; cases q2
      obtain ⟨c, cs, rfl, nc, hc, rc⟩ := Rp.tupN q3
      have lc := rc.length
      rw [List.length_map] at lc
      refine ⟨_, (pss_cons (ps_set (i := 1) sc_nodes_in.nd rfl (Or.inl rfl) (pe_lst (pa_cons (pv 0) pa_nil)))
      (pss_cons (ps_for PassesOwn.never rfl (pi_tupK (K := K) rfl (pe_ix (ix_tupK (K := K) rfl) (pv 0) pe_int (fun _ _ => rfl))) (pg_name (i := 2) sc_nodes_in.nd rfl (Or.inl rfl)) (pss_one (ps_expr (pe_bmK2 (K := K) rfl PySem.F.plainAttrs_list PySem.F.slot_list_extend PySem.F.type_list_extend mt_extend (pv 1) (pa_cons (pe_call G_nodes_in (hr.mono (by omega)) (by rfl) T.g_nodes_in T.F_nodes_in.kp T.b_nodes_in .nil pass0 (pa_cons (pv 2) pa_nil)) pa_nil)))))
      (pss_one (ps_ret (pv 1))))), ?_⟩
      walk_at "g"
      refine ⟨szK rfl, fun o ho => ?_⟩
      have eo : upd H o (.lst [.ref t]) o = some (.lst [.ref t]) := upd_same
      have s1 : Same H (upd H o (.lst [.ref t])) := same_new ho
      have hM1 : Mk (also M o) (upd H o (.lst [.ref t])) := hM.new.also upd_there
      have r1 : Rp (also M o) (upd H o (.lst [.ref t])) (.ref t) n.enc := (hR0.fresh ho).sx (Sx.new ho)
      generalize upd H o (.lst [.ref t]) = H1 at eo s1 hM1 r1
      have ht1 := same_rd s1 ht
      have hc1 := same_rd s1 hc
      walk_at "g"
      refine ⟨⟨_, .inl hc1⟩, ?_⟩
      have se := n.subs_eq
      have ln : ((n.kids.map Nd.subs).flatten).length + 1 = n.subs.length := by rw [se]; rfl
      refine for_tup (K := K) (a := c) (xs := cs) (fun i σ H' => (∃ y2, σ = [some (.ref t), some (.ref o), y2]) ∧ Same H H' ∧ Mk (also M o) H' ∧ ∃ us, H' o = some (.lst us) ∧ RpAll (also M o) H' us ((n :: ((n.kids.take i).map Nd.subs).flatten).map Nd.enc)) ⟨⟨_, rfl⟩, s1, hM1, _, eo, .one r1⟩ (fun i σ H' _ p => same_sqt p.2.1 (.inl hc)) (fun i x σ H' hx p => ?_) (fun σ H' p => ?_)
      · obtain ⟨⟨y2, rfl⟩, s2, hM2, us, eo2, ru⟩ := p
        obtain ⟨d, hd2, rx⟩ := rc.get hx
        rw [List.getElem?_map] at hd2
        obtain ⟨k, hk, rfl⟩ := Option.map_eq_some_iff.mp hd2
        have km := List.mem_of_getElem? hk
        have kd := Nd.dep_kid km
        have kl := flat_len (f := Nd.subs) km
        walk_at "g"
        refine ⟨.inl ⟨rfl, _, SqL.of eo2⟩, ?_⟩
        walk_at "g"
        have ro : Rp (also M o) H' x k.enc := (rx.fresh ho).sx (Sx.same s2)
        refine ⟨x, k, also M o, rfl, ro, hM2, by omega, by omega, fun H3 p3 vs3 s3 hp3 e3 r3 => ?_⟩
        have eo3 := s3 _ _ eo2
        have lu := ru.length
        have l3 := r3.length
        rw [List.length_map] at lu l3
        have tf := take_flat Nd.subs n.kids i k hk
        have tl := flat_take_le Nd.subs n.kids (i + 1)
        rw [tf, List.length_append] at tl
        refine ⟨o, p3, _, _, rfl, rfl, eo3, e3, ?_, ?_⟩
        · rw [lu, l3, List.length_cons]
          exact Nat.le_of_lt (small1000 (by omega))
        · refine ⟨⟨_, rfl⟩, same_put (s2.trans s3) ho, (hM2.gr (Gr.same s3)).gr Gr.upd, _, upd_same, ?_⟩
          rw [tf, ← List.cons_append, List.map_append]
          exact ((ru.sx (Sx.same s3)).append r3).sx (Sx.put (.inr rfl))
      · obtain ⟨⟨y2, rfl⟩, s2, hM2, us, eo2, ru⟩ := p
        walk_at "g"
        rw [lc, List.take_of_length_le (Nat.le_refl _), ← se] at ru
        exact q _ _ _ s2 ho eo2 (ru.less also_le)
theorem nd_take {α : Type} {ms : List α} {m : α} {i : Nat} (h : ms.Nodup) (hm : ms[i]? = some m) : m ∉ ms.take i := by
  obtain ⟨hi, e⟩ := List.getElem?_eq_some_iff.mp hm
  have e1 : ms = ms.take i ++ m :: ms.drop (i + 1) := by rw [← e, List.getElem_cons_drop hi, List.take_append_drop]
  rw [e1, List.nodup_append] at h
  exact fun z => h.2.2 m z m List.mem_cons_self rfl
def sp_twice (K : PySem.W.Frag) : Sp := fun vs H Q _ => ∃ (a k : Addr) (ms : List Str), vs = [.ref a, .ref k] ∧ SqL K H a (ms.map V.str) ∧ SqL K H k [] ∧ ms.Nodup ∧ ms.length ≤ 400 ∧ ∀ H', Same H H' → Q .non H'
theorem ok_twice (T : Txt K mg) : FnOk P w K mg base CX0 1 T.f_first_twice T.d_first_twice ["marks", "known"] (sp_twice K) := by
  refine T.F_first_twice.ok sc_first_twice (fun vs H Q E h => ?_) (fun cdv A outer s H vs Q E hr h => ?_)
  · obtain ⟨_, _, _, rfl, _⟩ := h
    rfl
  · obtain ⟨a, k, ms, rfl, ha, hk, hnd, hl, q⟩ := h
    refine ⟨_, (pss_cons (ps_set (i := 2) sc_first_twice.nd rfl (Or.inl rfl) (pe_callTy (call_setE rfl) (by rfl) T.m_set (by decide +kernel) (pa_cons (pv 1) pa_nil)))
      (pss_cons (ps_for PassesOwn.never rfl (pi_listK (K := K) rfl (pv 0)) (pg_name (i := 3) sc_first_twice.nd rfl (Or.inl rfl)) (pss_cons (ps_if (pt_cmpR or_sinK (pv 3) (pv 2) (by rfl)) (pss_one (ps_ret (pv 3))) pss_nil)
      (pss_one (ps_expr (pe_saddK (pv 2) (pa_cons (pv 3) pa_nil))))))
      (pss_one (ps_ret pe_non)))), ?_⟩
    walk_at "g"
    refine ⟨hk, fun o ho => ?_⟩
    have ha1 := (Same.seq (same_new (o := SetK P w o (fun _ => false) 0) ho) ha)
    have e1 : upd H o (SetK P w o (fun _ => false) 0) o = some (SetK P w o (fun _ => false) 0) := upd_same
    have s1 : Same H (upd H o (SetK P w o (fun _ => false) 0)) := same_new ho
    walk_at "g"
    refine ⟨⟨_, ha1⟩, ?_⟩
    refine for_list (K := K) (a := a) (xs := ms.map V.str) (fun i σ H' => (∃ y3, σ = [some (.ref a), some (.ref k), some (.ref o), y3]) ∧ Same H H' ∧ ∃ S n, H' o = some (SetK P w o S n) ∧ (∀ m, S (.inr m) = decide (m ∈ ms.take i)) ∧ n ≤ i) ⟨⟨_, rfl⟩, s1, _, 0, e1, fun m => by simp, Nat.le_refl _⟩ (fun i σ H' _ p => p.2.1.seq ha) (fun i x σ H' hx p => ?_) (fun σ H' p => ?_)
    · obtain ⟨⟨y3, rfl⟩, s2, S, n, e2, hS, hn⟩ := p
      rw [List.getElem?_map] at hx
      obtain ⟨m, hm, rfl⟩ := Option.map_eq_some_iff.mp hx
      have hi := (List.getElem?_eq_some_iff.mp hm).1
      have nm := nd_take hnd hm
      walk_at "g"
      refine ⟨.inr m, o, S, n, rfl, rfl, e2, ?_⟩
      rw [hS, decide_eq_false nm]
      walk_at "g"
      refine ⟨⟨o, S, n, rfl, e2⟩, ?_⟩
      walk_at "g"
      refine ⟨o, .inr m, S, n, rfl, rfl, e2, ?_, ?_⟩
      · unfold scanBound
        omega
      · refine ⟨⟨_, rfl⟩, same_put s2 ho, _, _, upd_same, fun m' => ?_, ?_⟩
        · show (S (.inr m') || decide ((Sum.inr m' : Key) = .inr m)) = _
          rw [hS, List.take_add_one, hm]
          have : (decide ((Sum.inr m' : Key) = .inr m)) = decide (m' = m) := decide_eq_decide.mpr ⟨fun z => by injection z, fun z => by rw [z]⟩
          rw [this]
          simp [List.mem_append]
        · split <;> omega
    · obtain ⟨⟨y3, rfl⟩, s2, _⟩ := p
      walk_at "g"
      exact q _ s2
end
end D

namespace D
open PySem PySem.Spec PyProof.Rows L2
local macro_rules | `(tactic| walk_at "st") => `(tactic| first | exact SqT.of (by assumption) | exact Or.inl (by assumption) | exact SqT.of upd_same | fail "st")
local macro_rules | `(tactic| walk_at "ixt") => `(tactic| refine ⟨_, _, _, _, rfl, rfl, (by walk_at "st" : SqT _ _ _ _), by rfl, ?_⟩)
local macro_rules | `(tactic| walk_at "sq") => `(tactic| first | exact SqL.of (by assumption) | assumption | exact Or.inl (by assumption) | exact SqL.of upd_same | fail "sq")
local macro_rules | `(tactic| walk_at "ix") => `(tactic| refine ⟨_, _, _, _, rfl, rfl, (by walk_at "sq" : SqL _ _ _ _), by rfl, ?_⟩)
local macro_rules | `(tactic| walk_at "set") => `(tactic| refine ⟨_, _, _, _, rfl, rfl, by first | assumption | exact upd_same, by rfl, ?_⟩)
local macro_rules | `(tactic| walk_at "len") => `(tactic| refine ⟨_, _, rfl, Or.inl (by walk_at "sq" : SqL _ _ _ _), ?_⟩)
local macro_rules | `(tactic| walk_at "g") => `(tactic| repeat (first | refine ⟨_, rfl, ?_⟩ | refine ⟨_, _, rfl, rfl, ?_⟩ | refine ⟨Or.inr (by decide), ?_⟩ | refine ⟨Or.inl (by decide), ?_⟩ | refine ⟨(by decide : (0 : Int) < _), ?_⟩ | refine ⟨(⟨by decide, by decide⟩ : CDiv _ _), ?_⟩ | refine ⟨(⟨by decide, by decide, by decide⟩ : CPow _ _), ?_⟩ | refine Or.inl ⟨_, rfl, ?_⟩ | refine ⟨rfl, ?_⟩ | walk_at "ix" | walk_at "ixt" | walk_at "len" | fail "g"))
local macro_rules | `(tactic| walk_at "if") => `(tactic| refine ite2 (fun e => ?_) (fun e => ?_))
section
variable {P : Program} {w : World} {K : PySem.W.Frag} {mg : Str → Option Value} {base : Heap}
def sRoot : Str := Str.ofString "_root"
def sNodes : Str := Str.ofString "_nodes"
def sParents : Str := Str.ofString "_parents"
theorem putF_ne {f g : Str} {v x : V} {r : List (Str × V)} (h : ¬ g = f) : putF f v ((g, x) :: r) = (g, x) :: putF f v r := by
  show (if g = f then _ else _) = _
  rw [if_neg h]
theorem pf_nodes (v x : V) : putF (Str.ofString "_nodes") x [(sRoot, v)] = [(sRoot, v), (sNodes, x)] := by
  rw [putF_ne (by decide +kernel)]
  rfl
theorem pf_parents (v x y : V) : putF (Str.ofString "_parents") y [(sRoot, v), (sNodes, x)] = [(sRoot, v), (sNodes, x), (sParents, y)] := by
  rw [putF_ne (by decide +kernel), putF_ne (by decide +kernel)]
  rfl
theorem flat_ge {α : Type} {f : α → List α} (h : ∀ k, 1 ≤ (f k).length) : ∀ ks : List α, ks.length ≤ ((ks.map f).flatten).length
  | [] => Nat.le_refl _
  | k :: r => by
    rw [List.map_cons, List.flatten_cons, List.length_append, List.length_cons]
    have := flat_ge h r
    have := h k
    omega
theorem kids_len (n : Nd) : n.kids.length < n.subs.length := by
  rw [Nd.subs_eq, List.length_cons]
  have := flat_ge (f := Nd.subs) (fun k => k.subs_len_pos) n.kids
  omega
theorem sub_len_le : ∀ (n : Nd), ∀ k ∈ n.subs, k.subs.length ≤ n.subs.length := Nd.ind (p := fun n => ∀ k ∈ n.subs, k.subs.length ≤ n.subs.length) fun n ih k hk => by
  rw [Nd.subs_eq n] at hk
  rcases List.mem_cons.mp hk with rfl | hk
  · exact Nat.le_refl _
  · obtain ⟨l, hl, hkl⟩ := List.mem_flatten.mp hk
    obtain ⟨c, hc, rfl⟩ := List.mem_map.mp hl
    have h1 := ih c hc k hkl
    have h2 := flat_len (f := Nd.subs) hc
    rw [Nd.subs_eq n, List.length_cons]
    omega
theorem zip_fst {α β : Type} : ∀ (a : List α) (b : List β), a.length = b.length → (a.zip b).map (·.1) = a
  | [], _, _ => by simp
  | x :: r, [], h => by simp at h
  | x :: r, y :: q, h => by
    rw [List.zip_cons_cons, List.map_cons, zip_fst r q (by simpa using h)]
/-- a page of the tree n -/
def PageAt (C : Addr) (M : Ms) (H : Hp) (v : V) (n : Nd) (r : V) : Prop := ∃ (a dx : Addr) (dn : Addr) (on : Obj) (pv : V) (us : List V), v = .ref a ∧ ¬ M a ∧ H a = some (.ins C dx [(sRoot, r), (sNodes, .ref dn), (sParents, pv)]) ∧ Rp M H r n.enc ∧ ¬ M dn ∧ H dn = some (.frz on (.dK (kvS (n.marks.zip us)))) ∧ RpAll M H us (n.subs.map Nd.enc)
theorem PageAt.sx {C : Addr} {M : Ms} {H H' : Hp} {v r : V} {n : Nd} (h : PageAt C M H v n r) (s : Sx M H H') : PageAt C M H' v n r := by
  obtain ⟨a, dx, dn, on, pv, us, rfl, na, ha, hr, nn, hn, hu⟩ := h
  exact ⟨a, dx, dn, on, pv, us, rfl, na, s _ _ na ha, hr.sx s, nn, s _ _ nn hn, hu.sx s⟩
def sp_page (C : Addr) : Sp := fun vs H Q _ => ∃ (a dx : Addr) (v : V) (n : Nd) (M : Ms), vs = [.ref a, v] ∧ H a = some (.ins C dx []) ∧ M a ∧ Rp M H v n.enc ∧ Mk M H ∧ goodT n ∧
  ∀ H' dn on pv us, Sx (one a) H H' → Gr H H' → H' a = some (.ins C dx [(sRoot, v), (sNodes, .ref dn), (sParents, pv)]) → ¬ M dn → H' dn = some (.frz on (.dK (kvS (n.marks.zip us)))) → RpAll M H' us (n.subs.map Nd.enc) → Q .non H'
theorem ok_page (T : Txt K mg) : FnOk P w K mg base CX0 62 T.f_Page___init__ T.d_Page___init__ ["self", "root"] (sp_page T.C_Page) := by
  have G_nodes_in := ok_nodes (P := P) (w := w) (base := base) T 60
  have G_first_twice := ok_twice (P := P) (w := w) (base := base) T
  refine T.F_Page___init__.ok sc_Page___init__ (fun vs H Q E h => ?_) (fun cdv A outer s H vs Q E hr h => ?_)
  · obtain ⟨_, _, _, _, _, rfl, _⟩ := h
    rfl
  · obtain ⟨a, dx, v, n, M, rfl, ha, ma, hR, hM, hg, q⟩ := h
    refine ⟨_, (pss_cons (ps_set (i := 2) sc_Page___init__.nd rfl (Or.inl rfl) (pe_call G_nodes_in (hr.mono (by omega)) (by rfl) T.g_nodes_in T.F_nodes_in.kp T.b_nodes_in .nil pass0 (pa_cons (pv 1) pa_nil)))
      (pss_cons (ps_set (i := 3) sc_Page___init__.nd rfl (Or.inl rfl) (pe_call G_first_twice (hr.mono (by omega)) (by rfl) T.g_first_twice T.F_first_twice.kp T.b_first_twice .nil pass0 (pa_cons (pe_lc (own := [("node", 4)]) (g := gName 4) (tt := tYes) (by rfl) sc_Page___init__.nd (pi_listK (K := K) rfl (pv 2)) (blkOk_by (own := [("node", 4)]) (N := ["self", "root", "nodes", "twice", "node", "child"]) (sc := defScope s_Page___init__) (by decide +kernel)) (fun _ _ _ _ _ => (pg_name (i := 4) sc_Page___init__.nd rfl (Or.inl rfl))) (fun _ _ _ _ _ => pts_nil) (fun _ _ _ _ _ => (pe_ix (ix_tupK (K := K) rfl) (pv 4) pe_int (fun _ _ => rfl)))) (pa_cons (pe_lst pa_nil) pa_nil))))
      (pss_cons (ps_if (pt_cmpR op_notN (pv 3) pe_non (nomark _)) (pss_one ps_never) pss_nil)
      (pss_cons (ps_if (pt_cmpR op_gt (pe_callB (call_lenK (K := K) rfl) (by rfl) T.m_len PySem.boot_len (pa_cons (pv 2) pa_nil)) (pe_glob (v := .int 400) rfl T.c_MOST_NODES ⟨_, rfl⟩) (nomark _)) (pss_one ps_never) pss_nil)
      (pss_cons (ps_fld (pv 0) (pv 1) rfl)
      (pss_cons (ps_fld (pv 0) (pe_frz (pe_dc (own := [("node", 4)]) (g := gName 4) (tt := tYes) (by rfl) sc_Page___init__.nd (pi_listK (K := K) rfl (pv 2)) (blkOk_by (own := [("node", 4)]) (N := ["self", "root", "nodes", "twice", "node", "child"]) (sc := defScope s_Page___init__) (by decide +kernel)) (fun _ _ _ _ _ => (pg_name (i := 4) sc_Page___init__.nd rfl (Or.inl rfl))) (fun _ _ _ _ _ => pts_nil) (fun _ _ _ _ _ => (pe_ix (ix_tupK (K := K) rfl) (pv 4) pe_int (fun _ _ => rfl))) (fun _ _ _ _ _ => (pv 4)))) rfl)
      (pss_one (ps_fld (pv 0) (pe_frz (pe_dc2 (own := [("node", 4), ("child", 5)]) (vb := [5]) (ga := gName 4) (gb := gName 5) (qa := tYes) (qb := tYes) (by rfl) sc_Page___init__.nd (pi_listK (K := K) rfl (pv 2)) (blkOk_by (own := [("node", 4), ("child", 5)]) (N := ["self", "root", "nodes", "twice", "node", "child"]) (sc := defScope s_Page___init__) (by decide +kernel)) (by decide) (fun _ _ _ _ _ => (pg_name (i := 4) sc_Page___init__.nd rfl (Or.inl rfl))) (fun _ _ _ _ _ => pts_nil) (fun _ _ _ _ _ => (pi_tupK (K := K) rfl (pe_ix (ix_tupK (K := K) rfl) (pv 4) pe_int (fun _ _ => rfl)))) (fun _ _ _ _ _ => (pg_name (i := 5) sc_Page___init__.nd rfl (Or.inl rfl))) (fun _ _ _ _ _ => pts_nil) (fun _ _ _ _ _ => (pe_ix (ix_tupK (K := K) rfl) (pv 5) pe_int (fun _ _ => rfl))) (fun _ _ _ _ _ => (pe_ix (ix_tupK (K := K) rfl) (pv 4) pe_int (fun _ _ => rfl))))) rfl)))))))), ?_⟩
    walk_at "g"
    refine ⟨v, n, M, rfl, hR, hM, hg.dep, hg.len, fun H1 p us s1 hp ep ru => ?_⟩
    have lu := ru.length
    rw [List.length_map] at lu
    have hgl := hg.len
    walk_at "g"
    refine ⟨⟨_, SqL.of ep⟩, fun D hD => ?_⟩
    refine list_loop (K := K) (a := p) (xs := us) (fun j H' => Same H1 H' ∧ H' D = some (.lst ((n.marks.take j).map V.str))) ⟨same_new hD, upd_same⟩ (fun j H' _ z => SqL.of (z.1 _ _ ep)) (fun j x H' hx z => ?_) (fun H2 z => ?_)
    · obtain ⟨s2, eD⟩ := z
      obtain ⟨d, hd, rx⟩ := ru.get hx
      rw [List.getElem?_map] at hd
      obtain ⟨k, hk, rfl⟩ := Option.map_eq_some_iff.mp hd
      have rx := rx.sx (Sx.same s2)
      rw [Nd.enc_eq] at rx
      obtain ⟨t, ts, rfl, nt, ht, rt⟩ := Rp.tupN rx
      obtain ⟨x1, x2, x3, rfl, q1, q2, q3⟩ := rt.inv3
      cases q1
      refine ⟨rfl, ?_⟩
      walk_at "g"
      refine ⟨_, eD, small1000 (by rw [List.length_map, List.length_take]; unfold Nd.marks; rw [List.length_map]; omega), same_put s2 hD, ?_⟩
      rw [upd_same, List.take_add_one, show n.marks[j]? = some k.mark by unfold Nd.marks; rw [List.getElem?_map, hk]; rfl, List.map_append]
      rfl
    · obtain ⟨s2, eD⟩ := z
      rw [List.take_of_length_le (by unfold Nd.marks; rw [List.length_map]; omega)] at eD
      walk_at "g"
      refine ⟨szK rfl, fun e he => ?_⟩
      refine ⟨D, e, n.marks, rfl, SqL.of (same_new he _ _ eD), SqL.of upd_same, hg.nd, by unfold Nd.marks; rw [List.length_map]; omega, fun H3 s3 => ?_⟩
      have t3 : Same H1 H3 := s2.trans ((same_new he).trans s3)
      have ep3 := t3 _ _ ep
      have ru3 := ru.sx (Sx.same t3)
      have s13 : Same H H3 := s1.trans t3
      have ha3 := s13 _ _ ha
      walk_at "g"
      rw [decide_eq_false (show ¬ (400 : Int) < (us.length : Int) by omega)]
      walk_at "g"
      refine ⟨a, _, dx, [], rfl, ha3, T.cl_Page, T.nA_Page__root, by decide, ?_⟩
      have hM3 : Mk M H3 := hM.gr (Gr.same s13)
      have ap : a ≠ p := fun z => by rw [z, hp] at ha; cases ha
      have sa : ∀ {J : Hp} {o : HO}, Sx (one a) J (upd J a o) := Sx.put rfl
      have le : ∀ c, one a c → M c := fun c z => by rw [show c = a from z]; exact ma
      have s4 : Sx (one a) H (upd H3 a (.ins T.C_Page dx [(sRoot, v)])) := (Sx.same s13).trans sa
      have g4 : Gr H (upd H3 a (.ins T.C_Page dx [(sRoot, v)])) := (Gr.same s13).trans Gr.upd
      have ea4 : upd H3 a (.ins T.C_Page dx [(sRoot, v)]) a = some (.ins T.C_Page dx [(sRoot, v)]) := upd_same
      have ep4 : upd H3 a (.ins T.C_Page dx [(sRoot, v)]) p = some (.lst us) := by rw [upd_ne (Ne.symm ap)]; exact ep3
      have ru4 := ru3.sx ((sa (J := H3) (o := .ins T.C_Page dx [(sRoot, v)])).le le)
      have hM4 := hM3.gr (Gr.upd (p := a) (o := .ins T.C_Page dx [(sRoot, v)]))
      show tSeq _ _ _ _ (upd H3 a (.ins T.C_Page dx [(sRoot, v)]))
      generalize upd H3 a (.ins T.C_Page dx [(sRoot, v)]) = H4 at s4 g4 ea4 ep4 ru4 hM4
      walk_at "g"
      refine ⟨⟨_, SqL.of ep4⟩, fun D4 hD4 => ?_⟩
      have lmk : n.marks.length = us.length := by unfold Nd.marks; rw [List.length_map]; omega
      have Da : D4 ≠ a := fun z => by rw [z, ea4] at hD4; cases hD4
      have Dp : D4 ≠ p := fun z => by rw [z, ep4] at hD4; cases hD4
      refine list_loop (K := K) (a := p) (xs := us) (fun j H' => Same H4 H' ∧ H' D4 = some (.dK (kvS ((n.marks.zip us).take j)))) ⟨same_new hD4, upd_same⟩ (fun j H' _ z => SqL.of (z.1 _ _ ep4)) (fun j x H' hx z => ?_) (fun H5 z => ?_)
      · obtain ⟨s5, eD⟩ := z
        obtain ⟨d, hd, rx⟩ := ru4.get hx
        rw [List.getElem?_map] at hd
        obtain ⟨k, hk, rfl⟩ := Option.map_eq_some_iff.mp hd
        have rx := rx.sx (Sx.same s5)
        rw [Nd.enc_eq] at rx
        obtain ⟨t, ts, rfl, nt, ht, rt⟩ := Rp.tupN rx
        obtain ⟨x1, x2, x3, rfl, q1, q2, q3⟩ := rt.inv3
        cases q1
        have hmk : n.marks[j]? = some k.mark := by unfold Nd.marks; rw [List.getElem?_map, hk]; rfl
        have hz : (n.marks.zip us)[j]? = some (k.mark, .ref t) := by rw [List.getElem?_zip_eq_some]; exact ⟨hmk, hx⟩
        refine ⟨rfl, ?_⟩
        walk_at "g"
        refine ⟨_, .inr k.mark, rfl, eD, ?_, ?_⟩
        · rw [kvS_len, List.length_take]
          exact small1000 (by rw [List.length_zip]; omega)
        · refine ⟨same_put s5 hD4, ?_⟩
          rw [upd_same, putK_new, List.take_add_one, hz]
          · rfl
          · rw [List.map_take, zip_fst _ _ lmk]
            exact nd_take hg.nd hmk
      obtain ⟨s5, eD⟩ := z
      rw [List.take_of_length_le (by rw [List.length_zip]; omega)] at eD
      refine ⟨D4, _, rfl, eD, trivial, fun od => ?_⟩
      have ea5 : upd H5 D4 (.frz od (.dK (kvS (n.marks.zip us)))) a = some (.ins T.C_Page dx [(sRoot, v)]) := by rw [upd_ne (Ne.symm Da)]; exact s5 _ _ ea4
      have s6 : Same H4 (upd H5 D4 (.frz od (.dK (kvS (n.marks.zip us))))) := same_put s5 hD4
      have eD6 : upd H5 D4 (.frz od (.dK (kvS (n.marks.zip us)))) D4 = some (.frz od (.dK (kvS (n.marks.zip us)))) := upd_same
      have nD : ¬ M D4 := hM4.out hD4
      walk_at "g"
      refine ⟨a, _, dx, _, rfl, ea5, T.cl_Page, T.nA_Page__nodes, (by show 1 < 1000; decide), ?_⟩
      rw [pf_nodes]
      have s7 : Sx (one a) H (upd (upd H5 D4 (.frz od (.dK (kvS (n.marks.zip us))))) a (.ins T.C_Page dx [(sRoot, v), (sNodes, .ref D4)])) := s4.trans ((Sx.same s6).trans sa)
      have g7 : Gr H (upd (upd H5 D4 (.frz od (.dK (kvS (n.marks.zip us))))) a (.ins T.C_Page dx [(sRoot, v), (sNodes, .ref D4)])) := g4.trans ((Gr.same s6).trans Gr.upd)
      have ea7 : upd (upd H5 D4 (.frz od (.dK (kvS (n.marks.zip us))))) a (.ins T.C_Page dx [(sRoot, v), (sNodes, .ref D4)]) a = some (.ins T.C_Page dx [(sRoot, v), (sNodes, .ref D4)]) := upd_same
      have eD7 : upd (upd H5 D4 (.frz od (.dK (kvS (n.marks.zip us))))) a (.ins T.C_Page dx [(sRoot, v), (sNodes, .ref D4)]) D4 = some (.frz od (.dK (kvS (n.marks.zip us)))) := by rw [upd_ne Da]; exact eD6
      have ep7 : upd (upd H5 D4 (.frz od (.dK (kvS (n.marks.zip us))))) a (.ins T.C_Page dx [(sRoot, v), (sNodes, .ref D4)]) p = some (.lst us) := by rw [upd_ne (Ne.symm ap)]; exact s6 _ _ ep4
      have ru7 := ru4.sx ((Sx.same s6).trans ((sa (J := upd H5 D4 (.frz od (.dK (kvS (n.marks.zip us))))) (o := .ins T.C_Page dx [(sRoot, v), (sNodes, .ref D4)])).le le))
      generalize upd (upd H5 D4 (.frz od (.dK (kvS (n.marks.zip us))))) a (.ins T.C_Page dx [(sRoot, v), (sNodes, .ref D4)]) = H7 at s7 g7 ea7 eD7 ep7 ru7
      walk_at "g"
      refine ⟨⟨_, SqL.of ep7⟩, fun D8 hD8 => ?_⟩
      have D8a : D8 ≠ a := fun z => by rw [z, ea7] at hD8; cases hD8
      refine list_loop (K := K) (a := p) (xs := us) (fun j H' => Same H7 H' ∧ ∃ kvs, H' D8 = some (.dK kvs) ∧ kvs.length ≤ j * 400) ⟨same_new hD8, [], upd_same, Nat.zero_le _⟩ (fun j H' _ z => SqL.of (z.1 _ _ ep7)) (fun j x H' hx z => ?_) (fun H9 z => ?_)
      · obtain ⟨s8, kvs, eD, lk⟩ := z
        have hj := (List.getElem?_eq_some_iff.mp hx).1
        obtain ⟨d, hd, rx⟩ := ru7.get hx
        rw [List.getElem?_map] at hd
        obtain ⟨k, hk, rfl⟩ := Option.map_eq_some_iff.mp hd
        have kl := sub_len_le n k (List.mem_of_getElem? hk)
        have kl2 := kids_len k
        rw [Nd.enc_eq] at rx
        obtain ⟨t, ts, rfl, nt, ht, rt⟩ := Rp.tupN rx
        obtain ⟨x1, x2, x3, rfl, q1, q2, q3⟩ := rt.inv3
        cases q1
        obtain ⟨c, cs, rfl, nc, hc, rc⟩ := Rp.tupN q3
        have lc := rc.length
        rw [List.length_map] at lc
        have hc8 := same_rd s8 hc
        have ht8 := same_rd s8 ht
        refine ⟨rfl, ?_⟩
        walk_at "g"
        refine ⟨⟨_, .inl hc8⟩, ?_⟩
        refine tup_loop (K := K) (a := c) (xs := cs) (fun i H' => Same H7 H' ∧ ∃ kvs, H' D8 = some (.dK kvs) ∧ kvs.length ≤ j * 400 + i) ⟨s8, kvs, eD, by omega⟩ (fun i H' _ z => same_sqt z.1 (.inl hc)) (fun i x H6 hx z => ?_) (fun H6 z => ?_)
        · obtain ⟨s9, kv2, eD9, lk9⟩ := z
          obtain ⟨d, hd, rx⟩ := rc.get hx
          rw [List.getElem?_map] at hd
          obtain ⟨k2, hk2, rfl⟩ := Option.map_eq_some_iff.mp hd
          have hi := (List.getElem?_eq_some_iff.mp hx).1
          rw [Nd.enc_eq] at rx
          obtain ⟨t2, ts2, rfl, nt2, ht2, rt2⟩ := Rp.tupN rx
          obtain ⟨z1, z2, z3, rfl, w1, w2, w3⟩ := rt2.inv3
          cases w1
          have ht9 := same_rd s9 ht
          have ht29 := same_rd s9 ht2
          refine ⟨rfl, ?_⟩
          walk_at "g"
          refine ⟨kv2, .inr k2.mark, rfl, eD9, small1000000 (by omega), same_put s9 hD8, _, upd_same, ?_⟩
          have := length_putK kv2 (Sum.inr k2.mark) (V.str k.mark)
          omega
        · obtain ⟨s9, kv2, eD9, lk9⟩ := z
          exact ⟨s9, kv2, eD9, by rw [Nat.succ_mul]; omega⟩
      obtain ⟨s8, kvs, eD, lk⟩ := z
      refine ⟨D8, _, rfl, eD, trivial, fun od2 => ?_⟩
      have s9 : Same H7 (upd H9 D8 (.frz od2 (.dK kvs))) := same_put s8 hD8
      walk_at "g"
      refine ⟨a, _, dx, _, rfl, s9 _ _ ea7, T.cl_Page, T.nA_Page__parents, (by show 2 < 1000; decide), ?_⟩
      rw [pf_parents]
      have s10 : Sx (one a) H (upd (upd H9 D8 (.frz od2 (.dK kvs))) a (.ins T.C_Page dx [(sRoot, v), (sNodes, .ref D4), (sParents, .ref D8)])) := s7.trans ((Sx.same s9).trans sa)
      refine q _ _ od _ us s10 (g7.trans ((Gr.same s9).trans Gr.upd)) upd_same nD ?_ (ru7.sx ((Sx.same s9).trans (sa.le le)))
      rw [upd_ne Da]
      exact s9 _ _ eD7
end
end D

namespace D
open PySem PySem.Spec PyProof.Rows L2
local macro_rules | `(tactic| walk_at "st") => `(tactic| first | exact SqT.of (by assumption) | exact Or.inl (by assumption) | exact SqT.of upd_same | fail "st")
local macro_rules | `(tactic| walk_at "ixt") => `(tactic| refine ⟨_, _, _, _, rfl, rfl, (by walk_at "st" : SqT _ _ _ _), by rfl, ?_⟩)
local macro_rules | `(tactic| walk_at "sq") => `(tactic| first | exact SqL.of (by assumption) | assumption | exact Or.inl (by assumption) | exact SqL.of upd_same | fail "sq")
local macro_rules | `(tactic| walk_at "ix") => `(tactic| refine ⟨_, _, _, _, rfl, rfl, (by walk_at "sq" : SqL _ _ _ _), by rfl, ?_⟩)
local macro_rules | `(tactic| walk_at "set") => `(tactic| refine ⟨_, _, _, _, rfl, rfl, by first | assumption | exact upd_same, by rfl, ?_⟩)
local macro_rules | `(tactic| walk_at "len") => `(tactic| refine ⟨_, _, rfl, Or.inl (by walk_at "sq" : SqL _ _ _ _), ?_⟩)
local macro_rules | `(tactic| walk_at "g") => `(tactic| repeat (first | refine ⟨_, rfl, ?_⟩ | refine ⟨_, _, rfl, rfl, ?_⟩ | refine ⟨Or.inr (by decide), ?_⟩ | refine ⟨Or.inl (by decide), ?_⟩ | refine ⟨(by decide : (0 : Int) < _), ?_⟩ | refine ⟨(⟨by decide, by decide⟩ : CDiv _ _), ?_⟩ | refine ⟨(⟨by decide, by decide, by decide⟩ : CPow _ _), ?_⟩ | refine Or.inl ⟨_, rfl, ?_⟩ | refine ⟨rfl, ?_⟩ | walk_at "ix" | walk_at "ixt" | walk_at "len" | fail "g"))
local macro_rules | `(tactic| walk_at "if") => `(tactic| refine ite2 (fun e => ?_) (fun e => ?_))
section
variable {P : Program} {w : World} {K : PySem.W.Frag} {mg : Str → Option Value} {base : Heap}
theorem same_new2 {H H' : Hp} {p : Addr} {o : HO} (s : Same H H') (h : H' p = none) : Same H (upd H' p o) := s.trans (same_new h)
theorem in_two (z : Str) : inV (.str z) [.str sRow, .str sCol] = true ↔ (z = sRow ∨ z = sCol) := by
  unfold inV
  simp only [List.any_cons, List.any_nil, eqV, Bool.or_false, Bool.or_eq_true, beq_iff_eq]
  constructor <;> (intro h; rcases h with h | h <;> simp [h])
def sp_measure : Sp := fun vs H Q _ => ∃ (z : Str) (v : V) (ps : List (Int × Int)) (M : Ms), vs = [.str z, v] ∧ Rp M H v (.tuple (ps.map pD)) ∧ Mk M H ∧ z.length ≤ 1000 ∧ ps.length ≤ 1000000 ∧ (∀ p ∈ ps, 0 ≤ p.1 ∧ 0 ≤ p.2) ∧ Pu M H (fun d => d = pD (szf z ps)) Q
theorem ok_measure (T : Txt K mg) : FnOk P w K mg base CX0 1 T.f_measure T.d_measure ["label", "sizes"] sp_measure := by
  refine T.F_measure.ok sc_measure (fun vs H Q E h => ?_) (fun cdv A outer s H vs Q E hr h => ?_)
  · obtain ⟨_, _, _, _, rfl, _⟩ := h
    rfl
  · obtain ⟨z, v, ps, M, rfl, hR, hM, hz, hl, hp0, q⟩ := h
    cases hR with
    | @tup a xs _ na hS hA =>
    have hS := hS.rd
    have el := hA.length
    rw [List.length_map] at el
    have fin : ∀ (p : Addr) (i j : Int) (H' : Hp), Same H H' → H' p = none → (i, j) = szf z ps → Q (.ref p) (upd H' p (.tup [.int i, .int j])) := fun p i j H' hs hp e =>
      q _ _ (pD (i, j)) (same_new2 hs hp) (.tup (hM.out (hs.free hp)) (.inl upd_same) (.cons (.int i) (.cons (.int j) .nil))) (by rw [e])
    refine ⟨_, (pss_cons (ps_if (pt_not (pt_truthK (K := K) rfl (pv 1) (by intro _; rfl))) (pss_one (ps_ret (pe_ifExp (pt_cmpR (op_in_seqK (K := K) rfl) (pv 0) (pe_tup (pa_cons pe_str (pa_cons pe_str pa_nil))) (by rfl)) (pe_tup (pa_cons pe_int (pa_cons pe_int pa_nil))) (pe_tup (pa_cons (pe_callB call_len_str (by rfl) T.m_len PySem.boot_len (pa_cons (pv 0) pa_nil)) (pa_cons pe_int pa_nil)))))) pss_nil)
      (pss_cons (ps_if (pt_cmpR op_eq (pv 0) pe_str (nomark _)) (pss_one (ps_ret (pe_tup (pa_cons (pe_callB (cr_sumK (K := K) rfl rfl) (by rfl) T.m_sum (by decide +kernel) (pa_cons (pe_lc (own := [("width", 2), ("_", 3)]) (g := gTup K 2 (gCons (gName 2) (gCons (gName 3) gNil))) (tt := tYes) (by rfl) sc_measure.nd (pi_tupK (K := K) rfl (pv 1)) (blkOk_by (own := [("width", 2), ("_", 3)]) (N := ["label", "sizes", "width", "_", "height"]) (sc := defScope s_measure) (by decide +kernel)) (fun _ _ _ _ _ => (pg_tupK (K := K) rfl rfl (pgs_cons (pg_name (i := 2) sc_measure.nd rfl (Or.inl rfl)) (pgs_cons (pg_name (i := 3) sc_measure.nd rfl (Or.inl rfl)) pgs_nil)))) (fun _ _ _ _ _ => pts_nil) (fun _ _ _ _ _ => (pv 2))) pa_nil)) (pa_cons (pe_callB (cr_maxK (K := K) rfl rfl) (by rfl) T.m_max (by decide +kernel) (pa_cons (pe_lc (own := [("_", 3), ("height", 4)]) (g := gTup K 2 (gCons (gName 3) (gCons (gName 4) gNil))) (tt := tYes) (by rfl) sc_measure.nd (pi_tupK (K := K) rfl (pv 1)) (blkOk_by (own := [("_", 3), ("height", 4)]) (N := ["label", "sizes", "width", "_", "height"]) (sc := defScope s_measure) (by decide +kernel)) (fun _ _ _ _ _ => (pg_tupK (K := K) rfl rfl (pgs_cons (pg_name (i := 3) sc_measure.nd rfl (Or.inl rfl)) (pgs_cons (pg_name (i := 4) sc_measure.nd rfl (Or.inl rfl)) pgs_nil)))) (fun _ _ _ _ _ => pts_nil) (fun _ _ _ _ _ => (pe_callTy call_int1 (by rfl) T.m_int (by decide +kernel) (pa_cons (pv 4) pa_nil)))) pa_nil)) pa_nil))))) pss_nil)
      (pss_one (ps_ret (pe_tup (pa_cons (pe_callB (cr_maxK (K := K) rfl rfl) (by rfl) T.m_max (by decide +kernel) (pa_cons (pe_lc (own := [("width", 2), ("_", 3)]) (g := gTup K 2 (gCons (gName 2) (gCons (gName 3) gNil))) (tt := tYes) (by rfl) sc_measure.nd (pi_tupK (K := K) rfl (pv 1)) (blkOk_by (own := [("width", 2), ("_", 3)]) (N := ["label", "sizes", "width", "_", "height"]) (sc := defScope s_measure) (by decide +kernel)) (fun _ _ _ _ _ => (pg_tupK (K := K) rfl rfl (pgs_cons (pg_name (i := 2) sc_measure.nd rfl (Or.inl rfl)) (pgs_cons (pg_name (i := 3) sc_measure.nd rfl (Or.inl rfl)) pgs_nil)))) (fun _ _ _ _ _ => pts_nil) (fun _ _ _ _ _ => (pe_callTy call_int1 (by rfl) T.m_int (by decide +kernel) (pa_cons (pv 2) pa_nil)))) pa_nil)) (pa_cons (pe_callB (cr_sumK (K := K) rfl rfl) (by rfl) T.m_sum (by decide +kernel) (pa_cons (pe_lc (own := [("_", 3), ("height", 4)]) (g := gTup K 2 (gCons (gName 3) (gCons (gName 4) gNil))) (tt := tYes) (by rfl) sc_measure.nd (pi_tupK (K := K) rfl (pv 1)) (blkOk_by (own := [("_", 3), ("height", 4)]) (N := ["label", "sizes", "width", "_", "height"]) (sc := defScope s_measure) (by decide +kernel)) (fun _ _ _ _ _ => (pg_tupK (K := K) rfl rfl (pgs_cons (pg_name (i := 3) sc_measure.nd rfl (Or.inl rfl)) (pgs_cons (pg_name (i := 4) sc_measure.nd rfl (Or.inl rfl)) pgs_nil)))) (fun _ _ _ _ _ => pts_nil) (fun _ _ _ _ _ => (pv 4))) pa_nil)) pa_nil))))))), ?_⟩
    refine ⟨.ref a, rfl, !xs.isEmpty, .inr (.inl ⟨xs, .inl hS, rfl⟩), ?_⟩
    walk_at "if"
    · rename_i e
      have e0 : xs = [] := by
        cases xs with
        | nil => rfl
        | cons _ _ => cases e
      have ep : ps = [] := List.length_eq_zero_iff.mp (by rw [← el, e0]; rfl)
      walk_at "g"
      refine ⟨sz2, fun t ht => ?_⟩
      refine ⟨t, _, rfl, .inr (SqT.of upd_same), rfl, rfl, ?_⟩
      walk_at "g"
      walk_at "if"
      · rename_i e1
        have e2 : z = sRow ∨ z = sCol := (in_two z).mp e1
        walk_at "g"
        refine ⟨sz2, fun p hp => ?_⟩
        refine fin p _ _ _ (same_new ht) hp ?_
        unfold szf
        rw [if_pos ep, if_pos e2]
      · rename_i e1
        have e2 : ¬ (z = sRow ∨ z = sCol) := fun h => e1 ((in_two z).mpr h)
        walk_at "g"
        refine ⟨Nat.le_of_lt (small1000 hz), ?_⟩
        refine ⟨sz2, fun p hp => ?_⟩
        refine fin p _ _ _ (same_new ht) hp ?_
        unfold szf
        rw [if_pos ep, if_neg e2]
    · rename_i e
      have ep : ¬ ps = [] := fun h => e (by
        have : xs = [] := List.length_eq_zero_iff.mp (by rw [el, h]; rfl)
        rw [this]
        rfl)
      have pos : 0 < ps.length := List.length_pos_iff.mpr ep
      walk_at "g"
      walk_at "if"
      · rename_i e1
        have e1' : z = sRow := V.str.inj (of_decide_eq_true e1)
        walk_at "g"
        refine ⟨⟨_, .inl hS⟩, fun D hD => ?_⟩
        refine lc_valsT (ys := (ps.map (·.1)).map V.int) hD (.inl hS) (by rw [List.length_map, List.length_map, el]) (by omega) (fun i x y H' C N hx hy hs hC => ?_) (fun H' hs hD' => ?_)
        · obtain ⟨p, t, hp, rfl, ht⟩ := hA.pair hx
          rw [List.getElem?_map, List.getElem?_map, hp] at hy
          cases hy
          have ht' := same_rd hs ht
          refine ⟨t, _, rfl, .inl ht', rfl, ?_⟩
          refine ⟨_, _, rfl, _, _, rfl, rfl, rfl, ?_⟩
          walk_at "g"
          exact hC
        · refine ⟨D, _, rfl, SqL.of hD', ?_⟩
          have hs1 := hs
          refine ⟨.ref a, rfl, a, rfl, ⟨_, .inl (same_rd hs1 hS)⟩, fun D2 hD2 => ?_⟩
          refine lc_valsT (ys := (ps.map (·.2)).map V.int) hD2 (.inl (same_rd hs1 hS)) (by rw [List.length_map, List.length_map, el]) (by omega) (fun i x y H' C N hx hy hs hC => ?_) (fun H2 hs2 hE => ?_)
          · obtain ⟨p, t, hp, rfl, ht⟩ := hA.pair hx
            rw [List.getElem?_map, List.getElem?_map, hp] at hy
            cases hy
            have ht' := same_rd (hs1.trans hs) ht
            refine ⟨t, _, rfl, .inl ht', rfl, _, _, rfl, _, _, rfl, rfl, rfl, ?_⟩
            walk_at "g"
            exact hC
          · refine ⟨D2, _, rfl, SqL.of hE, by rw [List.length_map]; exact pos, fun m hm hle => ?_⟩
            walk_at "g"
            refine ⟨sz2, fun p hp => fin p _ _ H2 (hs1.trans hs2) hp ?_⟩
            have em : m = mx (ps.map (·.2)) := mx_of (fun n hn => by
              obtain ⟨p, hp, rfl⟩ := List.mem_map.mp hn
              exact (hp0 p hp).2) hm hle
            unfold szf
            rw [if_neg ep, if_pos e1', em]
      · rename_i e1
        have e1' : ¬ z = sRow := fun h => e1 (decide_eq_true (by rw [h]; rfl))
        walk_at "g"
        refine ⟨⟨_, .inl hS⟩, fun D hD => ?_⟩
        refine lc_valsT (ys := (ps.map (·.1)).map V.int) hD (.inl hS) (by rw [List.length_map, List.length_map, el]) (by omega) (fun i x y H' C N hx hy hs hC => ?_) (fun H' hs hD' => ?_)
        · obtain ⟨p, t, hp, rfl, ht⟩ := hA.pair hx
          rw [List.getElem?_map, List.getElem?_map, hp] at hy
          cases hy
          have ht' := same_rd hs ht
          refine ⟨t, _, rfl, .inl ht', rfl, _, _, rfl, _, _, rfl, rfl, rfl, ?_⟩
          walk_at "g"
          exact hC
        · refine ⟨D, _, rfl, SqL.of hD', by rw [List.length_map]; exact pos, fun m hm hle => ?_⟩
          have hs1 := hs
          have em : m = mx (ps.map (·.1)) := mx_of (fun n hn => by
              obtain ⟨p, hp, rfl⟩ := List.mem_map.mp hn
              exact (hp0 p hp).1) hm hle
          refine ⟨.ref a, rfl, a, rfl, ⟨_, .inl (same_rd hs1 hS)⟩, fun D2 hD2 => ?_⟩
          refine lc_valsT (ys := (ps.map (·.2)).map V.int) hD2 (.inl (same_rd hs1 hS)) (by rw [List.length_map, List.length_map, el]) (by omega) (fun i x y H' C N hx hy hs hC => ?_) (fun H2 hs2 hE => ?_)
          · obtain ⟨p, t, hp, rfl, ht⟩ := hA.pair hx
            rw [List.getElem?_map, List.getElem?_map, hp] at hy
            cases hy
            have ht' := same_rd (hs1.trans hs) ht
            refine ⟨t, _, rfl, .inl ht', rfl, _, _, rfl, _, _, rfl, rfl, rfl, ?_⟩
            walk_at "g"
            exact hC
          · refine ⟨D2, _, rfl, SqL.of hE, ?_⟩
            walk_at "g"
            refine ⟨sz2, fun p hp => fin p _ _ H2 (hs1.trans hs2) hp ?_⟩
            unfold szf
            rw [if_neg ep, if_neg e1', em]
theorem sum_nonneg : ∀ {l : List Int}, (∀ x ∈ l, 0 ≤ x) → 0 ≤ l.sum
  | [], _ => Int.le_refl _
  | x :: r, h => by
    rw [List.sum_cons]
    have h1 := h x List.mem_cons_self
    have h2 := sum_nonneg (l := r) fun y hy => h y (List.mem_cons_of_mem _ hy)
    omega
theorem mx_nonneg (l : List Int) : 0 ≤ mx l := (foldmx l 0).1
theorem szf_nonneg (z : Str) {ps : List (Int × Int)} (h : ∀ p ∈ ps, 0 ≤ p.1 ∧ 0 ≤ p.2) : 0 ≤ (szf z ps).1 ∧ 0 ≤ (szf z ps).2 := by
  unfold szf
  split
  · split
    · exact ⟨Int.le_refl _, Int.le_refl _⟩
    · exact ⟨Int.natCast_nonneg _, by show (0 : Int) ≤ 1; decide⟩
  · split
    · exact ⟨sum_nonneg fun x hx => by obtain ⟨p, hp, rfl⟩ := List.mem_map.mp hx; exact (h p hp).1, mx_nonneg _⟩
    · exact ⟨mx_nonneg _, sum_nonneg fun x hx => by obtain ⟨p, hp, rfl⟩ := List.mem_map.mp hx; exact (h p hp).2⟩
theorem sz_nonneg : ∀ n : Nd, 0 ≤ n.sz.1 ∧ 0 ≤ n.sz.2 := Nd.ind fun n ih => by
  rw [Nd.sz_eq]
  exact szf_nonneg _ fun p hp => by
    obtain ⟨k, hk, rfl⟩ := List.mem_map.mp hp
    exact ih k hk
structure Dt (M : Ms) (H : Hp) (vs : List V) (ds : List PyData) : Prop where
  ok : Mk M H
  all : RpAll M H vs ds
namespace Dt
variable {M : Ms} {H H' : Hp} {vs us : List V} {ds es : List PyData} {v : V} {d : PyData} {p : Addr}
theorem same (E : Dt M H vs ds) (s : Same H H') : Dt M H' vs ds := ⟨E.ok.gr (Gr.same s), E.all.sx (Sx.same s)⟩
theorem push (E : Dt M H vs ds) (r : Rp M H v d) : Dt M H (v :: vs) (d :: ds) := ⟨E.ok, .cons r E.all⟩
theorem tup (E : Dt M H vs ds) (hp : H p = none) (r : RpAll M H us es) : Dt M (upd H p (.tup us)) (.ref p :: vs) (.tuple es :: ds) := (E.same (same_new hp)).push (Rp.newT E.ok hp r)
theorem at' (E : Dt M H vs ds) (i : Nat) (hv : vs[i]? = some v) (hd : ds[i]? = some d) : Rp M H v d := E.all.nth i hv hd
theorem app (E : Dt M H vs ds) (r : RpAll M H us es) : Dt M H (us ++ vs) (es ++ ds) := ⟨E.ok, r.append E.all⟩
theorem cut (E : Dt M H vs ds) (n : Nat) : Dt M H (vs.take n) (ds.take n) := ⟨E.ok, E.all.take n⟩
theorem drop (E : Dt M H vs ds) (n : Nat) : Dt M H (vs.drop n) (ds.drop n) := ⟨E.ok, E.all.drop n⟩
end Dt
def mrow (k : Nd) : PyData := .tuple [.str k.mark, .tuple [.str k.label, .tuple ((k.kids.map Nd.sz).map pD)], pD k.sz]
def sp_measured (n0 : Nat) : Sp := fun vs H Q _ => ∃ (v : V) (n : Nd) (M : Ms), vs = [v] ∧ Rp M H v n.enc ∧ Mk M H ∧ n.dep ≤ n0 ∧ n.subs.length ≤ 400 ∧ (∀ x ∈ n.subs, x.label.length ≤ 30) ∧ ∀ H' p us, Same H H' → H p = none → H' p = some (.lst us) → RpAll M H' us (n.post.map mrow) → Q (.ref p) H'
theorem sub_mem {n k x : Nd} (hk : k ∈ n.kids) (hx : x ∈ k.subs) : x ∈ n.subs := by
  rw [Nd.subs_eq n]
  exact List.mem_cons_of_mem _ (List.mem_flatten.mpr ⟨k.subs, List.mem_map.mpr ⟨k, hk, rfl⟩, hx⟩)
theorem post_len (n : Nd) : n.post.length = n.subs.length := (Nd.post_perm n).length_eq
theorem ok_measured (T : Txt K mg) : ∀ n0, FnOk P w K mg base CX0 (n0 + 2) T.f__measured T.d__measured ["node"] (sp_measured n0) := by
  have G_measure := ok_measure (P := P) (w := w) (base := base) T
  intro n0
  induction n0 with
  | zero =>
    refine T.F__measured.ok sc__measured (fun vs H Q E h => ?_) (fun cdv A outer s H vs Q E hr h => ?_)
    · obtain ⟨_, _, _, rfl, _⟩ := h
      rfl
    · obtain ⟨v, n, M, rfl, _, _, hd, _⟩ := h
      exact absurd n.dep_pos (by omega)
  | succ n0 ih =>
    have G__measured := ih
    refine T.F__measured.ok sc__measured (fun vs H Q E h => ?_) (fun cdv A outer s H vs Q E hr h => ?_)
    · obtain ⟨_, _, _, rfl, _⟩ := h
      rfl
    · obtain ⟨v, n, M, rfl, hR, hM, hd, hl, hlb, q⟩ := h
      rw [Nd.enc_eq] at hR
      obtain ⟨t, ts, rfl, nt, ht, rt⟩ := Rp.tupN hR
      obtain ⟨x1, x2, x3, rfl, q1, q2, q3⟩ := rt.inv3
      cases q1; cases q2
      obtain ⟨c, cs, rfl, nc, hc, rc⟩ := Rp.tupN q3
      have lc := rc.length
      rw [List.length_map] at lc
      refine ⟨_, (pss_cons (ps_set (i := 1) sc__measured.nd rfl (Or.inl rfl) (pe_lst pa_nil))
      (pss_cons (ps_set (i := 2) sc__measured.nd rfl (Or.inl rfl) (pe_lst pa_nil))
      (pss_cons (ps_for PassesOwn.never rfl (pi_tupK (K := K) rfl (pe_ix (ix_tupK (K := K) rfl) (pv 0) pe_int (fun _ _ => rfl))) (pg_name (i := 3) sc__measured.nd rfl (Or.inl rfl)) (pss_cons (ps_expr (pe_bmK2 (K := K) rfl PySem.F.plainAttrs_list PySem.F.slot_list_extend PySem.F.type_list_extend mt_extend (pv 1) (pa_cons (pe_call G__measured (hr.mono (by omega)) (by rfl) T.g__measured T.F__measured.kp T.b__measured .nil pass0 (pa_cons (pv 3) pa_nil)) pa_nil)))
      (pss_one (ps_expr (pe_bmK2 (K := K) rfl PySem.F.plainAttrs_list PySem.F.slot_list_append PySem.F.type_list_append mt_append (pv 2) (pa_cons (pe_ix (ix_tupK (K := K) rfl) (pe_ix (ix_listK (K := K) rfl) (pv 1) (pe_un un_neg pe_int) (fun _ _ => rfl)) pe_int (fun _ _ => rfl)) pa_nil))))))
      (pss_cons (ps_expr (pe_bmK2 (K := K) rfl PySem.F.plainAttrs_list PySem.F.slot_list_append PySem.F.type_list_append mt_append (pv 1) (pa_cons (pe_tup (pa_cons (pe_ix (ix_tupK (K := K) rfl) (pv 0) pe_int (fun _ _ => rfl)) (pa_cons (pe_tup (pa_cons (pe_ix (ix_tupK (K := K) rfl) (pv 0) pe_int (fun _ _ => rfl)) (pa_cons (pe_callTy (call_tupleK (K := K) rfl) (by rfl) T.m_tuple (by decide +kernel) (pa_cons (pv 2) pa_nil)) pa_nil))) (pa_cons (pe_call G_measure (hr.mono (by omega)) (by rfl) T.g_measure T.F_measure.kp T.b_measure .nil pass0 (pa_cons (pe_ix (ix_tupK (K := K) rfl) (pv 0) pe_int (fun _ _ => rfl)) (pa_cons (pe_callTy (call_tupleK (K := K) rfl) (by rfl) T.m_tuple (by decide +kernel) (pa_cons (pv 2) pa_nil)) pa_nil))) pa_nil)))) pa_nil)))
      (pss_one (ps_ret (pv 1))))))), ?_⟩
      walk_at "g"
      refine ⟨szK rfl, fun o ho => ?_⟩
      have eo : upd H o (.lst []) o = some (.lst []) := upd_same
      have s1 : Same H (upd H o (.lst [])) := same_new ho
      have hM1 : Mk (also M o) (upd H o (.lst [])) := hM.new.also upd_there
      generalize upd H o (.lst []) = H1 at eo s1 hM1
      walk_at "g"
      refine ⟨szK rfl, fun z hz => ?_⟩
      have oz : o ≠ z := ne_of_none eo hz
      have nz : H z = none := s1.free hz
      have ez : upd H1 z (.lst []) z = some (.lst []) := upd_same
      have eo := same_new hz (o := .lst []) _ _ eo
      have s1 := s1.trans (same_new hz (o := .lst []))
      have hM1 : Mk (also (also M o) z) (upd H1 z (.lst [])) := hM1.new.also upd_there
      generalize upd H1 z (.lst []) = H2 at eo ez s1 hM1
      have ht1 := same_rd s1 ht
      have hc1 := same_rd s1 hc
      have no2 : also (also M o) z o := .inl (.inr rfl)
      have nz2 : also (also M o) z z := .inr rfl
      have lesub : ∀ a, M a → also (also M o) z a := fun a h => .inl (.inl h)
      walk_at "g"
      refine ⟨⟨_, .inl hc1⟩, ?_⟩
      have se := n.subs_eq
      have ln : ((n.kids.map Nd.subs).flatten).length + 1 = n.subs.length := by rw [se]; rfl
      have lp : ∀ i, (((n.kids.take i).map Nd.post).flatten).length ≤ 400 := fun i => by
        have h1 := flat_take_le Nd.post n.kids i
        have h2 := (Nd.perm_flat (f := Nd.post) (g := Nd.subs) n.kids fun k _ => k.post_perm).length_eq
        omega
      refine for_tup (K := K) (a := c) (xs := cs) (fun i σ H' => (∃ y3, σ = [some (.ref t), some (.ref o), some (.ref z), y3]) ∧ Same H H' ∧ Mk (also (also M o) z) H' ∧ ∃ us zs, H' o = some (.lst us) ∧ H' z = some (.lst zs) ∧ RpAll (also (also M o) z) H' us (((n.kids.take i).map Nd.post).flatten.map mrow) ∧ RpAll (also (also M o) z) H' zs (((n.kids.take i).map Nd.sz).map pD)) ⟨⟨_, rfl⟩, s1, hM1, [], [], eo, ez, .nil, .nil⟩ (fun i σ H' _ p => same_sqt p.2.1 (.inl hc)) (fun i x σ H' hx p => ?_) (fun σ H' p => ?_)
      · obtain ⟨⟨y3, rfl⟩, s2, hM2, us, zs, eo2, ez2, ru, rz⟩ := p
        obtain ⟨d, hd2, rx⟩ := rc.get hx
        rw [List.getElem?_map] at hd2
        obtain ⟨k, hk, rfl⟩ := Option.map_eq_some_iff.mp hd2
        have km := List.mem_of_getElem? hk
        have kd := Nd.dep_kid km
        have kl := flat_len (f := Nd.subs) km
        walk_at "g"
        refine ⟨.inl ⟨rfl, _, SqL.of eo2⟩, ?_⟩
        walk_at "g"
        have ro : Rp (also (also M o) z) H' x k.enc := ((rx.fresh ho).fresh nz).sx (Sx.same s2)
        refine ⟨x, k, also (also M o) z, rfl, ro, hM2, by omega, by omega, fun y hy => hlb y (sub_mem km hy), fun H3 p3 vs3 s3 hp3 e3 r3 => ?_⟩
        have eo3 := s3 _ _ eo2
        have ez3 := s3 _ _ ez2
        have lu := ru.length
        have l3 := r3.length
        rw [List.length_map] at lu l3
        have tf := take_flat Nd.post n.kids i k hk
        have tl := lp (i + 1)
        rw [tf, List.length_append] at tl
        have r3' := r3
        rw [Nd.post_eq, List.map_append] at r3'
        obtain ⟨ws, wl, rfl, rws, rwl⟩ := RpAll.last r3'
        refine ⟨o, p3, _, _, rfl, rfl, eo3, e3, ?_, ?_⟩
        · rw [lu, l3]
          exact Nat.le_of_lt (small1000 (by omega))
        · have sO : Sx (also (also M o) z) H3 (upd H3 o (.lst (us ++ (ws ++ [wl])))) := Sx.put no2
          have eo4 : upd H3 o (.lst (us ++ (ws ++ [wl]))) o = some (.lst ((us ++ ws) ++ [wl])) := by rw [upd_same, List.append_assoc]
          have ez4 : upd H3 o (.lst (us ++ (ws ++ [wl]))) z = some (.lst zs) := by rw [upd_ne (Ne.symm oz)]; exact ez3
          have s4 : Same H (upd H3 o (.lst (us ++ (ws ++ [wl])))) := same_put (s2.trans s3) ho
          have hM4 := (hM2.gr (Gr.same s3)).gr (Gr.upd (p := o) (o := .lst (us ++ (ws ++ [wl]))))
          have ru4 := ((ru.sx (Sx.same s3)).append r3).sx sO
          have rz4 := (rz.sx (Sx.same s3)).sx sO
          obtain ⟨w, ws2, rfl, nw, hw, rw2⟩ := Rp.tupN (rwl.sx sO)
          obtain ⟨y1, y2, y4, rfl, b1, b2, b3⟩ := rw2.inv3
          cases b1
          generalize upd H3 o (.lst (us ++ (ws ++ [.ref w]))) = H4 at eo4 ez4 s4 hM4 ru4 rz4 hw b2 b3
          have lz := rz4.length
          rw [List.length_map, List.length_map, List.length_take] at lz
          have kn := kids_len n
          walk_at "g"
          refine ⟨.inl ⟨rfl, _, SqL.of ez4⟩, ?_⟩
          walk_at "g"
          refine ⟨_, _, _, _, rfl, rfl, SqL.of eo4, atI_last _ _, ?_⟩
          refine ⟨w, _, _, _, rfl, rfl, .inl hw, atI_nat (j := 2) rfl, ?_⟩
          refine ⟨z, zs, y4, rfl, rfl, ez4, small1000 (by omega), ?_⟩
          have sZ : Sx (also (also M o) z) H4 (upd H4 z (.lst (zs ++ [y4]))) := Sx.put nz2
          refine ⟨⟨_, rfl⟩, same_put s4 nz, hM4.gr Gr.upd, _, _, by rw [upd_ne oz]; exact eo4, upd_same, ?_, ?_⟩
          · rw [tf, List.map_append, List.append_assoc]
            exact ru4.sx sZ
          · rw [List.take_add_one, hk, List.map_append, List.map_append]
            exact (rz4.append (.one b3)).sx sZ
      · obtain ⟨⟨y3, rfl⟩, s2, hM2, us, zs, eo2, ez2, ru, rz⟩ := p
        rw [lc, List.take_of_length_le (Nat.le_refl _)] at ru rz
        have ht2 := same_rd s2 ht
        have lu := ru.length
        rw [List.length_map] at lu
        have lpn := lp n.kids.length
        rw [List.take_of_length_le (Nat.le_refl _)] at lpn
        have lz := rz.length
        rw [List.length_map, List.length_map] at lz
        have kn := kids_len n
        walk_at "g"
        refine ⟨.inl ⟨rfl, _, SqL.of eo2⟩, ?_⟩
        walk_at "g"
        refine ⟨z, zs, rfl, .inl ⟨SqL.of ez2, fun p1 hp1 => ?_⟩⟩
        have A : Dt (also (also M o) z) (upd H' p1 (.tup zs)) (.ref p1 :: (us ++ zs)) (.tuple ((n.kids.map Nd.sz).map pD) :: (((n.kids.map Nd.post).flatten.map mrow) ++ ((n.kids.map Nd.sz).map pD))) := (Dt.mk hM2 (ru.append rz)).tup hp1 rz
        have s3 := s2.trans (same_new hp1 (o := .tup zs))
        have eo3 := same_new hp1 (o := .tup zs) _ _ eo2
        have ez3 := same_new hp1 (o := .tup zs) _ _ ez2
        generalize upd H' p1 (.tup zs) = H3 at A s3 eo3 ez3
        refine ⟨szK rfl, fun p2 hp2 => ?_⟩
        have hp2 : H3 p2 = none := hp2
        have A := A.tup hp2 (.cons (.str n.label) (.one (A.at' 0 rfl rfl)))
        have s3 := s3.trans (same_new hp2 (o := .tup [.str n.label, .ref p1]))
        have eo3 := same_new hp2 (o := .tup [.str n.label, .ref p1]) _ _ eo3
        have ez3 := same_new hp2 (o := .tup [.str n.label, .ref p1]) _ _ ez3
        generalize upd H3 p2 (.tup [.str n.label, .ref p1]) = H4 at A s3 eo3 ez3
        have ht4 := same_rd s3 ht
        walk_at "g"
        refine ⟨z, zs, rfl, .inl ⟨SqL.of ez3, fun p3 hp3 => ?_⟩⟩
        have hp3 : H4 p3 = none := hp3
        have rz4 : RpAll (also (also M o) z) H4 zs ((n.kids.map Nd.sz).map pD) := by
          have := (A.all.drop 2).drop us.length
          have e : ((us ++ zs : List V).drop us.length) = zs := List.drop_left
          have e2 : ((((n.kids.map Nd.post).flatten.map mrow) ++ ((n.kids.map Nd.sz).map pD)).drop us.length) = (n.kids.map Nd.sz).map pD := by rw [lu, ← List.length_map (f := mrow)]; exact List.drop_left
          rw [show (V.ref p2 :: V.ref p1 :: (us ++ zs)).drop 2 = us ++ zs from rfl, e] at this
          rw [show (PyData.tuple [PyData.str n.label, PyData.tuple ((n.kids.map Nd.sz).map pD)] :: PyData.tuple ((n.kids.map Nd.sz).map pD) :: (((n.kids.map Nd.post).flatten.map mrow) ++ ((n.kids.map Nd.sz).map pD))).drop 2 = ((n.kids.map Nd.post).flatten.map mrow) ++ ((n.kids.map Nd.sz).map pD) from rfl, e2] at this
          exact this
        have A := A.tup hp3 rz4
        have s3 := s3.trans (same_new hp3 (o := .tup zs))
        have eo3 := same_new hp3 (o := .tup zs) _ _ eo3
        generalize upd H4 p3 (.tup zs) = H5 at A s3 eo3
        refine ⟨n.label, .ref p3, n.kids.map Nd.sz, also (also M o) z, rfl, A.at' 0 rfl rfl, A.ok, by have := hlb n (by rw [se]; exact List.mem_cons_self); omega, by rw [List.length_map]; omega, fun p hp => (by obtain ⟨k, _, rfl⟩ := List.mem_map.mp hp; exact sz_nonneg k), fun v6 H6 d6 s6 r6 hd6 => ?_⟩
        subst hd6
        rw [← Nd.sz_eq] at r6
        have A := (A.same s6).push r6
        have s3 := s3.trans s6
        have eo3 := s6 _ _ eo3
        refine ⟨szK rfl, fun p7 hp7 => ?_⟩
        have hp7 : H6 p7 = none := hp7
        have A := A.tup hp7 (.cons (.str n.mark) (.cons (A.at' 2 rfl rfl) (.one (A.at' 0 rfl rfl))))
        have s3 := s3.trans (same_new hp7 (o := .tup [.str n.mark, .ref p2, v6]))
        have eo3 := same_new hp7 (o := .tup [.str n.mark, .ref p2, v6]) _ _ eo3
        generalize upd H6 p7 (.tup [.str n.mark, .ref p2, v6]) = H7 at A s3 eo3
        refine ⟨o, us, .ref p7, rfl, rfl, eo3, small1000 (by omega), ?_⟩
        have sO : Sx (also (also M o) z) H7 (upd H7 o (.lst (us ++ [.ref p7]))) := Sx.put no2
        have ru7 : RpAll (also (also M o) z) H7 us ((n.kids.map Nd.post).flatten.map mrow) := by
          have := (A.all.drop 5).take us.length
          rw [show (V.ref p7 :: v6 :: V.ref p3 :: V.ref p2 :: V.ref p1 :: (us ++ zs)).drop 5 = us ++ zs from rfl, List.take_left] at this
          have e2 : ((((n.kids.map Nd.post).flatten.map mrow) ++ ((n.kids.map Nd.sz).map pD)).take us.length) = (n.kids.map Nd.post).flatten.map mrow := by rw [lu, ← List.length_map (f := mrow)]; exact List.take_left
          rw [← e2]
          exact this
        walk_at "g"
        refine q _ _ (us ++ [.ref p7]) (same_put s3 ho) ho upd_same ?_
        rw [Nd.post_eq, List.map_append]
        exact (((ru7.append (.one (A.at' 0 rfl rfl))).sx sO).less lesub)
end
end D

namespace D
open PySem PySem.Spec PyProof.Rows L2
local macro_rules | `(tactic| walk_at "st") => `(tactic| first | exact SqT.of (by assumption) | exact Or.inl (by assumption) | exact SqT.of upd_same | fail "st")
local macro_rules | `(tactic| walk_at "ixt") => `(tactic| refine ⟨_, _, _, _, rfl, rfl, (by walk_at "st" : SqT _ _ _ _), by rfl, ?_⟩)
local macro_rules | `(tactic| walk_at "sq") => `(tactic| first | exact SqL.of (by assumption) | assumption | exact Or.inl (by assumption) | exact SqL.of upd_same | fail "sq")
local macro_rules | `(tactic| walk_at "ix") => `(tactic| refine ⟨_, _, _, _, rfl, rfl, (by walk_at "sq" : SqL _ _ _ _), by rfl, ?_⟩)
local macro_rules | `(tactic| walk_at "set") => `(tactic| refine ⟨_, _, _, _, rfl, rfl, by first | assumption | exact upd_same, by rfl, ?_⟩)
local macro_rules | `(tactic| walk_at "len") => `(tactic| refine ⟨_, _, rfl, Or.inl (by walk_at "sq" : SqL _ _ _ _), ?_⟩)
local macro_rules | `(tactic| walk_at "g") => `(tactic| repeat (first | refine ⟨_, rfl, ?_⟩ | refine ⟨_, _, rfl, rfl, ?_⟩ | refine ⟨Or.inr (by decide), ?_⟩ | refine ⟨Or.inl (by decide), ?_⟩ | refine ⟨(by decide : (0 : Int) < _), ?_⟩ | refine ⟨(⟨by decide, by decide⟩ : CDiv _ _), ?_⟩ | refine ⟨(⟨by decide, by decide, by decide⟩ : CPow _ _), ?_⟩ | refine Or.inl ⟨_, rfl, ?_⟩ | refine ⟨rfl, ?_⟩ | walk_at "ix" | walk_at "ixt" | walk_at "len" | fail "g"))
local macro_rules | `(tactic| walk_at "if") => `(tactic| refine ite2 (fun e => ?_) (fun e => ?_))
section
variable {P : Program} {w : World} {K : PySem.W.Frag} {mg : Str → Option Value} {base : Heap}
def bxD (p : Nd × Int × Int) : PyData := .tuple [.int p.2.1, .int p.2.2, .int p.1.sz.1, .int p.1.sz.2]
def rrow (p : Nd × Int × Int) : PyData := .tuple [.str p.1.mark, bxD p]
def SzK (M : Ms) (H : Hp) (kvs : List (Key × V)) (n : Nd) : Prop := ∀ k ∈ n.subs, ∃ u, valV kvs (.inr k.mark) = some u ∧ Rp M H u (pD k.sz)
theorem SzK.sx {M : Ms} {H H' : Hp} {kvs : List (Key × V)} {n : Nd} (h : SzK M H kvs n) (s : Sx M H H') : SzK M H' kvs n := fun k hk => by
  obtain ⟨u, e, r⟩ := h k hk
  exact ⟨u, e, r.sx s⟩
theorem SzK.fresh {M : Ms} {H : Hp} {kvs : List (Key × V)} {n : Nd} {p : Addr} (hp : H p = none) (h : SzK M H kvs n) : SzK (also M p) H kvs n := fun k hk => by
  obtain ⟨u, e, r⟩ := h k hk
  exact ⟨u, e, r.fresh hp⟩
theorem SzK.sub {M : Ms} {H : Hp} {kvs : List (Key × V)} {n k : Nd} (h : SzK M H kvs n) (hk : k ∈ n.kids) : SzK M H kvs k := fun y hy => h y (sub_mem hk hy)
theorem self_mem (n : Nd) : n ∈ n.subs := by rw [Nd.subs_eq]; exact List.mem_cons_self
theorem dget_s {H : Hp} {d : Addr} {kvs : List (Key × V)} {m : Str} {u : V} (e : H d = some (.dK kvs)) (h : valV kvs (.inr m) = some u) : DGet H d (.str m) (some u) := by
  have := DGet.k (k := .inr m) e
  rw [h] at this
  exact this
def adX (row : Bool) (x : Int) (ks : List Nd) : Int := if row = true then x + (ks.map fun k => k.sz.1).sum else x
def adY (row : Bool) (y : Int) (ks : List Nd) : Int := if row = true then y else y + (ks.map fun k => k.sz.2).sum
theorem adX_snoc (row : Bool) (x : Int) (ks : List Nd) (k : Nd) : adX row x (ks ++ [k]) = if row = true then adX row x ks + k.sz.1 else adX row x ks := by
  unfold adX
  cases row
  · rfl
  · simp [Int.add_assoc]
theorem adY_snoc (row : Bool) (y : Int) (ks : List Nd) (k : Nd) : adY row y (ks ++ [k]) = if row = true then adY row y ks else adY row y ks + k.sz.2 := by
  unfold adY
  cases row
  · simp [Int.add_assoc]
  · rfl
theorem rectss_snoc (row : Bool) (ks : List Nd) (k : Nd) (x y : Int) : Nd.rectss row (ks ++ [k]) x y = Nd.rectss row ks x y ++ k.rects (adX row x ks) (adY row y ks) := by
  rw [Nd.rectss_app]
  congr 1
  rw [Nd.rectss, Nd.rectss, List.append_nil]
  rfl
def sp_rects (n0 : Nat) : Sp := fun vs H Q _ => ∃ (v : V) (x y : Int) (d : Addr) (n : Nd) (kvs : List (Key × V)) (M : Ms), vs = [v, .int x, .int y, .ref d] ∧ Rp M H v n.enc ∧ Mk M H ∧ n.dep ≤ n0 ∧ n.subs.length ≤ 400 ∧ H d = some (.dK kvs) ∧ SzK M H kvs n ∧
  ∀ H' p us, Same H H' → H p = none → H' p = some (.lst us) → RpAll M H' us ((n.rects x y).map rrow) → Q (.ref p) H'
theorem rects_len (n : Nd) (x y : Int) : (n.rects x y).length = n.subs.length := by rw [← Nd.rects_map n x y, List.length_map]
theorem rectss_len (row : Bool) (ks : List Nd) (x y : Int) : (Nd.rectss row ks x y).length = ((ks.map Nd.subs).flatten).length := by
  rw [← Nd.rectss_map row ks x y fun k _ => Nd.rects_map k, List.length_map]
theorem ok_rects (T : Txt K mg) : ∀ n0, FnOk P w K mg base CX0 (n0 + 1) T.f__rectangles T.d__rectangles ["node", "x", "y", "sizes"] (sp_rects n0) := by
  intro n0
  induction n0 with
  | zero =>
    refine T.F__rectangles.ok sc__rectangles (fun vs H Q E h => ?_) (fun cdv A outer s H vs Q E hr h => ?_)
    · obtain ⟨_, _, _, _, _, _, _, rfl, _⟩ := h
      rfl
    · obtain ⟨v, x, y, d, n, kvs, M, rfl, _, _, hd, _⟩ := h
      exact absurd n.dep_pos (by omega)
  | succ n0 ih =>
    have G__rectangles := ih
    refine T.F__rectangles.ok sc__rectangles (fun vs H Q E h => ?_) (fun cdv A outer s H vs Q E hr h => ?_)
    · obtain ⟨_, _, _, _, _, _, _, rfl, _⟩ := h
      rfl
    · obtain ⟨v, x, y, d, n, kvs, M, rfl, hR, hM, hd, hl, hdk, hK, q⟩ := h
      rw [Nd.enc_eq] at hR
      obtain ⟨t, ts, rfl, nt, ht, rt⟩ := Rp.tupN hR
      obtain ⟨x1, x2, x3, rfl, q1, q2, q3⟩ := rt.inv3
      cases q1; cases q2
      obtain ⟨c, cs, rfl, nc, hc, rc⟩ := Rp.tupN q3
      have lc := rc.length
      rw [List.length_map] at lc
      obtain ⟨u0, hu0, ru0⟩ := hK n (self_mem n)
      obtain ⟨w0, rfl, hw0⟩ := ru0.pair
      refine ⟨_, (pss_cons (ps_asg (pe_dget (hu_of hr) (pv 3) (pe_ix (ix_tupK (K := K) rfl) (pv 0) pe_int (fun _ _ => rfl)) (fun _ _ => rfl)) (pg_tupK (K := K) rfl rfl (pgs_cons (pg_name (i := 4) sc__rectangles.nd rfl (Or.inl rfl)) (pgs_cons (pg_name (i := 5) sc__rectangles.nd rfl (Or.inl rfl)) pgs_nil))))
      (pss_cons (ps_set (i := 6) sc__rectangles.nd rfl (Or.inl rfl) (pe_lst (pa_cons (pe_tup (pa_cons (pe_ix (ix_tupK (K := K) rfl) (pv 0) pe_int (fun _ _ => rfl)) (pa_cons (pe_tup (pa_cons (pv 1) (pa_cons (pv 2) (pa_cons (pv 4) (pa_cons (pv 5) pa_nil))))) pa_nil))) pa_nil)))
      (pss_cons (ps_for PassesOwn.never rfl (pi_tupK (K := K) rfl (pe_ix (ix_tupK (K := K) rfl) (pv 0) pe_int (fun _ _ => rfl))) (pg_name (i := 7) sc__rectangles.nd rfl (Or.inl rfl)) (pss_cons (ps_expr (pe_bmK2 (K := K) rfl PySem.F.plainAttrs_list PySem.F.slot_list_extend PySem.F.type_list_extend mt_extend (pv 6) (pa_cons (pe_call G__rectangles (hr.mono (by omega)) (by rfl) T.g__rectangles T.F__rectangles.kp T.b__rectangles .nil pass0 (pa_cons (pv 7) (pa_cons (pv 1) (pa_cons (pv 2) (pa_cons (pv 3) pa_nil))))) pa_nil)))
      (pss_one (ps_if (pt_cmpR op_eq (pe_ix (ix_tupK (K := K) rfl) (pv 0) pe_int (fun _ _ => rfl)) pe_str (nomark _)) (pss_one (ps_aug (i := 1) sc__rectangles.nd rfl (Or.inl rfl) (pe_ix (ix_tupK (K := K) rfl) (pe_dget (hu_of hr) (pv 3) (pe_ix (ix_tupK (K := K) rfl) (pv 7) pe_int (fun _ _ => rfl)) (fun _ _ => rfl)) pe_int (fun _ _ => rfl)) ip_add)) (pss_one (ps_aug (i := 2) sc__rectangles.nd rfl (Or.inl rfl) (pe_ix (ix_tupK (K := K) rfl) (pe_dget (hu_of hr) (pv 3) (pe_ix (ix_tupK (K := K) rfl) (pv 7) pe_int (fun _ _ => rfl)) (fun _ _ => rfl)) pe_int (fun _ _ => rfl)) ip_add))))))
      (pss_one (ps_ret (pv 6)))))), ?_⟩
      walk_at "g"
      refine ⟨d, _, rfl, dget_s hdk hu0, w0, _, rfl, .inl hw0, rfl, _, _, rfl, _, _, rfl, rfl, ?_⟩
      walk_at "g"
      refine ⟨szK rfl, fun p1 hp1 => ?_⟩
      have A : Dt M (upd H p1 (.tup [.int x, .int y, .int n.sz.1, .int n.sz.2])) [.ref p1] [bxD (n, x, y)] := (Dt.mk hM RpAll.nil).tup hp1 (.cons (.int x) (.cons (.int y) (.cons (.int n.sz.1) (.one (.int n.sz.2)))))
      have s1 : Same H (upd H p1 (.tup [.int x, .int y, .int n.sz.1, .int n.sz.2])) := same_new hp1
      generalize upd H p1 (.tup [.int x, .int y, .int n.sz.1, .int n.sz.2]) = H1 at A s1
      refine ⟨szK rfl, fun p2 hp2 => ?_⟩
      have hp2 : H1 p2 = none := hp2
      have A : Dt M _ (.ref p2 :: _) (rrow (n, x, y) :: _) := A.tup hp2 (.cons (.str n.mark) (.one (A.at' 0 rfl rfl)))
      have s1 := s1.trans (same_new hp2 (o := .tup [.str n.mark, .ref p1]))
      generalize upd H1 p2 (.tup [.str n.mark, .ref p1]) = H2 at A s1
      refine ⟨szK rfl, fun o ho => ?_⟩
      have ho : H2 o = none := ho
      have no : H o = none := s1.free ho
      have eo : upd H2 o (.lst [.ref p2]) o = some (.lst [.ref p2]) := upd_same
      have r1 : Rp (also M o) (upd H2 o (.lst [.ref p2])) (.ref p2) (rrow (n, x, y)) := ((A.at' 0 rfl rfl).fresh ho).sx (Sx.new ho)
      have hM1 : Mk (also M o) (upd H2 o (.lst [.ref p2])) := A.ok.new.also upd_there
      have s1 := s1.trans (same_new ho (o := .lst [.ref p2]))
      generalize upd H2 o (.lst [.ref p2]) = H3 at eo r1 hM1 s1
      have ht1 := same_rd s1 ht
      have hc1 := same_rd s1 hc
      have mo : also M o o := .inr rfl
      walk_at "g"
      refine ⟨⟨_, .inl hc1⟩, ?_⟩
      have se := n.subs_eq
      have ln : ((n.kids.map Nd.subs).flatten).length + 1 = n.subs.length := by rw [se]; rfl
      generalize hrow : decide (n.label = sRow) = row
      refine for_tup (K := K) (a := c) (xs := cs) (fun i σ H' => (∃ y7, σ = [some (.ref t), some (.int (adX row x (n.kids.take i))), some (.int (adY row y (n.kids.take i))), some (.ref d), some (.int n.sz.1), some (.int n.sz.2), some (.ref o), y7]) ∧ Same H H' ∧ Mk (also M o) H' ∧ ∃ us, H' o = some (.lst us) ∧ RpAll (also M o) H' us (((n, x, y) :: Nd.rectss row (n.kids.take i) x y).map rrow)) ?_ (fun i σ H' _ p => same_sqt p.2.1 (.inl hc)) (fun i x' σ H' hx p => ?_) (fun σ H' p => ?_)
      · refine ⟨⟨none, ?_⟩, s1, hM1, _, eo, ?_⟩
        · rw [List.take_zero]
          unfold adX adY
          cases row <;> simp
          all_goals rfl
        · rw [List.take_zero, Nd.rectss]
          exact .one r1
      · obtain ⟨⟨y7, rfl⟩, s2, hM2, us, eo2, ru⟩ := p
        obtain ⟨d0, hd2, rx⟩ := rc.get hx
        rw [List.getElem?_map] at hd2
        obtain ⟨k, hk, rfl⟩ := Option.map_eq_some_iff.mp hd2
        have km := List.mem_of_getElem? hk
        have kd := Nd.dep_kid km
        have kl := flat_len (f := Nd.subs) km
        walk_at "g"
        refine ⟨.inl ⟨rfl, _, SqL.of eo2⟩, ?_⟩
        walk_at "g"
        have ro : Rp (also M o) H' x' k.enc := (rx.fresh no).sx (Sx.same s2)
        refine ⟨x', _, _, d, k, kvs, also M o, rfl, ro, hM2, by omega, by omega, s2 _ _ hdk, ((hK.sub km).fresh no).sx (Sx.same s2), fun H4 p4 vs4 s4 hp4 e4 r4 => ?_⟩
        have eo4 := s4 _ _ eo2
        have lu := ru.length
        have l4 := r4.length
        rw [List.length_map] at lu l4
        rw [rects_len] at l4
        rw [List.length_cons, rectss_len] at lu
        have tl := flat_take_le Nd.subs n.kids i
        refine ⟨o, p4, _, _, rfl, rfl, eo4, e4, ?_, ?_⟩
        · rw [lu, l4]
          exact Nat.le_of_lt (small1000 (by omega))
        have sO : Sx (also M o) H4 (upd H4 o (.lst (us ++ vs4))) := Sx.put mo
        have s5 : Same H (upd H4 o (.lst (us ++ vs4))) := same_put (s2.trans s4) no
        have hM5 := (hM2.gr (Gr.same s4)).gr (Gr.upd (p := o) (o := .lst (us ++ vs4)))
        have eo5 : upd H4 o (.lst (us ++ vs4)) o = some (.lst (us ++ vs4)) := upd_same
        have ru5 := ((ru.sx (Sx.same s4)).append r4).sx sO
        generalize upd H4 o (.lst (us ++ vs4)) = H5 at s5 hM5 eo5 ru5
        have tk : n.kids.take (i + 1) = n.kids.take i ++ [k] := by rw [List.take_add_one, hk]; rfl
        have ht5 := same_rd s5 ht
        obtain ⟨uk, huk, ruk⟩ := hK k (sub_mem km (self_mem k))
        obtain ⟨wk, rfl, hwk⟩ := ruk.pair
        have hwk5 := same_rd s5 hwk
        have hdk5 := s5 _ _ hdk
        rw [Nd.enc_eq] at rx
        obtain ⟨t2, ts2, rfl, nt2, ht2, rt2⟩ := Rp.tupN rx
        obtain ⟨z1, z2, z3, rfl, w1, w2, w3⟩ := rt2.inv3
        cases w1
        have ht25 := same_rd s5 ht2
        have fin : ∀ (a b : Int), a = adX row x (n.kids.take (i + 1)) → b = adY row y (n.kids.take (i + 1)) → (∃ y7, [some (V.ref t), some (.int a), some (.int b), some (.ref d), some (.int n.sz.1), some (.int n.sz.2), some (.ref o), some (.ref t2)] = [some (.ref t), some (.int (adX row x (n.kids.take (i + 1)))), some (.int (adY row y (n.kids.take (i + 1)))), some (.ref d), some (.int n.sz.1), some (.int n.sz.2), some (.ref o), y7]) ∧ Same H H5 ∧ Mk (also M o) H5 ∧ ∃ us, H5 o = some (.lst us) ∧ RpAll (also M o) H5 us (((n, x, y) :: Nd.rectss row (n.kids.take (i + 1)) x y).map rrow) := fun a b ha hb => by
          subst ha hb
          refine ⟨⟨_, rfl⟩, s5, hM5, _, eo5, ?_⟩
          rw [tk, rectss_snoc, ← List.cons_append, List.map_append]
          exact ru5
        walk_at "g"
        by_cases hr' : n.label = sRow
        · have er : row = true := by rw [← hrow]; exact decide_eq_true hr'
          rw [decide_eq_true (show V.str n.label = V.str (Str.ofString "row") by rw [hr']; rfl)]
          walk_at "g"
          refine ⟨d, _, rfl, dget_s hdk5 huk, ?_⟩
          walk_at "g"
          exact fin _ _ (by rw [tk, adX_snoc, er]; rfl) (by rw [tk, adY_snoc, er]; rfl)
        · have er : row = false := by rw [← hrow]; exact decide_eq_false hr'
          rw [decide_eq_false (show ¬ V.str n.label = V.str (Str.ofString "row") from fun z => hr' (by injection z))]
          walk_at "g"
          refine ⟨d, _, rfl, dget_s hdk5 huk, ?_⟩
          walk_at "g"
          exact fin _ _ (by rw [tk, adX_snoc, er]; rfl) (by rw [tk, adY_snoc, er]; rfl)
      · obtain ⟨⟨y7, rfl⟩, s2, hM2, us, eo2, ru⟩ := p
        rw [lc, List.take_of_length_le (Nat.le_refl _), ← hrow, ← Nd.rects_eq] at ru
        walk_at "g"
        exact q _ _ _ s2 no eo2 (ru.less also_le)
end
end D

namespace D
open PySem PySem.Spec PyProof.Rows L2
local macro_rules | `(tactic| walk_at "st") => `(tactic| first | exact SqT.of (by assumption) | exact Or.inl (by assumption) | exact SqT.of upd_same | fail "st")
local macro_rules | `(tactic| walk_at "ixt") => `(tactic| refine ⟨_, _, _, _, rfl, rfl, (by walk_at "st" : SqT _ _ _ _), by rfl, ?_⟩)
local macro_rules | `(tactic| walk_at "sq") => `(tactic| first | exact SqL.of (by assumption) | assumption | exact Or.inl (by assumption) | exact SqL.of upd_same | fail "sq")
local macro_rules | `(tactic| walk_at "ix") => `(tactic| refine ⟨_, _, _, _, rfl, rfl, (by walk_at "sq" : SqL _ _ _ _), by rfl, ?_⟩)
local macro_rules | `(tactic| walk_at "set") => `(tactic| refine ⟨_, _, _, _, rfl, rfl, by first | assumption | exact upd_same, by rfl, ?_⟩)
local macro_rules | `(tactic| walk_at "len") => `(tactic| refine ⟨_, _, rfl, Or.inl (by walk_at "sq" : SqL _ _ _ _), ?_⟩)
local macro_rules | `(tactic| walk_at "g") => `(tactic| repeat (first | refine ⟨_, rfl, ?_⟩ | refine ⟨_, _, rfl, rfl, ?_⟩ | refine ⟨Or.inr (by decide), ?_⟩ | refine ⟨Or.inl (by decide), ?_⟩ | refine ⟨(by decide : (0 : Int) < _), ?_⟩ | refine ⟨(⟨by decide, by decide⟩ : CDiv _ _), ?_⟩ | refine ⟨(⟨by decide, by decide, by decide⟩ : CPow _ _), ?_⟩ | refine Or.inl ⟨_, rfl, ?_⟩ | refine ⟨rfl, ?_⟩ | walk_at "ix" | walk_at "ixt" | walk_at "len" | fail "g"))
local macro_rules | `(tactic| walk_at "if") => `(tactic| refine ite2 (fun e => ?_) (fun e => ?_))
section
variable {P : Program} {w : World} {K : PySem.W.Frag} {mg : Str → Option Value} {base : Heap}
def sPage : Str := Str.ofString "_page"
def sTold : Str := Str.ofString "_told"
def sPlaces : Str := Str.ofString "_places"
theorem pf_told (v x : V) : putF (Str.ofString "_told") x [(sPage, v)] = [(sPage, v), (sTold, x)] := by
  rw [putF_ne (by decide +kernel)]
  rfl
theorem pf_places (v x y : V) : putF (Str.ofString "_places") y [(sPage, v), (sTold, x)] = [(sPage, v), (sTold, x), (sPlaces, y)] := by
  rw [putF_ne (by decide +kernel), putF_ne (by decide +kernel)]
  rfl
def sp_top (C : Addr) : Sp := fun vs H Q _ => ∃ (v r : V) (n : Nd) (M : Ms), vs = [v] ∧ PageAt C M H v n r ∧ Q r H
theorem ok_top (T : Txt K mg) : FnOk P w K mg base CX0 1 T.f_Page_top T.d_Page_top ["self"] (sp_top T.C_Page) := by
  refine T.F_Page_top.ok sc_Page_top (fun vs H Q E h => ?_) (fun cdv A outer s H vs Q E hr h => ?_)
  · obtain ⟨_, _, _, _, rfl, _⟩ := h
    rfl
  · obtain ⟨v, r, n, M, rfl, hP, q⟩ := h
    obtain ⟨a, dx, dn, on, gv, us, rfl, na, ha, hr', nn, hn, hu⟩ := hP
    refine ⟨_, (pss_one (ps_ret (pe_fldK (K := K) rfl (pv 0) rfl))), ?_⟩
    walk_at "g"
    exact ⟨a, _, dx, _, r, rfl, ha, T.cl_Page, T.nA_Page__root, rfl, q⟩
/-- a pair more in a dict that is made in order -/
theorem zip_more {ms : List Str} {ws : List V} {m : Str} {y : V} {j : Nat} (nd : ms.Nodup) (hm : ms[j]? = some m) (hl : ws.length = j) : putK (kvS ((ms.take j).zip ws)) (.inr m) y = kvS ((ms.take (j + 1)).zip (ws ++ [y])) := by
  have hj := (List.getElem?_eq_some_iff.mp hm).1
  have lt : (ms.take j).length = ws.length := by rw [List.length_take]; omega
  rw [putK_new]
  · rw [List.take_add_one, hm, Option.toList_some, List.zip_append lt]
    rfl
  · rw [zip_fst _ _ lt]
    exact nd_take nd hm
theorem PageAt.root {C : Addr} {M : Ms} {H : Hp} {v r : V} {n : Nd} (h : PageAt C M H v n r) : Rp M H r n.enc := by
  obtain ⟨a, dx, dn, on, gv, us, rfl, na, ha, hr, nn, hn, hu⟩ := h
  exact hr
theorem PageAt.ins {C : Addr} {M : Ms} {H : Hp} {v r : V} {n : Nd} (h : PageAt C M H v n r) : ∃ a dx fs, v = .ref a ∧ H a = some (.ins C dx fs) := by
  obtain ⟨a, dx, dn, on, gv, us, rfl, na, ha, hr, nn, hn, hu⟩ := h
  exact ⟨a, dx, _, rfl, ha⟩
def sp_keep (CL CP : Addr) : Sp := fun vs H Q _ => ∃ (a dx m : Addr) (gv r : V) (n : Nd) (us : List V) (M : Ms), vs = [.ref a, gv, .ref m] ∧ H a = some (.ins CL dx []) ∧ M a ∧ PageAt CP M H gv n r ∧ Mk M H ∧ goodT n ∧ H m = some (.lst us) ∧ RpAll M H us (n.post.map mrow) ∧
  ∀ H' tv dp op ws, Sx (one a) H H' → Gr H H' → H' a = some (.ins CL dx [(sPage, gv), (sTold, tv), (sPlaces, .ref dp)]) → ¬ M dp → H' dp = some (.frz op (.dK (kvS (n.marks.zip ws)))) → RpAll M H' ws ((n.rects 0 0).map bxD) → Q .non H'
theorem ok_keep (T : Txt K mg) : FnOk P w K mg base CX0 62 T.f_Laid__keep T.d_Laid__keep ["self", "page", "measured"] (sp_keep T.C_Laid T.C_Page) := by
  have G__rectangles := ok_rects (P := P) (w := w) (base := base) T 60
  have G_Page_top := ok_top (P := P) (w := w) (base := base) T
  refine T.F_Laid__keep.ok sc_Laid__keep (fun vs H Q E h => ?_) (fun cdv A outer s H vs Q E hr h => ?_)
  · obtain ⟨_, _, _, _, _, _, _, _, rfl, _⟩ := h
    rfl
  · obtain ⟨a, dx, m, gv, r, n, us, M, rfl, ha, ma, hP, hM, hg, hm, hu, q⟩ := h
    have lu := hu.length
    rw [List.length_map, post_len] at lu
    have hgl := hg.len
    have npm := Nd.post_nodup hg.nd
    refine ⟨_, (pss_cons (ps_setDcK (i := 3) (own := [("mark", 4), ("_", 5), ("size", 6)]) (g := gTup K 3 (gCons (gName 4) (gCons (gName 5) (gCons (gName 6) gNil)))) (tt := tYes) (by rfl) sc_Laid__keep.nd rfl rfl (sw_trueD rfl rfl rfl (by decide +kernel)) (pi_listK (K := K) rfl (pv 2)) (blkOk_by (own := [("mark", 4), ("_", 5), ("size", 6)]) (N := ["self", "page", "measured", "sizes", "mark", "_", "size", "told", "place"]) (sc := defScope s_Laid__keep) (by decide +kernel)) (fun _ _ _ _ _ => (pg_tupK (K := K) rfl rfl (pgs_cons (pg_name (i := 4) sc_Laid__keep.nd rfl (Or.inl rfl)) (pgs_cons (pg_name (i := 5) sc_Laid__keep.nd rfl (Or.inl rfl)) (pgs_cons (pg_name (i := 6) sc_Laid__keep.nd rfl (Or.inl rfl)) pgs_nil))))) (fun _ _ _ _ _ => pts_nil) (fun _ _ _ _ _ => (pv 4)) (fun _ _ _ _ _ => (pv 6)))
      (pss_cons (ps_fld (pv 0) (pv 1) rfl)
      (pss_cons (ps_fld (pv 0) (pe_frz (pe_dc (own := [("mark", 4), ("told", 7), ("_", 5)]) (g := gTup K 3 (gCons (gName 4) (gCons (gName 7) (gCons (gName 5) gNil)))) (tt := tYes) (by rfl) sc_Laid__keep.nd (pi_listK (K := K) rfl (pv 2)) (blkOk_by (own := [("mark", 4), ("told", 7), ("_", 5)]) (N := ["self", "page", "measured", "sizes", "mark", "_", "size", "told", "place"]) (sc := defScope s_Laid__keep) (by decide +kernel)) (fun _ _ _ _ _ => (pg_tupK (K := K) rfl rfl (pgs_cons (pg_name (i := 4) sc_Laid__keep.nd rfl (Or.inl rfl)) (pgs_cons (pg_name (i := 7) sc_Laid__keep.nd rfl (Or.inl rfl)) (pgs_cons (pg_name (i := 5) sc_Laid__keep.nd rfl (Or.inl rfl)) pgs_nil))))) (fun _ _ _ _ _ => pts_nil) (fun _ _ _ _ _ => (pv 4)) (fun _ _ _ _ _ => (pv 7)))) rfl)
      (pss_one (ps_fld (pv 0) (pe_frz (pe_dc (own := [("mark", 4), ("place", 8)]) (g := gTup K 2 (gCons (gName 4) (gCons (gName 8) gNil))) (tt := tYes) (by rfl) sc_Laid__keep.nd (pi_listK (K := K) rfl (pe_call G__rectangles (hr.mono (by omega)) (by rfl) T.g__rectangles T.F__rectangles.kp T.b__rectangles .nil pass0 (pa_cons (pe_prop (pv 1) T.cl_Page T.P_Page_top G_Page_top (hr.mono (by omega)) T.b_Page_top .nil pass0 rfl) (pa_cons pe_int (pa_cons pe_int (pa_cons (pv 3) pa_nil)))))) (blkOk_by (own := [("mark", 4), ("place", 8)]) (N := ["self", "page", "measured", "sizes", "mark", "_", "size", "told", "place"]) (sc := defScope s_Laid__keep) (by decide +kernel)) (fun _ _ _ _ _ => (pg_tupK (K := K) rfl rfl (pgs_cons (pg_name (i := 4) sc_Laid__keep.nd rfl (Or.inl rfl)) (pgs_cons (pg_name (i := 8) sc_Laid__keep.nd rfl (Or.inl rfl)) pgs_nil)))) (fun _ _ _ _ _ => pts_nil) (fun _ _ _ _ _ => (pv 4)) (fun _ _ _ _ _ => (pv 8)))) rfl))))), ?_⟩
    walk_at "g"
    refine ⟨⟨_, SqL.of hm⟩, fun D hD => ?_⟩
    have lpo := post_len n
    refine list_loop (K := K) (a := m) (xs := us) (fun j H' => Same H H' ∧ ∃ ws, H' D = some (.dK (kvS (((n.post.map Nd.mark).take j).zip ws))) ∧ RpAll M H ws ((n.post.take j).map fun k => pD k.sz)) ⟨same_new hD, [], upd_same, .nil⟩ (fun j H' _ z => SqL.of (z.1 _ _ hm)) (fun j x H' hx z => ?_) (fun H1 z => ?_)
    · obtain ⟨s1, ws, eD, rw1⟩ := z
      obtain ⟨d, hd, rx⟩ := hu.get hx
      rw [List.getElem?_map] at hd
      obtain ⟨k, hk, rfl⟩ := Option.map_eq_some_iff.mp hd
      have hj := (List.getElem?_eq_some_iff.mp hk).1
      obtain ⟨t, ts, rfl, nt, ht, rt⟩ := Rp.tupN rx
      obtain ⟨y1, y2, y3, rfl, q1, q2, q3⟩ := rt.inv3
      cases q1
      have lw := rw1.length
      rw [List.length_map, List.length_take] at lw
      refine ⟨t, _, rfl, .inl (same_rd s1 ht), rfl, _, _, rfl, _, _, rfl, _, _, rfl, rfl, rfl, ?_⟩
      walk_at "g"
      refine ⟨_, .inr k.mark, rfl, eD, ?_, same_put s1 hD, ws ++ [y3], ?_, ?_⟩
      · rw [kvS_len, List.length_zip]
        exact small1000 (by omega)
      · rw [upd_same, zip_more npm (by rw [List.getElem?_map, hk]; rfl) (by omega)]
      · rw [List.take_add_one, hk, List.map_append]
        exact rw1.append (.one q3)
    obtain ⟨s1, ws, eD, rw1⟩ := z
    have lw := rw1.length
    rw [List.length_map, List.length_take] at lw
    rw [lu, ← lpo] at eD rw1 lw
    rw [List.take_of_length_le (by rw [List.length_map]; exact Nat.le_refl _)] at eD
    rw [List.take_of_length_le (Nat.le_refl _)] at rw1
    -- the sizes by their marks
    have hK : SzK M H1 (kvS ((n.post.map Nd.mark).zip ws)) n := fun k hk => by
      have hkp : k ∈ n.post := (Nd.post_perm n).mem_iff.mpr hk
      obtain ⟨j, hj⟩ := List.mem_iff_getElem?.mp hkp
      obtain ⟨u, hu1, ru1⟩ := rw1.getD (show (n.post.map fun k => pD k.sz)[j]? = some (pD k.sz) by rw [List.getElem?_map, hj]; rfl)
      refine ⟨u, valS_of (i := j) ?_ ?_, ru1.sx (Sx.same s1)⟩
      · rw [zip_fst _ _ (by rw [List.length_map]; omega)]
        exact npm
      · rw [List.getElem?_zip_eq_some]
        exact ⟨by rw [List.getElem?_map, hj]; rfl, hu1⟩
    have aD : a ≠ D := fun z => by rw [z, hD] at ha; cases ha
    have am : a ≠ m := fun z => by rw [z, hm] at ha; cases ha
    have le : ∀ c, one a c → M c := fun c z => by rw [show c = a from z]; exact ma
    have sa : ∀ {J : Hp} {o : HO}, Sx (one a) J (upd J a o) := Sx.put rfl
    have ha1 := s1 _ _ ha
    have hP1 := hP.sx (Sx.same s1)
    have hM1 := hM.gr (Gr.same s1)
    have hm1 := s1 _ _ hm
    have hu1 := hu.sx (Sx.same s1)
    walk_at "g"
    refine ⟨a, _, dx, [], rfl, ha1, T.cl_Laid, T.nA_Laid__page, (by decide), ?_⟩
    have s2 : Sx (one a) H (upd H1 a (.ins T.C_Laid dx [(sPage, gv)])) := (Sx.same s1).trans sa
    have g2 : Gr H (upd H1 a (.ins T.C_Laid dx [(sPage, gv)])) := (Gr.same s1).trans Gr.upd
    have ea2 : upd H1 a (.ins T.C_Laid dx [(sPage, gv)]) a = some (.ins T.C_Laid dx [(sPage, gv)]) := upd_same
    have eD2 : upd H1 a (.ins T.C_Laid dx [(sPage, gv)]) D = some (.dK (kvS ((n.post.map Nd.mark).zip ws))) := by rw [upd_ne (Ne.symm aD)]; exact eD
    have em2 : upd H1 a (.ins T.C_Laid dx [(sPage, gv)]) m = some (.lst us) := by rw [upd_ne (Ne.symm am)]; exact hm1
    have sa2 : Sx M H1 (upd H1 a (.ins T.C_Laid dx [(sPage, gv)])) := sa.le le
    have hP2 := hP1.sx sa2
    have hM2 := hM1.gr (Gr.upd (p := a) (o := .ins T.C_Laid dx [(sPage, gv)]))
    have hu2 := hu1.sx sa2
    have hK2 := hK.sx sa2
    show tSeq _ _ _ _ (upd H1 a (.ins T.C_Laid dx [(sPage, gv)]))
    generalize upd H1 a (.ins T.C_Laid dx [(sPage, gv)]) = H2 at s2 g2 ea2 eD2 em2 hP2 hM2 hu2 hK2
    clear sa2 hK hP1 hM1 hu1
    walk_at "g"
    refine ⟨⟨_, SqL.of em2⟩, fun D3 hD3 => ?_⟩
    refine list_loop (K := K) (a := m) (xs := us) (fun j H' => Same H2 H' ∧ ∃ kvs, H' D3 = some (.dK kvs) ∧ kvs.length ≤ j) ⟨same_new hD3, [], upd_same, Nat.le_refl _⟩ (fun j H' _ z => SqL.of (z.1 _ _ em2)) (fun j x H' hx z => ?_) (fun H3 z => ?_)
    · obtain ⟨s3, kvs, eD3, lk⟩ := z
      have hj := (List.getElem?_eq_some_iff.mp hx).1
      obtain ⟨d, hd, rx⟩ := hu2.get hx
      rw [List.getElem?_map] at hd
      obtain ⟨k, hk, rfl⟩ := Option.map_eq_some_iff.mp hd
      obtain ⟨t, ts, rfl, nt, ht, rt⟩ := Rp.tupN rx
      obtain ⟨y1, y2, y3, rfl, q1, q2, q3⟩ := rt.inv3
      cases q1
      refine ⟨t, _, rfl, .inl (same_rd s3 ht), rfl, _, _, rfl, _, _, rfl, _, _, rfl, rfl, rfl, ?_⟩
      walk_at "g"
      refine ⟨_, .inr k.mark, rfl, eD3, small1000 (by omega), same_put s3 hD3, _, upd_same, ?_⟩
      have := length_putK kvs (Sum.inr k.mark) y2
      omega
    obtain ⟨s3, kvs, eD3, lk⟩ := z
    refine ⟨D3, _, rfl, eD3, trivial, fun od3 => ?_⟩
    have s4 : Same H2 (upd H3 D3 (.frz od3 (.dK kvs))) := same_put s3 hD3
    have ea4 := s4 _ _ ea2
    have eD4 := s4 _ _ eD2
    have hP4 := hP2.sx (Sx.same s4)
    have hM4 := hM2.gr (Gr.same s4)
    have hK4 := hK2.sx (Sx.same s4)
    have s24 : Sx (one a) H (upd H3 D3 (.frz od3 (.dK kvs))) := s2.trans (Sx.same s4)
    have g24 : Gr H (upd H3 D3 (.frz od3 (.dK kvs))) := g2.trans (Gr.same s4)
    generalize upd H3 D3 (.frz od3 (.dK kvs)) = H4 at s4 ea4 eD4 hP4 hM4 hK4 s24 g24
    walk_at "g"
    refine ⟨a, _, dx, _, rfl, ea4, T.cl_Laid, T.nA_Laid__told, (by show 1 < 1000; decide), ?_⟩
    rw [pf_told]
    have s5 : Sx (one a) H (upd H4 a (.ins T.C_Laid dx [(sPage, gv), (sTold, .ref D3)])) := s24.trans sa
    have g5 : Gr H (upd H4 a (.ins T.C_Laid dx [(sPage, gv), (sTold, .ref D3)])) := g24.trans Gr.upd
    have ea5 : upd H4 a (.ins T.C_Laid dx [(sPage, gv), (sTold, .ref D3)]) a = some (.ins T.C_Laid dx [(sPage, gv), (sTold, .ref D3)]) := upd_same
    have eD5 : upd H4 a (.ins T.C_Laid dx [(sPage, gv), (sTold, .ref D3)]) D = some (.dK (kvS ((n.post.map Nd.mark).zip ws))) := by rw [upd_ne (Ne.symm aD)]; exact eD4
    have sa5 : Sx M H4 (upd H4 a (.ins T.C_Laid dx [(sPage, gv), (sTold, .ref D3)])) := sa.le le
    have hP5 := hP4.sx sa5
    have hM5 := hM4.gr (Gr.upd (p := a) (o := .ins T.C_Laid dx [(sPage, gv), (sTold, .ref D3)]))
    have hK5 := hK4.sx sa5
    generalize upd H4 a (.ins T.C_Laid dx [(sPage, gv), (sTold, .ref D3)]) = H5 at s5 g5 ea5 eD5 hP5 hM5 hK5
    clear sa5 hP4 hM4 hK4 ea4 eD4 s4 s24 g24
    walk_at "g"
    obtain ⟨pa, pdx, pfs, epa, hpa⟩ := hP5.ins
    refine ⟨pa, pdx, pfs, epa, hpa, .ref pa, r, n, M, rfl, (by rw [← epa]; exact hP5), ?_⟩
    walk_at "g"
    refine ⟨r, 0, 0, D, n, _, M, rfl, hP5.root, hM5, hg.dep, hg.len, eD5, hK5, fun H6 p6 us6 s6 hp6 e6 r6 => ?_⟩
    have l6 := r6.length
    rw [List.length_map, rects_len] at l6
    have ea6 := s6 _ _ ea5
    have hM6 := hM5.gr (Gr.same s6)
    refine ⟨p6, rfl, ⟨_, SqL.of e6⟩, fun D7 hD7 => ?_⟩
    have rmk : ∀ (j : Nat) (k : Nd × Int × Int), (n.rects 0 0)[j]? = some k → n.marks[j]? = some k.1.mark := fun j k hk => by
      unfold Nd.marks
      rw [← Nd.rects_map n 0 0, List.getElem?_map, List.getElem?_map, hk]
      rfl
    refine list_loop (K := K) (a := p6) (xs := us6) (fun j H' => Same H6 H' ∧ ∃ ws, H' D7 = some (.dK (kvS ((n.marks.take j).zip ws))) ∧ RpAll M H6 ws (((n.rects 0 0).take j).map bxD)) ⟨same_new hD7, [], upd_same, .nil⟩ (fun j H' _ z => SqL.of (z.1 _ _ e6)) (fun j x H' hx z => ?_) (fun H8 z => ?_)
    · obtain ⟨s7, ws7, eD7, rw7⟩ := z
      obtain ⟨d, hd, rx⟩ := r6.get hx
      rw [List.getElem?_map] at hd
      obtain ⟨k, hk, rfl⟩ := Option.map_eq_some_iff.mp hd
      have hj := (List.getElem?_eq_some_iff.mp hk).1
      rw [rects_len] at hj
      obtain ⟨t, ts, rfl, nt, ht, rt⟩ := Rp.tupN rx
      obtain ⟨y1, y2, rfl, q1, q2⟩ := rt.inv2
      cases q1
      have lw := rw7.length
      rw [List.length_map, List.length_take, rects_len] at lw
      refine ⟨t, _, rfl, .inl (same_rd s7 ht), rfl, _, _, rfl, _, _, rfl, rfl, rfl, ?_⟩
      walk_at "g"
      refine ⟨_, .inr k.1.mark, rfl, eD7, ?_, same_put s7 hD7, ws7 ++ [y2], ?_, ?_⟩
      · rw [kvS_len, List.length_zip]
        exact small1000 (by omega)
      · rw [upd_same, zip_more hg.nd (rmk j k hk) (by omega)]
      · rw [List.take_add_one, hk, List.map_append]
        exact rw7.append (.one q2)
    obtain ⟨s7, ws7, eD7, rw7⟩ := z
    have lmk : n.marks.length = n.subs.length := by unfold Nd.marks; rw [List.length_map]
    rw [l6] at eD7 rw7
    rw [List.take_of_length_le (by omega)] at eD7
    rw [List.take_of_length_le (by rw [rects_len]; exact Nat.le_refl _)] at rw7
    refine ⟨D7, _, rfl, eD7, trivial, fun od7 => ?_⟩
    have s8 : Same H6 (upd H8 D7 (.frz od7 (.dK (kvS (n.marks.zip ws7))))) := same_put s7 hD7
    have D7a : D7 ≠ a := fun z => by rw [z, ea6] at hD7; cases hD7
    walk_at "g"
    refine ⟨a, _, dx, _, rfl, s8 _ _ ea6, T.cl_Laid, T.nA_Laid__places, (by show 2 < 1000; decide), ?_⟩
    rw [pf_places]
    refine q _ _ _ od7 ws7 (s5.trans ((Sx.same (s6.trans s8)).trans sa)) (g5.trans ((Gr.same (s6.trans s8)).trans Gr.upd)) upd_same (hM6.out hD7) ?_ ((rw7.sx (Sx.same s8)).sx (sa.le le))
    rw [upd_ne D7a, upd_same]
end
end D

namespace D
open PySem PySem.Spec PyProof.Rows L2
local macro_rules | `(tactic| walk_at "st") => `(tactic| first | exact SqT.of (by assumption) | exact Or.inl (by assumption) | exact SqT.of upd_same | fail "st")
local macro_rules | `(tactic| walk_at "ixt") => `(tactic| refine ⟨_, _, _, _, rfl, rfl, (by walk_at "st" : SqT _ _ _ _), by rfl, ?_⟩)
local macro_rules | `(tactic| walk_at "sq") => `(tactic| first | exact SqL.of (by assumption) | assumption | exact Or.inl (by assumption) | exact SqL.of upd_same | fail "sq")
local macro_rules | `(tactic| walk_at "ix") => `(tactic| refine ⟨_, _, _, _, rfl, rfl, (by walk_at "sq" : SqL _ _ _ _), by rfl, ?_⟩)
local macro_rules | `(tactic| walk_at "set") => `(tactic| refine ⟨_, _, _, _, rfl, rfl, by first | assumption | exact upd_same, by rfl, ?_⟩)
local macro_rules | `(tactic| walk_at "len") => `(tactic| refine ⟨_, _, rfl, Or.inl (by walk_at "sq" : SqL _ _ _ _), ?_⟩)
local macro_rules | `(tactic| walk_at "g") => `(tactic| repeat (first | refine ⟨_, rfl, ?_⟩ | refine ⟨_, _, rfl, rfl, ?_⟩ | refine ⟨Or.inr (by decide), ?_⟩ | refine ⟨Or.inl (by decide), ?_⟩ | refine ⟨(by decide : (0 : Int) < _), ?_⟩ | refine ⟨(⟨by decide, by decide⟩ : CDiv _ _), ?_⟩ | refine ⟨(⟨by decide, by decide, by decide⟩ : CPow _ _), ?_⟩ | refine Or.inl ⟨_, rfl, ?_⟩ | refine ⟨rfl, ?_⟩ | walk_at "ix" | walk_at "ixt" | walk_at "len" | fail "g"))
local macro_rules | `(tactic| walk_at "if") => `(tactic| refine ite2 (fun e => ?_) (fun e => ?_))
section
variable {P : Program} {w : World} {K : PySem.W.Frag} {mg : Str → Option Value} {base : Heap}
/-- a page that is laid out -/
def LaidAt (CL CP : Addr) (M : Ms) (H : Hp) (v : V) (n : Nd) (gv r : V) : Prop := ∃ (a dx : Addr) (tv : V) (dp : Addr) (op : Obj) (ws : List V), v = .ref a ∧ ¬ M a ∧ H a = some (.ins CL dx [(sPage, gv), (sTold, tv), (sPlaces, .ref dp)]) ∧ PageAt CP M H gv n r ∧ ¬ M dp ∧ H dp = some (.frz op (.dK (kvS (n.marks.zip ws)))) ∧ RpAll M H ws ((n.rects 0 0).map bxD)
theorem LaidAt.sx {CL CP : Addr} {M : Ms} {H H' : Hp} {v gv r : V} {n : Nd} (h : LaidAt CL CP M H v n gv r) (s : Sx M H H') : LaidAt CL CP M H' v n gv r := by
  obtain ⟨a, dx, tv, dp, op, ws, rfl, na, ha, hp, nd, hd, hw⟩ := h
  exact ⟨a, dx, tv, dp, op, ws, rfl, na, s _ _ na ha, hp.sx s, nd, s _ _ nd hd, hw.sx s⟩
def sp_laid (CL CP : Addr) : Sp := fun vs H Q _ => ∃ (a dx : Addr) (gv r : V) (n : Nd) (M : Ms), vs = [.ref a, gv] ∧ H a = some (.ins CL dx []) ∧ M a ∧ PageAt CP M H gv n r ∧ Mk M H ∧ goodT n ∧
  ∀ H' tv dp op ws, Sx (one a) H H' → Gr H H' → H' a = some (.ins CL dx [(sPage, gv), (sTold, tv), (sPlaces, .ref dp)]) → ¬ M dp → H' dp = some (.frz op (.dK (kvS (n.marks.zip ws)))) → RpAll M H' ws ((n.rects 0 0).map bxD) → Q .non H'
theorem ok_laid (T : Txt K mg) : FnOk P w K mg base CX0 63 T.f_Laid___init__ T.d_Laid___init__ ["self", "page"] (sp_laid T.C_Laid T.C_Page) := by
  have G__measured := ok_measured (P := P) (w := w) (base := base) T 60
  have G_Page_top := ok_top (P := P) (w := w) (base := base) T
  have G_Laid__keep := ok_keep (P := P) (w := w) (base := base) T
  refine T.F_Laid___init__.ok sc_Laid___init__ (fun vs H Q E h => ?_) (fun cdv A outer s H vs Q E hr h => ?_)
  · obtain ⟨_, _, _, _, _, _, rfl, _⟩ := h
    rfl
  · obtain ⟨a, dx, gv, r, n, M, rfl, ha, ma, hP, hM, hg, q⟩ := h
    refine ⟨_, (pss_one (ps_expr (pe_meth (pv 0) T.cl_Laid ⟨T.a_Laid__keep, T.i_Laid__keep, T.F_Laid__keep.kp⟩ G_Laid__keep (hr.mono (by omega)) T.b_Laid__keep .nil pass0 (pa_cons (pv 1) (pa_cons (pe_call G__measured (hr.mono (by omega)) (by rfl) T.g__measured T.F__measured.kp T.b__measured .nil pass0 (pa_cons (pe_prop (pv 1) T.cl_Page T.P_Page_top G_Page_top (hr.mono (by omega)) T.b_Page_top .nil pass0 rfl) pa_nil)) pa_nil))))), ?_⟩
    obtain ⟨pa, pdx, pfs, rfl, hpa⟩ := hP.ins
    walk_at "g"
    refine ⟨a, dx, _, rfl, ha, ?_⟩
    walk_at "g"
    refine ⟨pa, pdx, pfs, rfl, hpa, .ref pa, r, n, M, rfl, hP, ?_⟩
    walk_at "g"
    refine ⟨r, n, M, rfl, hP.root, hM, hg.dep, hg.len, fun x hx => (hg.txt x hx).2.1, fun H1 p us s1 hp ep ru => ?_⟩
    walk_at "g"
    refine ⟨a, dx, p, .ref pa, r, n, us, M, rfl, s1 _ _ ha, ma, hP.sx (Sx.same s1), hM.gr (Gr.same s1), hg, ep, ru, fun H' tv dp op ws s2 g2 e2 nd hd hw => ?_⟩
    exact q H' tv dp op ws ((Sx.same s1).trans s2) ((Gr.same s1).trans g2) e2 nd hd hw
def sp_lpage (CL CP : Addr) : Sp := fun vs H Q _ => ∃ (v gv r : V) (n : Nd) (M : Ms), vs = [v] ∧ LaidAt CL CP M H v n gv r ∧ Q gv H
theorem ok_lpage (T : Txt K mg) : FnOk P w K mg base CX0 1 T.f_Laid_page T.d_Laid_page ["self"] (sp_lpage T.C_Laid T.C_Page) := by
  refine T.F_Laid_page.ok sc_Laid_page (fun vs H Q E h => ?_) (fun cdv A outer s H vs Q E hr h => ?_)
  · obtain ⟨_, _, _, _, _, rfl, _⟩ := h
    rfl
  · obtain ⟨v, gv, r, n, M, rfl, hL, q⟩ := h
    obtain ⟨a, dx, tv, dp, op, ws, rfl, na, ha, hp, nd, hd, hw⟩ := hL
    refine ⟨_, (pss_one (ps_ret (pe_fldK (K := K) rfl (pv 0) rfl))), ?_⟩
    walk_at "g"
    exact ⟨a, _, dx, _, gv, rfl, ha, T.cl_Laid, T.nA_Laid__page, rfl, q⟩
theorem lk_page (v x y : V) : ([(sPage, v), (sTold, x), (sPlaces, y)] : List (Str × V)).lookup (Str.ofString "_page") = some v := by
  rw [List.lookup_cons]
  rw [show (Str.ofString "_page" == sPage) = true by decide +kernel]
theorem lk_told (v x y : V) : ([(sPage, v), (sTold, x), (sPlaces, y)] : List (Str × V)).lookup (Str.ofString "_places") = some y := by
  rw [List.lookup_cons, List.lookup_cons, List.lookup_cons]
  rw [show (Str.ofString "_places" == sPage) = false by decide +kernel, show (Str.ofString "_places" == sTold) = false by decide +kernel, show (Str.ofString "_places" == sPlaces) = true by decide +kernel]
/-- what stands at a mark -/
theorem zip_val {ms : List Str} {ws : List V} {j : Nat} {m : Str} {u : V} (nd : ms.Nodup) (hl : ms.length = ws.length) (hm : ms[j]? = some m) (hu : ws[j]? = some u) : valV (kvS (ms.zip ws)) (.inr m) = some u :=
  valS_of (i := j) (by rw [zip_fst _ _ hl]; exact nd) (by rw [List.getElem?_zip_eq_some]; exact ⟨hm, hu⟩)
theorem rects_mark {n : Nd} {j : Nat} {k : Nd × Int × Int} (hk : (n.rects 0 0)[j]? = some k) : n.marks[j]? = some k.1.mark := by
  unfold Nd.marks
  rw [← Nd.rects_map n 0 0, List.getElem?_map, List.getElem?_map, hk]
  rfl
def sp_size (CL CP : Addr) : Sp := fun vs H Q _ => ∃ (v gv r : V) (n : Nd) (M : Ms), vs = [v] ∧ LaidAt CL CP M H v n gv r ∧ n.marks.Nodup ∧ Mk M H ∧ Pu M H (fun d => d = pD n.sz) Q
theorem ok_size (T : Txt K mg) : FnOk P w K mg base CX0 3 T.f_Laid_size T.d_Laid_size ["self"] (sp_size T.C_Laid T.C_Page) := by
  have G_Page_top := ok_top (P := P) (w := w) (base := base) T
  refine T.F_Laid_size.ok sc_Laid_size (fun vs H Q E h => ?_) (fun cdv A outer s H vs Q E hr h => ?_)
  · obtain ⟨_, _, _, _, _, rfl, _⟩ := h
    rfl
  · obtain ⟨v, gv, r, n, M, rfl, hL, hnd, hM, q⟩ := h
    obtain ⟨a, dx, tv, dp, op, ws, rfl, na, ha, hp, nd, hd, hw⟩ := hL
    refine ⟨_, (pss_cons (ps_asg (pe_dget (hu_of hr) (pe_fldK (K := K) rfl (pv 0) rfl) (pe_ix (ix_tupK (K := K) rfl) (pe_prop (pe_fldK (K := K) rfl (pv 0) rfl) T.cl_Page T.P_Page_top G_Page_top (hr.mono (by omega)) T.b_Page_top .nil pass0 rfl) pe_int (fun _ _ => rfl)) (fun _ _ => rfl)) (pg_tupK (K := K) rfl rfl (pgs_cons (pg_name (i := 1) sc_Laid_size.nd rfl (Or.inl rfl)) (pgs_cons (pg_name (i := 1) sc_Laid_size.nd rfl (Or.inl rfl)) (pgs_cons (pg_name (i := 2) sc_Laid_size.nd rfl (Or.inl rfl)) (pgs_cons (pg_name (i := 3) sc_Laid_size.nd rfl (Or.inl rfl)) pgs_nil))))))
      (pss_one (ps_ret (pe_tup (pa_cons (pv 2) (pa_cons (pv 3) pa_nil)))))), ?_⟩
    walk_at "g"
    have hroot := hp.root
    rw [Nd.enc_eq] at hroot
    obtain ⟨t, ts, rfl, nt, ht, rt⟩ := Rp.tupN hroot
    obtain ⟨y1, y2, y3, rfl, q1, q2, q3⟩ := rt.inv3
    cases q1
    have lw := hw.length
    rw [List.length_map, rects_len] at lw
    have lmk : n.marks.length = n.subs.length := by unfold Nd.marks; rw [List.length_map]
    obtain ⟨u0, hu0, ru0⟩ := hw.getD (show ((n.rects 0 0).map bxD)[0]? = some (bxD (n, 0, 0)) by rw [Nd.rects_eq]; rfl)
    obtain ⟨w0, ws0, rfl, nw, hw0, rw0⟩ := Rp.tupN ru0
    obtain ⟨z1, z2, z3, z4, rfl, b1, b2, b3, b4⟩ := rw0.inv4
    cases b1; cases b2; cases b3; cases b4
    have hval : valV (kvS (n.marks.zip ws)) (.inr n.mark) = some (.ref w0) := zip_val hnd (by omega) (rects_mark (j := 0) (k := (n, 0, 0)) (by rw [Nd.rects_eq]; rfl)) hu0
    refine ⟨a, _, dx, _, _, rfl, ha, T.cl_Laid, T.nA_Laid__places, lk_told _ _ _, ?_⟩
    obtain ⟨pa, pdx, pfs, rfl, hpa⟩ := hp.ins
    walk_at "g"
    refine ⟨a, _, dx, _, _, rfl, ha, T.cl_Laid, T.nA_Laid__page, lk_page _ _ _, ?_⟩
    refine ⟨pa, pdx, pfs, rfl, hpa, .ref pa, _, n, M, rfl, hp, ?_⟩
    walk_at "g"
    refine ⟨dp, _, rfl, ?_, w0, _, rfl, .inl hw0, rfl, _, _, rfl, _, _, rfl, _, _, rfl, _, _, rfl, rfl, ?_⟩
    · exact .inl ⟨_, .inr n.mark, .inr ⟨op, hd⟩, rfl, hval.symm⟩
    walk_at "g"
    refine ⟨szK rfl, fun p hp' => ?_⟩
    exact q _ _ _ (same_new hp') (Rp.newT hM hp' (.cons (.int n.sz.1) (.one (.int n.sz.2)))) rfl
def sp_at (CL CP : Addr) : Sp := fun vs H Q _ => ∃ (v gv r : V) (n : Nd) (j : Nat) (k : Nd × Int × Int) (M : Ms), vs = [v, .str k.1.mark] ∧ LaidAt CL CP M H v n gv r ∧ n.marks.Nodup ∧ (n.rects 0 0)[j]? = some k ∧ ∀ u, Rp M H u (bxD k) → Q u H
theorem ok_at (T : Txt K mg) : FnOk P w K mg base CX0 1 T.f_Laid___getitem__ T.d_Laid___getitem__ ["self", "mark"] (sp_at T.C_Laid T.C_Page) := by
  refine T.F_Laid___getitem__.ok sc_Laid___getitem__ (fun vs H Q E h => ?_) (fun cdv A outer s H vs Q E hr h => ?_)
  · obtain ⟨_, _, _, _, _, _, _, rfl, _⟩ := h
    rfl
  · obtain ⟨v, gv, r, n, j, k, M, rfl, hL, hnd, hk, q⟩ := h
    obtain ⟨a, dx, tv, dp, op, ws, rfl, na, ha, hp, nd, hd, hw⟩ := hL
    have lw := hw.length
    rw [List.length_map, rects_len] at lw
    have lmk : n.marks.length = n.subs.length := by unfold Nd.marks; rw [List.length_map]
    obtain ⟨u0, hu0, ru0⟩ := hw.getD (show ((n.rects 0 0).map bxD)[j]? = some (bxD k) by rw [List.getElem?_map, hk]; rfl)
    have hval : valV (kvS (n.marks.zip ws)) (.inr k.1.mark) = some u0 := zip_val hnd (by omega) (rects_mark hk) hu0
    have hg : DGet H dp (.str k.1.mark) (some u0) := .inl ⟨_, .inr k.1.mark, .inr ⟨op, hd⟩, rfl, hval.symm⟩
    refine ⟨_, (pss_cons (ps_if (pt_cmp (pc_dnotin (hu_of hr) (pv 1) (pe_fldK (K := K) rfl (pv 0) rfl))) (pss_one ps_never) pss_nil)
      (pss_one (ps_ret (pe_dget (hu_of hr) (pe_fldK (K := K) rfl (pv 0) rfl) (pv 1) (fun _ _ => rfl))))), ?_⟩
    walk_at "g"
    refine ⟨a, _, dx, _, _, rfl, ha, T.cl_Laid, T.nA_Laid__places, lk_told _ _ _, ?_⟩
    refine ⟨dp, _, rfl, hg, ?_⟩
    walk_at "g"
    refine ⟨a, _, dx, _, _, rfl, ha, T.cl_Laid, T.nA_Laid__places, lk_told _ _ _, ?_⟩
    walk_at "g"
    exact ⟨dp, _, rfl, hg, q u0 ru0⟩
def sp_iterL (CL CP : Addr) (m : Nat) : Sp := fun vs H Q _ => ∃ (a : Addr) (gv r : V) (n : Nd) (dp : Addr) (op : Obj) (ws : List V) (dx : Addr) (tv : V), vs = [.ref a] ∧ H a = some (.ins CL dx [(sPage, gv), (sTold, tv), (sPlaces, .ref dp)]) ∧ H dp = some (.frz op (.dK (kvS (n.marks.zip ws)))) ∧ ∀ it, H it = none → m ≤ it → Q (.ref it) (upd H it (ItDk dp op (kvS (n.marks.zip ws)).length 0 it))
theorem ok_iterL (T : Txt K mg) : FnW P w K mg base CX0 1 T.f_Laid___iter__ T.d_Laid___iter__ ["self"] (sp_iterL T.C_Laid T.C_Page) := by
  refine Fun.okW T.F_Laid___iter__ sc_Laid___iter__ (fun n vs H Q E h => ?_) (fun m cdv A outer s H vs Q E hm hr h => ?_)
  · obtain ⟨_, _, _, _, _, _, _, _, _, rfl, _⟩ := h
    rfl
  · obtain ⟨a, gv, r, n, dp, op, ws, dx, tv, rfl, ha, hd, q⟩ := h
    refine ⟨_, (pss_one (ps_ret (pe_callB call_iterD (by rfl) T.m_iter (by decide +kernel) (pa_cons (pe_fldK (K := K) rfl (pv 0) rfl) pa_nil)))), ?_⟩
    walk_at "g"
    refine ⟨a, _, dx, _, _, rfl, ha, T.cl_Laid, T.nA_Laid__places, lk_told _ _ _, ?_⟩
    exact ⟨dp, op, _, rfl, hd, fun it hi hn => q it hi (Nat.le_trans hm hn)⟩
end
end D

namespace D
open PySem PySem.Spec PyProof.Rows L2
local macro_rules | `(tactic| walk_at "st") => `(tactic| first | exact SqT.of (by assumption) | exact Or.inl (by assumption) | exact SqT.of upd_same | fail "st")
local macro_rules | `(tactic| walk_at "ixt") => `(tactic| refine ⟨_, _, _, _, rfl, rfl, (by walk_at "st" : SqT _ _ _ _), by rfl, ?_⟩)
local macro_rules | `(tactic| walk_at "sq") => `(tactic| first | exact SqL.of (by assumption) | assumption | exact Or.inl (by assumption) | exact SqL.of upd_same | fail "sq")
local macro_rules | `(tactic| walk_at "ix") => `(tactic| refine ⟨_, _, _, _, rfl, rfl, (by walk_at "sq" : SqL _ _ _ _), by rfl, ?_⟩)
local macro_rules | `(tactic| walk_at "set") => `(tactic| refine ⟨_, _, _, _, rfl, rfl, by first | assumption | exact upd_same, by rfl, ?_⟩)
local macro_rules | `(tactic| walk_at "len") => `(tactic| refine ⟨_, _, rfl, Or.inl (by walk_at "sq" : SqL _ _ _ _), ?_⟩)
local macro_rules | `(tactic| walk_at "g") => `(tactic| repeat (first | refine ⟨_, rfl, ?_⟩ | refine ⟨_, _, rfl, rfl, ?_⟩ | refine ⟨Or.inr (by decide), ?_⟩ | refine ⟨Or.inl (by decide), ?_⟩ | refine ⟨(by decide : (0 : Int) < _), ?_⟩ | refine ⟨(⟨by decide, by decide⟩ : CDiv _ _), ?_⟩ | refine ⟨(⟨by decide, by decide, by decide⟩ : CPow _ _), ?_⟩ | refine Or.inl ⟨_, rfl, ?_⟩ | refine ⟨rfl, ?_⟩ | walk_at "ix" | walk_at "ixt" | walk_at "len" | fail "g"))
local macro_rules | `(tactic| walk_at "if") => `(tactic| refine ite2 (fun e => ?_) (fun e => ?_))
section
variable {P : Program} {w : World} {K : PySem.W.Frag} {mg : Str → Option Value} {base : Heap}
theorem for_items {d : Addr} {o : Obj} {kvs : List (Key × V)} {g : TG} {tb : TS} {D : Ends} {σ : L2.St} {H : Hp} (Pv : Nat → L2.St → Hp → Prop) (h0 : Pv 0 σ H) (hl : ∀ i σ H, i ≤ kvs.length → Pv i σ H → H d = some (.frz o (.dK kvs)))
    (hs : ∀ i k v σ H T, kvs[i]? = some (k, v) → Pv i σ H → H T = none → g (.ref T) σ (upd H T (.tup [kV k, v])) fun σ2 H2 => tb { D with nx := Pv (i + 1), ct := Pv (i + 1), bk := D.nx } σ2 H2) (hd : ∀ σ H, Pv kvs.length σ H → D.nx σ H) :
    ∃ W : Nat → Nat → L2.St → Hp → Prop, (∃ m, W 0 m σ H) ∧ ∀ i m σ H, W i m σ H →
      ((Iti d o kvs).stop i H ∧ D.nx σ H) ∨ ((Iti d o kvs).go i H ∧ ∃ N : L2.St → Hp → Prop, (∀ σ' H', N σ' H' → ∃ m', m' < m ∧ W (i + 1) m' σ' H') ∧ ∀ x H', (Iti d o kvs).yld i H x H' → g x σ H' fun σ2 H2 => tb { D with nx := N, ct := N, bk := D.nx } σ2 H2) := by
  refine ⟨fun i m σ H => m = kvs.length - i ∧ i ≤ kvs.length ∧ Pv i σ H, ⟨kvs.length, by simp, Nat.zero_le _, h0⟩, ?_⟩
  rintro i m σ H ⟨rfl, hi, p⟩
  have q := hl i σ H hi p
  by_cases hlt : i < kvs.length
  · refine .inr ⟨⟨q, hlt⟩, Pv (i + 1), fun σ' H' p' => ⟨kvs.length - (i + 1), by omega, rfl, hlt, p'⟩, fun x H' y => ?_⟩
    obtain ⟨T, k, v, ek, ex, hT, eH⟩ := y
    subst ex eH
    exact hs i k v σ H T ek p hT
  · have e : i = kvs.length := by omega
    subst e
    exact .inl ⟨⟨q, Nat.le_refl _⟩, hd σ H p⟩
theorem for_keys {d : Addr} {o : Obj} {kvs : List (Key × V)} {g : TG} {tb : TS} {D : Ends} {σ : L2.St} {H : Hp} (Pv : Nat → L2.St → Hp → Prop) (h0 : Pv 0 σ H) (hl : ∀ i σ H, i ≤ kvs.length → Pv i σ H → H d = some (.frz o (.dK kvs)))
    (hs : ∀ i k v σ H, kvs[i]? = some (k, v) → Pv i σ H → g (kV k) σ H fun σ2 H2 => tb { D with nx := Pv (i + 1), ct := Pv (i + 1), bk := D.nx } σ2 H2) (hd : ∀ σ H, Pv kvs.length σ H → D.nx σ H) :
    ∃ W : Nat → Nat → L2.St → Hp → Prop, (∃ m, W 0 m σ H) ∧ ∀ i m σ H, W i m σ H →
      ((Itk d o kvs).stop i H ∧ D.nx σ H) ∨ ((Itk d o kvs).go i H ∧ ∃ N : L2.St → Hp → Prop, (∀ σ' H', N σ' H' → ∃ m', m' < m ∧ W (i + 1) m' σ' H') ∧ ∀ x H', (Itk d o kvs).yld i H x H' → g x σ H' fun σ2 H2 => tb { D with nx := N, ct := N, bk := D.nx } σ2 H2) := by
  refine ⟨fun i m σ H => m = kvs.length - i ∧ i ≤ kvs.length ∧ Pv i σ H, ⟨kvs.length, by simp, Nat.zero_le _, h0⟩, ?_⟩
  rintro i m σ H ⟨rfl, hi, p⟩
  have q := hl i σ H hi p
  by_cases hlt : i < kvs.length
  · refine .inr ⟨⟨q, hlt⟩, Pv (i + 1), fun σ' H' p' => ⟨kvs.length - (i + 1), by omega, rfl, hlt, p'⟩, fun x H' y => ?_⟩
    obtain ⟨eH, k, v, ek, ex⟩ := y
    subst ex eH
    exact hs i k v σ _ ek p
  · have e : i = kvs.length := by omega
    subst e
    exact .inl ⟨⟨q, Nat.le_refl _⟩, hd σ H p⟩
theorem kvS_get {ms : List Str} {ws : List V} {j : Nat} {k : Key} {v : V} (h : (kvS (ms.zip ws))[j]? = some (k, v)) : ∃ m, k = .inr m ∧ ms[j]? = some m ∧ ws[j]? = some v := by
  unfold kvS at h
  rw [List.getElem?_map] at h
  obtain ⟨⟨m, w⟩, hz, e⟩ := Option.map_eq_some_iff.mp h
  cases e
  exact ⟨m, rfl, List.getElem?_zip_eq_some.mp hz⟩
def sp_holds : Sp := fun vs H Q _ => ∃ (v : V) (k : Nd × Int × Int) (X Y : Int) (M : Ms), vs = [v, .int X, .int Y] ∧ Rp M H v (bxD k) ∧ Q (.bl (holdB X Y k)) H
theorem ok_holds (T : Txt K mg) : FnOk P w K mg base CX0 1 T.f__holds T.d__holds ["rectangle", "px", "py"] sp_holds := by
  refine T.F__holds.ok sc__holds (fun vs H Q E h => ?_) (fun cdv A outer s H vs Q E hr h => ?_)
  · obtain ⟨_, _, _, _, _, rfl, _⟩ := h
    rfl
  · obtain ⟨v, k, X, Y, M, rfl, hR, q⟩ := h
    obtain ⟨t, ts, rfl, nt, ht, rt⟩ := Rp.tupN hR
    obtain ⟨z1, z2, z3, z4, rfl, b1, b2, b3, b4⟩ := rt.inv4
    cases b1; cases b2; cases b3; cases b4
    refine ⟨_, (pss_cons (ps_asg (pv 0) (pg_tupK (K := K) rfl rfl (pgs_cons (pg_name (i := 3) sc__holds.nd rfl (Or.inl rfl)) (pgs_cons (pg_name (i := 4) sc__holds.nd rfl (Or.inl rfl)) (pgs_cons (pg_name (i := 5) sc__holds.nd rfl (Or.inl rfl)) (pgs_cons (pg_name (i := 6) sc__holds.nd rfl (Or.inl rfl)) pgs_nil))))))
      (pss_one (ps_ret (pe_and (pe_chain op_le op_lt (pv 3) (pv 1) (pe_op op_add (pv 3) (pv 5))) (pe_one (pe_chain op_le op_lt (pv 4) (pv 2) (pe_op op_add (pv 4) (pv 6)))))))), ?_⟩
    walk_at "g"
    refine ⟨t, _, rfl, .inl ht, rfl, _, _, rfl, _, _, rfl, _, _, rfl, _, _, rfl, rfl, ?_⟩
    walk_at "g"
    unfold holdB at q
    by_cases h1 : k.2.1 ≤ X
    · rw [if_pos (decide_eq_true h1)]
      walk_at "g"
      by_cases h2 : X < k.2.1 + k.1.sz.1
      · rw [decide_eq_true h2]
        walk_at "g"
        by_cases h3 : k.2.2 ≤ Y
        · rw [if_pos (decide_eq_true h3)]
          walk_at "g"
          rw [show decide (k.2.1 ≤ X ∧ X < k.2.1 + k.1.sz.1 ∧ k.2.2 ≤ Y ∧ Y < k.2.2 + k.1.sz.2) = decide (Y < k.2.2 + k.1.sz.2) from decide_eq_decide.mpr ⟨fun z => z.2.2.2, fun z => ⟨h1, h2, h3, z⟩⟩] at q
          exact q
        · rw [if_neg (by rw [decide_eq_false h3]; decide)]
          rw [decide_eq_false (fun z => h3 z.2.2.1)] at q
          exact q
      · rw [decide_eq_false h2]
        walk_at "g"
        rw [decide_eq_false (fun z => h2 z.2.1)] at q
        exact q
    · rw [if_neg (by rw [decide_eq_false h1]; decide)]
      walk_at "g"
      rw [decide_eq_false (fun z => h1 z.1)] at q
      exact q
def vM : Option (Nd × Int × Int) → V
  | some p => .str p.1.mark
  | none => .non
def sp_hit (CL CP : Addr) : Sp := fun vs H Q _ => ∃ (v gv r : V) (n : Nd) (X Y : Int) (M : Ms), vs = [v, .int X, .int Y] ∧ LaidAt CL CP M H v n gv r ∧ ∀ H', Same H H' → Q (vM (hitL X Y n 0 0).getLast?) H'
theorem ok_hit (T : Txt K mg) : FnOk P w K mg base CX0 3 T.f_Laid_hit T.d_Laid_hit ["self", "x", "y"] (sp_hit T.C_Laid T.C_Page) := by
  have G__holds := ok_holds (P := P) (w := w) (base := base) T
  refine T.F_Laid_hit.ok sc_Laid_hit (fun vs H Q E h => ?_) (fun cdv A outer s H vs Q E hr h => ?_)
  · obtain ⟨_, _, _, _, _, _, _, rfl, _⟩ := h
    rfl
  · obtain ⟨v, gv, r, n, X, Y, M, rfl, hL, q⟩ := h
    obtain ⟨a, dx, tv, dp, op, ws, rfl, na, ha, hp, nd, hd, hw⟩ := hL
    have lw := hw.length
    rw [List.length_map] at lw
    have lmk : n.marks.length = (n.rects 0 0).length := by rw [rects_len]; unfold Nd.marks; rw [List.length_map]
    have lz : (kvS (n.marks.zip ws)).length = (n.rects 0 0).length := by rw [kvS_len, List.length_zip]; omega
    refine ⟨_, (pss_cons (ps_set (i := 3) sc_Laid_hit.nd rfl (Or.inl rfl) pe_non)
      (pss_cons (ps_for PassesOwn.never rfl (pi_items (pe_fldK (K := K) rfl (pv 0) rfl)) (pg_tupK (K := K) rfl rfl (pgs_cons (pg_name (i := 4) sc_Laid_hit.nd rfl (Or.inl rfl)) (pgs_cons (pg_name (i := 5) sc_Laid_hit.nd rfl (Or.inl rfl)) pgs_nil))) (pss_one (ps_if (pt_val (pe_call G__holds (hr.mono (by omega)) (by rfl) T.g__holds T.F__holds.kp T.b__holds .nil pass0 (pa_cons (pv 5) (pa_cons (pv 1) (pa_cons (pv 2) pa_nil))))) (pss_one (ps_set (i := 3) sc_Laid_hit.nd rfl (Or.inl rfl) (pv 4))) pss_nil)))
      (pss_one (ps_ret (pv 3))))), ?_⟩
    walk_at "g"
    refine ⟨a, _, dx, _, _, rfl, ha, T.cl_Laid, T.nA_Laid__places, lk_told _ _ _, ?_⟩
    refine ⟨dp, op, _, rfl, hd, ?_⟩
    refine for_items (fun i σ H' => (∃ y4 y5, σ = [some (.ref a), some (.int X), some (.int Y), some (vM (((n.rects 0 0).take i).filter (holdB X Y)).getLast?), y4, y5]) ∧ Same H H') ⟨⟨_, _, rfl⟩, fun _ _ e => e⟩ (fun i σ H' _ p => p.2 _ _ hd) (fun i k v σ H' t hx p ht => ?_) (fun σ H' p => ?_)
    · obtain ⟨⟨y4, y5, rfl⟩, s1⟩ := p
      obtain ⟨m, rfl, hm, hv⟩ := kvS_get hx
      obtain ⟨d7, hd7, rv⟩ := hw.get hv
      rw [List.getElem?_map] at hd7
      obtain ⟨k7, hk7, rfl⟩ := Option.map_eq_some_iff.mp hd7
      have em : m = k7.1.mark := by
        have := rects_mark hk7
        rw [hm] at this
        exact Option.some.inj this
      subst em
      have s2 : Same H (upd H' t (.tup [kV (.inr k7.1.mark), v])) := s1.trans (same_new ht)
      have et : Rd (upd H' t (.tup [kV (.inr k7.1.mark), v])) t (.tup [.str k7.1.mark, v]) := .inl upd_same
      have rv2 := rv.sx (Sx.same s2)
      generalize upd H' t (.tup [kV (.inr k7.1.mark), v]) = H2 at s2 et rv2
      refine ⟨t, _, rfl, .inl et, rfl, _, _, rfl, _, _, rfl, rfl, ?_⟩
      walk_at "g"
      refine ⟨v, k7, X, Y, M, rfl, rv2, ?_⟩
      have ef : ((n.rects 0 0).take (i + 1)).filter (holdB X Y) = ((n.rects 0 0).take i).filter (holdB X Y) ++ (if holdB X Y k7 = true then [k7] else []) := by
        rw [List.take_add_one, hk7, List.filter_append]
        congr 1
        rw [Option.toList_some, List.filter_cons]
        rfl
      cases hb : holdB X Y k7 with
      | true =>
        rw [hb, if_pos rfl] at ef
        walk_at "g"
        refine ⟨?_, s2⟩
        rw [ef, List.getLast?_concat]
        exact ⟨_, _, rfl⟩
      | false =>
        rw [hb, if_neg (by decide), List.append_nil] at ef
        walk_at "g"
        refine ⟨?_, s2⟩
        rw [ef]
        exact ⟨_, _, rfl⟩
    · obtain ⟨⟨y4, y5, rfl⟩, s1⟩ := p
      rw [lz, List.take_length]
      walk_at "g"
      exact q _ s1
end
end D

namespace D
open PySem PySem.Spec PyProof.Rows L2
local macro_rules | `(tactic| walk_at "st") => `(tactic| first | exact SqT.of (by assumption) | exact Or.inl (by assumption) | exact SqT.of upd_same | fail "st")
local macro_rules | `(tactic| walk_at "ixt") => `(tactic| refine ⟨_, _, _, _, rfl, rfl, (by walk_at "st" : SqT _ _ _ _), by rfl, ?_⟩)
local macro_rules | `(tactic| walk_at "sq") => `(tactic| first | exact SqL.of (by assumption) | assumption | exact Or.inl (by assumption) | exact SqL.of upd_same | fail "sq")
local macro_rules | `(tactic| walk_at "ix") => `(tactic| refine ⟨_, _, _, _, rfl, rfl, (by walk_at "sq" : SqL _ _ _ _), by rfl, ?_⟩)
local macro_rules | `(tactic| walk_at "set") => `(tactic| refine ⟨_, _, _, _, rfl, rfl, by first | assumption | exact upd_same, by rfl, ?_⟩)
local macro_rules | `(tactic| walk_at "len") => `(tactic| refine ⟨_, _, rfl, Or.inl (by walk_at "sq" : SqL _ _ _ _), ?_⟩)
local macro_rules | `(tactic| walk_at "g") => `(tactic| repeat (first | refine ⟨_, rfl, ?_⟩ | refine ⟨_, _, rfl, rfl, ?_⟩ | refine ⟨Or.inr (by decide), ?_⟩ | refine ⟨Or.inl (by decide), ?_⟩ | refine ⟨(by decide : (0 : Int) < _), ?_⟩ | refine ⟨(⟨by decide, by decide⟩ : CDiv _ _), ?_⟩ | refine ⟨(⟨by decide, by decide, by decide⟩ : CPow _ _), ?_⟩ | refine Or.inl ⟨_, rfl, ?_⟩ | refine ⟨rfl, ?_⟩ | walk_at "ix" | walk_at "ixt" | walk_at "len" | fail "g"))
local macro_rules | `(tactic| walk_at "if") => `(tactic| refine ite2 (fun e => ?_) (fun e => ?_))
section
variable {P : Program} {w : World} {K : PySem.W.Frag} {mg : Str → Option Value} {base : Heap}
/-- lines of marks -/
def LnAt (M : Ms) (H : Hp) (u : V) (l : List Str) : Prop := ∃ a, u = .ref a ∧ ¬ M a ∧ H a = some (.lst (l.map V.str))
theorem LnAt.sx {M : Ms} {H H' : Hp} {u : V} {l : List Str} (h : LnAt M H u l) (s : Sx M H H') : LnAt M H' u l := by
  obtain ⟨a, e, n, h⟩ := h
  exact ⟨a, e, n, s _ _ n h⟩
theorem LnAt.less {M N : Ms} {H : Hp} {u : V} {l : List Str} (f : ∀ a, N a → M a) (h : LnAt M H u l) : LnAt N H u l := by
  obtain ⟨a, e, n, h⟩ := h
  exact ⟨a, e, fun z => n (f _ z), h⟩
structure LnsAt (M : Ms) (H : Hp) (us : List V) (ls : List (List Str)) : Prop where
  len : us.length = ls.length
  at' : ∀ (i : Nat) (u : V) (l : List Str), us[i]? = some u → ls[i]? = some l → LnAt M H u l
theorem LnsAt.sx {M : Ms} {H H' : Hp} {us : List V} {ls : List (List Str)} (h : LnsAt M H us ls) (s : Sx M H H') : LnsAt M H' us ls := ⟨h.len, fun i u l a b => (h.at' i u l a b).sx s⟩
theorem LnsAt.less {M N : Ms} {H : Hp} {us : List V} {ls : List (List Str)} (f : ∀ a, N a → M a) (h : LnsAt M H us ls) : LnsAt N H us ls := ⟨h.len, fun i u l a b => (h.at' i u l a b).less f⟩
theorem LnsAt.nil {M : Ms} {H : Hp} : LnsAt M H [] [] := ⟨rfl, fun i u l a _ => by cases a⟩
theorem LnsAt.one {M : Ms} {H : Hp} {u : V} {l : List Str} (h : LnAt M H u l) : LnsAt M H [u] [l] := ⟨rfl, fun i u' l' a b => by
  cases i with
  | zero => cases a; cases b; exact h
  | succ i => cases a⟩
theorem LnsAt.append {M : Ms} {H : Hp} {us vs : List V} {ls ms : List (List Str)} (h : LnsAt M H us ls) (g : LnsAt M H vs ms) : LnsAt M H (us ++ vs) (ls ++ ms) := by
  refine ⟨by rw [List.length_append, List.length_append, h.len, g.len], fun i u l a b => ?_⟩
  have hl := h.len
  by_cases c : i < us.length
  · rw [List.getElem?_append_left c] at a
    rw [List.getElem?_append_left (by omega)] at b
    exact h.at' i u l a b
  · rw [List.getElem?_append_right (by omega)] at a
    rw [List.getElem?_append_right (by omega), ← hl] at b
    exact g.at' _ u l a b
def PicAt (M : Ms) (H : Hp) (v : V) (w : Int) (ls : List (List Str)) : Prop := ∃ t p us, v = .ref t ∧ ¬ M t ∧ H t = some (.tup [.int w, .ref p]) ∧ ¬ M p ∧ H p = some (.lst us) ∧ LnsAt M H us ls
theorem PicAt.sx {M : Ms} {H H' : Hp} {v : V} {w : Int} {ls : List (List Str)} (h : PicAt M H v w ls) (s : Sx M H H') : PicAt M H' v w ls := by
  obtain ⟨t, p, us, e, nt, ht, np, hp, hu⟩ := h
  exact ⟨t, p, us, e, nt, s _ _ nt ht, np, s _ _ np hp, hu.sx s⟩
theorem PicAt.less {M N : Ms} {H : Hp} {v : V} {w : Int} {ls : List (List Str)} (f : ∀ a, N a → M a) (h : PicAt M H v w ls) : PicAt N H v w ls := by
  obtain ⟨t, p, us, e, nt, ht, np, hp, hu⟩ := h
  exact ⟨t, p, us, e, fun z => nt (f _ z), ht, fun z => np (f _ z), hp, hu.less f⟩
theorem PicAt.fresh {M : Ms} {H : Hp} {v : V} {w : Int} {ls : List (List Str)} {o : Addr} (h : PicAt M H v w ls) (ho : H o = none) : PicAt (also M o) H v w ls := by
  obtain ⟨t, p, us, e, nt, ht, np, hp, hu⟩ := h
  refine ⟨t, p, us, e, fun z => z.elim nt fun z => (by rw [show t = o from z, ho] at ht; cases ht), ht, fun z => z.elim np fun z => (by rw [show p = o from z, ho] at hp; cases hp), hp, hu.len, fun i u l a b => ?_⟩
  obtain ⟨a', e', n', h'⟩ := hu.at' i u l a b
  exact ⟨a', e', fun z => z.elim n' fun z => (by rw [show a' = o from z, ho] at h'; cases h'), h'⟩
def wdsK (ks : List Nd) : List Int := ks.map fun k => k.sz.1
def lensK (ks : List Nd) : List Int := ks.map fun k => (k.pic.length : Int)
theorem rep_strs (m : Str) : ∀ z : Nat, (List.replicate z [V.str m]).flatten = (List.replicate z m).map V.str
  | 0 => rfl
  | z + 1 => by rw [List.replicate_succ, List.flatten_cons, rep_strs m z]; rfl
theorem lineR_snoc (m : Str) (ks : List Nd) (k : Nd) (t : Nat) : lineR m (ks ++ [k]) t = lineR m ks t ++ (if t < k.pic.length then k.pic[t]?.getD [] else List.replicate k.sz.1.toNat m) := by
  unfold lineR
  rw [List.map_append, List.flatten_append]
  simp
theorem linesC_snoc (m : Str) (W : Int) (ks : List Nd) (k : Nd) : linesC m W (ks ++ [k]) = linesC m W ks ++ k.pic.map fun ln => ln ++ List.replicate (W - k.sz.1).toNat m := by
  unfold linesC
  rw [List.map_append, List.flatten_append]
  simp
theorem linesC_cut (m : Str) (W : Int) (i : Nat) (ks : List Nd) : (linesC m W ks).length = (linesC m W (ks.take i)).length + (linesC m W (ks.drop i)).length := by
  conv => lhs; rw [← List.take_append_drop i ks]
  unfold linesC
  rw [List.map_append, List.flatten_append, List.length_append]
theorem take_snoc {α : Type} {l : List α} {i : Nat} {a : α} (h : l[i]? = some a) : l.take (i + 1) = l.take i ++ [a] := by
  rw [List.take_add_one, h]
  rfl
theorem pic_row {n : Nd} (hk : n.kids ≠ []) (hr : n.label = sRow) : n.pic = (List.range (mx (lensK n.kids)).toNat).map (lineR n.mark n.kids) := by
  have ne : ¬ (n.kids.map fun k => (k.sz.1, k.pic)) = [] := fun z => hk (List.map_eq_nil_iff.mp z)
  rw [pic_eq]
  unfold picf
  rw [if_neg ne, if_pos hr, List.map_map]
  congr 1
  funext t
  rw [List.map_map]
  rfl
theorem pic_col {n : Nd} (hk : n.kids ≠ []) (hr : ¬ n.label = sRow) : n.pic = linesC n.mark (mx (wdsK n.kids)) n.kids := by
  have ne : ¬ (n.kids.map fun k => (k.sz.1, k.pic)) = [] := fun z => hk (List.map_eq_nil_iff.mp z)
  rw [pic_eq]
  unfold picf
  rw [if_neg ne, if_neg hr, List.map_map, List.map_map]
  rfl
theorem lens_high (ks : List Nd) : lensK ks = ks.map fun k => k.sz.2 := List.map_congr_left fun k _ => (picOk k).high
def sp_pict (n0 : Nat) : Sp := fun vs H Q _ => ∃ (v : V) (n : Nd) (M : Ms), vs = [v] ∧ Rp M H v n.enc ∧ Mk M H ∧ n.dep ≤ n0 ∧ n.subs.length ≤ 400 ∧ (∀ x ∈ n.subs, x.label.length ≤ 30) ∧ ∀ v' H', Same H H' → PicAt M H' v' n.sz.1 n.pic → Q v' H'
-- the def
theorem ok_pict (T : Txt K mg) : ∀ n0, FnOk P w K mg base CX0 (n0 + 1) T.f__law_picture T.d__law_picture ["_law_node"] (sp_pict n0) := by
  intro n0
  induction n0 with
  | zero =>
    refine T.F__law_picture.ok sc__law_picture (fun vs H Q E h => ?_) (fun cdv A outer s H vs Q E hr h => ?_)
    · obtain ⟨_, _, _, rfl, _⟩ := h
      rfl
    · obtain ⟨v, n, M, rfl, _, _, hd, _⟩ := h
      exact absurd n.dep_pos (by omega)
  | succ n0 ih =>
    have G__law_picture := ih
    refine T.F__law_picture.ok sc__law_picture (fun vs H Q E h => ?_) (fun cdv A outer s H vs Q E hr h => ?_)
    · obtain ⟨_, _, _, rfl, _⟩ := h
      rfl
    · obtain ⟨v, n, M, rfl, hR, hM, hd, hl, hlb, q⟩ := h
      rw [Nd.enc_eq] at hR
      obtain ⟨t, ts, rfl, nt, ht, rt⟩ := Rp.tupN hR
      obtain ⟨x1, x2, x3, rfl, q1, q2, q3⟩ := rt.inv3
      cases q1; cases q2
      obtain ⟨c, cs, rfl, nc, hc, rc⟩ := Rp.tupN q3
      have lc := rc.length
      rw [List.length_map] at lc
      have hl0 := hlb n (self_mem n)
      have szn := sz_nn n
      have szl := sz_le n hlb
      refine ⟨_, (pss_cons (ps_if (pt_cmpR op_eq (pe_callB (call_lenK (K := K) rfl) (by rfl) T.m_len PySem.boot_len (pa_cons (pe_ix (ix_tupK (K := K) rfl) (pv 0) pe_int (fun _ _ => rfl)) pa_nil)) pe_int (nomark _)) (pss_cons (ps_if (PW.pt (pw_or (pt_cmpR op_eq (pe_ix (ix_tupK (K := K) rfl) (pv 0) pe_int (fun _ _ => rfl)) pe_str (nomark _)) (pw_or1 (pt_cmpR op_eq (pe_ix (ix_tupK (K := K) rfl) (pv 0) pe_int (fun _ _ => rfl)) pe_str (nomark _))))) (pss_one (ps_ret (pe_tup (pa_cons pe_int (pa_cons (pe_lst pa_nil) pa_nil))))) pss_nil)
      (pss_one (ps_ret (pe_tup (pa_cons (pe_callB call_len_str (by rfl) T.m_len PySem.boot_len (pa_cons (pe_ix (ix_tupK (K := K) rfl) (pv 0) pe_int (fun _ _ => rfl)) pa_nil)) (pa_cons (pe_lst (pa_cons (pe_op op_rep (pe_lst (pa_cons (pe_ix (ix_tupK (K := K) rfl) (pv 0) pe_int (fun _ _ => rfl)) pa_nil)) (pe_callB call_len_str (by rfl) T.m_len PySem.boot_len (pa_cons (pe_ix (ix_tupK (K := K) rfl) (pv 0) pe_int (fun _ _ => rfl)) pa_nil))) pa_nil)) pa_nil)))))) pss_nil)
      (pss_cons (ps_setLc (i := 1) (own := [("_law_child", 8)]) (g := gName 8) (tt := tYes) (by rfl) sc__law_picture.nd rfl rfl (sw_true rfl rfl rfl (by decide +kernel)) (pi_tupK (K := K) rfl (pe_ix (ix_tupK (K := K) rfl) (pv 0) pe_int (fun _ _ => rfl))) (blkOk_by (own := [("_law_child", 8)]) (N := ["_law_node", "_law_inner", "_law_lines", "_law_most", "_law_wide", "_law_told", "_law_y", "_law_line", "_law_child"]) (sc := defScope s__law_picture) (by decide +kernel)) (fun _ _ _ _ _ => (pg_name (i := 8) sc__law_picture.nd rfl (Or.inl rfl))) (fun _ _ _ _ _ => pts_nil) (fun _ _ _ _ _ => (pe_call G__law_picture (hr.mono (by omega)) (by rfl) T.g__law_picture T.F__law_picture.kp T.b__law_picture .nil pass0 (pa_cons (pv 8) pa_nil))))
      (pss_cons (ps_set (i := 2) sc__law_picture.nd rfl (Or.inl rfl) (pe_lst pa_nil))
      (pss_cons (ps_set (i := 3) sc__law_picture.nd rfl (Or.inr rfl) pe_int)
      (pss_cons (ps_if (pt_cmpR op_eq (pe_ix (ix_tupK (K := K) rfl) (pv 0) pe_int (fun _ _ => rfl)) pe_str (nomark _)) (pss_cons (ps_for PassesOwn.never rfl (pi_listK (K := K) rfl (pv 1)) (pg_tupK (K := K) rfl rfl (pgs_cons (pg_name (i := 4) sc__law_picture.nd rfl (Or.inr rfl)) (pgs_cons (pg_name (i := 5) sc__law_picture.nd rfl (Or.inl rfl)) pgs_nil))) (pss_one (ps_if (pt_cmpR op_gt (pe_callB (call_lenK (K := K) rfl) (by rfl) T.m_len PySem.boot_len (pa_cons (pv 5) pa_nil)) (pv 3) (nomark _)) (pss_one (ps_set (i := 3) sc__law_picture.nd rfl (Or.inr rfl) (pe_callB (call_lenK (K := K) rfl) (by rfl) T.m_len PySem.boot_len (pa_cons (pv 5) pa_nil)))) pss_nil)))
      (pss_cons (ps_for PassesOwn.never rfl (pi_range1 (by rfl) T.m_range (pa_cons (pv 3) pa_nil)) (pg_name (i := 6) sc__law_picture.nd rfl (Or.inl rfl)) (pss_cons (ps_set (i := 7) sc__law_picture.nd rfl (Or.inl rfl) (pe_lst pa_nil))
      (pss_cons (ps_for PassesOwn.never rfl (pi_listK (K := K) rfl (pv 1)) (pg_tupK (K := K) rfl rfl (pgs_cons (pg_name (i := 4) sc__law_picture.nd rfl (Or.inr rfl)) (pgs_cons (pg_name (i := 5) sc__law_picture.nd rfl (Or.inl rfl)) pgs_nil))) (pss_one (ps_expr (pe_bmK2 (K := K) rfl PySem.F.plainAttrs_list PySem.F.slot_list_extend PySem.F.type_list_extend mt_extend (pv 7) (pa_cons (pe_ifExp (pt_cmpR op_lt (pv 6) (pe_callB (call_lenK (K := K) rfl) (by rfl) T.m_len PySem.boot_len (pa_cons (pv 5) pa_nil)) (nomark _)) (pe_ix (ix_listK (K := K) rfl) (pv 5) (pv 6) (fun _ _ => rfl)) (pe_op op_rep (pe_lst (pa_cons (pe_ix (ix_tupK (K := K) rfl) (pv 0) pe_int (fun _ _ => rfl)) pa_nil)) (pv 4))) pa_nil)))))
      (pss_one (ps_expr (pe_bmK2 (K := K) rfl PySem.F.plainAttrs_list PySem.F.slot_list_append PySem.F.type_list_append mt_append (pv 2) (pa_cons (pv 7) pa_nil)))))))
      (pss_one (ps_ret (pe_tup (pa_cons (pe_callB (cr_sumK (K := K) rfl rfl) (by rfl) T.m_sum (by decide +kernel) (pa_cons (pe_lc (own := [("_law_wide", 4), ("_law_told", 5)]) (g := gTup K 2 (gCons (gName 4) (gCons (gName 5) gNil))) (tt := tYes) (by rfl) sc__law_picture.nd (pi_listK (K := K) rfl (pv 1)) (blkOk_by (own := [("_law_wide", 4), ("_law_told", 5)]) (N := ["_law_node", "_law_inner", "_law_lines", "_law_most", "_law_wide", "_law_told", "_law_y", "_law_line", "_law_child"]) (sc := defScope s__law_picture) (by decide +kernel)) (fun _ _ _ _ _ => (pg_tupK (K := K) rfl rfl (pgs_cons (pg_name (i := 4) sc__law_picture.nd rfl (Or.inl rfl)) (pgs_cons (pg_name (i := 5) sc__law_picture.nd rfl (Or.inl rfl)) pgs_nil)))) (fun _ _ _ _ _ => pts_nil) (fun _ _ _ _ _ => (pv 4))) pa_nil)) (pa_cons (pv 2) pa_nil))))))) pss_nil)
      (pss_cons (ps_for PassesOwn.never rfl (pi_listK (K := K) rfl (pv 1)) (pg_tupK (K := K) rfl rfl (pgs_cons (pg_name (i := 4) sc__law_picture.nd rfl (Or.inr rfl)) (pgs_cons (pg_name (i := 5) sc__law_picture.nd rfl (Or.inl rfl)) pgs_nil))) (pss_one (ps_if (pt_cmpR op_gt (pv 4) (pv 3) (nomark _)) (pss_one (ps_set (i := 3) sc__law_picture.nd rfl (Or.inr rfl) (pv 4))) pss_nil)))
      (pss_cons (ps_for PassesOwn.never rfl (pi_listK (K := K) rfl (pv 1)) (pg_tupK (K := K) rfl rfl (pgs_cons (pg_name (i := 4) sc__law_picture.nd rfl (Or.inr rfl)) (pgs_cons (pg_name (i := 5) sc__law_picture.nd rfl (Or.inl rfl)) pgs_nil))) (pss_one (ps_expr (pe_bmK2 (K := K) rfl PySem.F.plainAttrs_list PySem.F.slot_list_extend PySem.F.type_list_extend mt_extend (pv 2) (pa_cons (pe_lc (own := [("_law_line", 7)]) (g := gName 7) (tt := tYes) (by rfl) sc__law_picture.nd (pi_listK (K := K) rfl (pv 5)) (blkOk_by (own := [("_law_line", 7)]) (N := ["_law_node", "_law_inner", "_law_lines", "_law_most", "_law_wide", "_law_told", "_law_y", "_law_line", "_law_child"]) (sc := defScope s__law_picture) (by decide +kernel)) (fun _ _ _ _ _ => (pg_name (i := 7) sc__law_picture.nd rfl (Or.inl rfl))) (fun _ _ _ _ _ => pts_nil) (fun _ _ _ _ _ => (pe_op op_cat (pv 7) (pe_op op_rep (pe_lst (pa_cons (pe_ix (ix_tupK (K := K) rfl) (pv 0) pe_int (fun _ _ => rfl)) pa_nil)) (pe_op op_sub (pv 3) (pv 4)))))) pa_nil)))))
      (pss_one (ps_ret (pe_tup (pa_cons (pv 3) (pa_cons (pv 2) pa_nil)))))))))))), ?_⟩
      walk_at "g"
      refine ⟨c, cs, rfl, .inr (.inl hc), ?_⟩
      walk_at "g"
      by_cases hk : n.kids = []
      · have lc0 : cs.length = 0 := by rw [lc, hk]; rfl
        have ep := pic_eq n
        have es := szL hk
        rw [hk] at ep
        unfold picf at ep
        rw [List.map_nil, if_pos rfl] at ep
        rw [decide_eq_true (show V.int cs.length = V.int 0 by rw [lc0]; rfl)]
        walk_at "g"
        have zero : (n.label = sRow ∨ n.label = sCol) → ∀ p1 p2, H p1 = none → upd H p1 (.lst []) p2 = none → Q (.ref p2) (upd (upd H p1 (.lst [])) p2 (.tup [.int 0, .ref p1])) := fun hz p1 p2 h1 h2 => by
          rw [if_pos hz] at es ep
          have n12 : p1 ≠ p2 := fun z => by rw [← z, upd_same] at h2; cases h2
          refine q _ _ ((same_new h1).trans (same_new h2)) ⟨p2, p1, [], rfl, hM.new.out h2, by rw [upd_same, es], hM.out h1, by rw [upd_ne n12, upd_same], ?_⟩
          rw [ep]
          exact .nil
        by_cases h1 : n.label = sRow
        · rw [decide_eq_true (show V.str n.label = V.str (Str.ofString "row") by rw [h1]; rfl)]
          walk_at "g"
          refine ⟨szK rfl, fun p1 hp1 => ?_⟩
          walk_at "g"
          exact ⟨szK rfl, fun p2 hp2 => zero (.inl h1) p1 p2 hp1 hp2⟩
        · rw [decide_eq_false (show ¬ V.str n.label = V.str (Str.ofString "row") from fun z => h1 (by injection z))]
          walk_at "g"
          by_cases h2 : n.label = sCol
          · rw [decide_eq_true (show V.str n.label = V.str (Str.ofString "col") by rw [h2]; rfl)]
            walk_at "g"
            refine ⟨szK rfl, fun p1 hp1 => ?_⟩
            walk_at "g"
            exact ⟨szK rfl, fun p2 hp2 => zero (.inr h2) p1 p2 hp1 hp2⟩
          · rw [decide_eq_false (show ¬ V.str n.label = V.str (Str.ofString "col") from fun z => h2 (by injection z))]
            walk_at "g"
            rw [if_neg (fun z => z.elim h1 h2)] at es ep
            refine ⟨Nat.le_of_lt (small1000 (by omega)), ?_⟩
            walk_at "g"
            refine ⟨szK rfl, fun p1 hp1 => ?_⟩
            have e1 : upd H p1 (.lst [.str n.mark]) p1 = some (.lst [.str n.mark]) := upd_same
            have s1 : Same H (upd H p1 (.lst [.str n.mark])) := same_new hp1
            have ht1 := same_rd s1 ht
            have hM1 : Mk M (upd H p1 (.lst [.str n.mark])) := hM.new
            generalize upd H p1 (.lst [.str n.mark]) = H1 at e1 s1 ht1 hM1
            walk_at "g"
            refine ⟨Nat.le_of_lt (small1000 (by omega)), ?_⟩
            refine ⟨p1, _, _, rfl, rfl, e1, by omega, by omega, by rw [List.length_singleton]; exact Nat.le_of_lt (small1000 (by omega)), fun p2 hp2 => ?_⟩
            rw [show (List.replicate (n.label.length : Int).toNat [V.str n.mark]).flatten = (List.replicate n.label.length n.mark).map V.str by
              rw [Int.toNat_natCast]
              generalize n.label.length = z
              induction z with
              | zero => rfl
              | succ z iz => rw [List.replicate_succ, List.flatten_cons, iz]; rfl]
            have e2 : upd H1 p2 (.lst ((List.replicate n.label.length n.mark).map V.str)) p2 = some (.lst ((List.replicate n.label.length n.mark).map V.str)) := upd_same
            have s2 : Same H1 (upd H1 p2 (.lst ((List.replicate n.label.length n.mark).map V.str))) := same_new hp2
            have np2 := hM1.out hp2
            have hM2 : Mk M (upd H1 p2 (.lst ((List.replicate n.label.length n.mark).map V.str))) := hM1.new
            generalize upd H1 p2 (.lst ((List.replicate n.label.length n.mark).map V.str)) = H2 at e2 s2 hM2
            walk_at "g"
            refine ⟨szK rfl, fun p3 hp3 => ?_⟩
            have s3 : Same H2 (upd H2 p3 (.lst [.ref p2])) := same_new hp3
            have e3 : upd H2 p3 (.lst [.ref p2]) p3 = some (.lst [.ref p2]) := upd_same
            have np3 := hM2.out hp3
            have hM3 : Mk M (upd H2 p3 (.lst [.ref p2])) := hM2.new
            generalize upd H2 p3 (.lst [.ref p2]) = H3 at e3 s3 hM3
            walk_at "g"
            refine ⟨szK rfl, fun p4 hp4 => ?_⟩
            have s4 : Same H3 (upd H3 p4 (.tup [.int n.label.length, .ref p3])) := same_new hp4
            refine q _ _ (s1.trans (s2.trans (s3.trans s4))) ⟨p4, p3, [.ref p2], rfl, hM3.out hp4, by rw [upd_same, es], np3, s4 _ _ e3, ?_⟩
            rw [ep]
            exact .one ⟨p2, rfl, np2, s4 _ _ (s3 _ _ e2)⟩
      · have lc0 : cs.length ≠ 0 := fun z => hk (List.length_eq_zero_iff.mp (by omega))
        rw [decide_eq_false (show ¬ V.int cs.length = V.int 0 from fun z => lc0 (by injection z with z; omega))]
        walk_at "g"
        refine ⟨⟨_, .inl hc⟩, fun D hD => ?_⟩
        have nD : ¬ M D := hM.out hD
        have hMD : Mk (also M D) (upd H D (.lst [])) := hM.new.also upd_there
        refine tup_loop (K := K) (a := c) (xs := cs) (fun j H' => Same H H' ∧ Mk (also M D) H' ∧ ∃ vs, H' D = some (.lst vs) ∧ vs.length = j ∧ ∀ (i : Nat) (v : V) (k : Nd), vs[i]? = some v → n.kids[i]? = some k → PicAt (also M D) H' v k.sz.1 k.pic) ⟨same_new hD, hMD, [], upd_same, rfl, fun i v k a _ => by cases a⟩ (fun j H' _ z => .inl (same_rd z.1 hc)) (fun j x4 H4 hx4 z => ?_) (fun H4 z => ?_)
        · obtain ⟨s4, hM4, vs, eD, lv, hv⟩ := z
          obtain ⟨d4, hd4, rx4⟩ := rc.get hx4
          rw [List.getElem?_map] at hd4
          obtain ⟨k4, hk4, rfl⟩ := Option.map_eq_some_iff.mp hd4
          have km := List.mem_of_getElem? hk4
          have kd := Nd.dep_kid km
          have kl := flat_len (f := Nd.subs) km
          have se := congrArg List.length n.subs_eq
          rw [List.length_cons] at se
          walk_at "g"
          refine ⟨x4, k4, also M D, rfl, (rx4.fresh hD).sx (Sx.same s4), hM4, by omega, by omega, fun x hx => hlb x (sub_mem km hx), fun v5 H5 s5 h5 => ?_⟩
          walk_at "g"
          have hj := (List.getElem?_eq_some_iff.mp hk4).1
          have lk := kids_len n
          refine ⟨vs, s5 _ _ eD, small1000 (by omega), same_put (s4.trans s5) hD, (hM4.gr (Gr.same s5)).gr Gr.upd, vs ++ [v5], upd_same, by rw [List.length_append, lv]; rfl, fun i v k a b => ?_⟩
          have sM : Sx (also M D) H5 (upd H5 D (.lst (vs ++ [v5]))) := Sx.put (.inr rfl)
          by_cases ci : i < vs.length
          · rw [List.getElem?_append_left ci] at a
            exact ((hv i v k a b).sx (Sx.same s5)).sx sM
          · have ei : i = j := by
              have := (List.getElem?_eq_some_iff.mp a).1
              rw [List.length_append, List.length_singleton] at this
              omega
            subst ei
            rw [List.getElem?_append_right (by omega), lv, Nat.sub_self] at a
            cases a
            rw [hk4] at b
            cases b
            exact h5.sx sM
        · obtain ⟨s4, hM4, vs, eD, lv, hv⟩ := z
          have lk := kids_len n
          have ht4 := same_rd s4 ht
          have hMM : Mk M H4 := hM.gr (Gr.same s4)
          have hv : ∀ (i : Nat) (v : V) (k : Nd), vs[i]? = some v → n.kids[i]? = some k → PicAt M H4 v k.sz.1 k.pic := fun i v k a b => (hv i v k a b).less also_le
          have lvk : vs.length = n.kids.length := by omega
          clear hM4
          walk_at "g"
          refine ⟨szK rfl, fun o ho => ?_⟩
          have no := hMM.out ho
          have oD : D ≠ o := ne_of_none eD ho
          have s5 : Same H4 (upd H4 o (.lst [])) := same_new ho
          have e5 : upd H4 o (.lst []) o = some (.lst []) := upd_same
          have hM5 : Mk (also M o) (upd H4 o (.lst [])) := hMM.new.also upd_there
          have hv5 : ∀ (i : Nat) (v : V) (k : Nd), vs[i]? = some v → n.kids[i]? = some k → PicAt (also M o) (upd H4 o (.lst [])) v k.sz.1 k.pic := fun i v k a b => ((hv i v k a b).fresh ho).sx (Sx.same s5)
          have eD5 := s5 _ _ eD
          have ht5 := same_rd s5 ht4
          have s05 := s4.trans s5
          generalize upd H4 o (.lst []) = H5 at s5 e5 hM5 hv5 eD5 ht5 s05
          walk_at "g"
          by_cases hr' : n.label = sRow
          · have es := szR hk hr'
            rw [decide_eq_true (show V.str n.label = V.str (Str.ofString "row") by rw [hr']; rfl)]
            walk_at "g"
            refine ⟨⟨_, .inl (.inl eD5)⟩, ?_⟩
            refine for_list (K := K) (a := D) (xs := vs) (fun i σ H' => (∃ y4 y5, σ = [some (.ref t), some (.ref D), some (.ref o), some (.int (mx ((lensK n.kids).take i))), y4, y5, none, none, none]) ∧ H' = H5) ⟨⟨_, _, rfl⟩, rfl⟩ (fun i σ H' _ p => by rw [p.2]; exact .inl (.inl eD5)) (fun i x σ H' hx p => ?_) (fun σ H' p => ?_)
            · obtain ⟨⟨y4, y5, rfl⟩, rfl⟩ := p
              have hi := (List.getElem?_eq_some_iff.mp hx).1
              obtain ⟨k, hkk⟩ : ∃ k, n.kids[i]? = some k := ⟨_, List.getElem?_eq_getElem (by omega)⟩
              obtain ⟨t2, p2, us2, rfl, nt2, ht2, np2, hp2, hu2⟩ := hv5 i x k hx hkk
              have el : (lensK n.kids)[i]? = some (k.pic.length : Int) := by unfold lensK; rw [List.getElem?_map, hkk]; rfl
              refine ⟨t2, _, rfl, .inl (.inl ht2), rfl, _, _, rfl, _, _, rfl, rfl, ?_⟩
              walk_at "g"
              have lu2 := hu2.len
              by_cases hg : mx ((lensK n.kids).take i) < (us2.length : Int)
              · rw [decide_eq_true hg]
                walk_at "g"
                refine ⟨?_, rfl⟩
                rw [mx_take el, ← lu2, if_pos hg]
                exact ⟨_, _, rfl⟩
              · rw [decide_eq_false hg]
                walk_at "g"
                refine ⟨?_, rfl⟩
                rw [mx_take el, ← lu2, if_neg hg]
                exact ⟨_, _, rfl⟩
            · obtain ⟨⟨y4, y5, rfl⟩, rfl⟩ := p
              rw [show (lensK n.kids).take vs.length = lensK n.kids from List.take_of_length_le (by unfold lensK; rw [List.length_map]; omega)]
              have hmx : mx (lensK n.kids) = n.sz.2 := by rw [lens_high, es]
              have epic := pic_row hk hr'
              walk_at "g"
              refine ⟨by omega, by omega, ?_⟩
              have hH4 : n.sz.2 ≤ 400 := by omega
              refine for_range (lo := 0) (n := (mx (lensK n.kids)).toNat) (fun i σ H' => (∃ y4 y5 y6 y7, σ = [some (.ref t), some (.ref D), some (.ref o), some (.int (mx (lensK n.kids))), y4, y5, y6, y7, none]) ∧ Same H4 H' ∧ Mk (also M o) H' ∧ ∃ ls, H' o = some (.lst ls) ∧ LnsAt (also M o) H' ls ((List.range i).map (lineR n.mark n.kids))) ⟨⟨_, _, _, _, rfl⟩, s5, hM5, [], e5, .nil⟩ (fun ty σ H6 hty p => ?_) (fun σ H6 p => ?_)
              · obtain ⟨⟨y4, y5, y6, y7, rfl⟩, s6, hM6, ls, eo6, hls⟩ := p
                have lls := hls.len
                rw [List.length_map, List.length_range] at lls
                walk_at "g"
                refine ⟨szK rfl, fun qq hq => ?_⟩
                have oq : o ≠ qq := ne_of_none eo6 hq
                have s7 : Same H6 (upd H6 qq (.lst [])) := same_new hq
                have eq7 : upd H6 qq (.lst []) qq = some (.lst []) := upd_same
                have hM7 : Mk (also M o) (upd H6 qq (.lst [])) := hM6.new
                have nq : ¬ also M o qq := hM6.out hq
                generalize upd H6 qq (.lst []) = H7 at s7 eq7 hM7
                have eD7 := s7 _ _ (s6 _ _ eD)
                walk_at "g"
                refine ⟨⟨_, .inl (.inl eD7)⟩, ?_⟩
                refine for_list (K := K) (a := D) (xs := vs) (fun i σ H' => (∃ y4 y5, σ = [some (.ref t), some (.ref D), some (.ref o), some (.int (mx (lensK n.kids))), y4, y5, some (.int (ty : Nat)), some (.ref qq), none]) ∧ Same H6 H' ∧ Mk (also M o) H' ∧ H' qq = some (.lst ((lineR n.mark (n.kids.take i) ty).map V.str))) ?_ (fun i σ H' _ p => .inl (.inl ((s6.trans p.2.1) _ _ eD))) (fun i x σ H8 hx p => ?_) (fun σ H8 p => ?_)
                · refine ⟨?_, s7, hM7, ?_⟩
                  · rw [Int.zero_add]
                    exact ⟨_, _, rfl⟩
                  · rw [List.take_zero, eq7]
                    rfl
                · obtain ⟨⟨y4, y5, rfl⟩, s8, hM8, eq8⟩ := p
                  have hi := (List.getElem?_eq_some_iff.mp hx).1
                  obtain ⟨k, hkk⟩ : ∃ k, n.kids[i]? = some k := ⟨_, List.getElem?_eq_getElem (by omega)⟩
                  have km := List.mem_of_getElem? hkk
                  have kwl := (sz_le k fun x hx => hlb x (sub_mem km hx)).1
                  have kl := flat_len (f := Nd.subs) km
                  have se := congrArg List.length n.subs_eq
                  rw [List.length_cons] at se
                  have kn := sz_nn k
                  obtain ⟨t2, p2, us2, rfl, nt2, ht2, np2, hp2, hu2⟩ := (hv i x k hx hkk).sx (Sx.same (s6.trans s8))
                  have lu2 := hu2.len
                  have tk := take_snoc hkk
                  have ll : ((lineR n.mark (n.kids.take i) ty).length : Int) ≤ 12000 := by
                    have a1 := lineR_len n.mark ty n.kids fun q _ => picOk q
                    have a2 : n.sz.1 = (n.kids.map fun k => k.sz.1).sum := by rw [es]
                    have a3 : (lineR n.mark n.kids ty).length = (lineR n.mark (n.kids.take i) ty).length + (lineR n.mark (n.kids.drop i) ty).length := by
                      conv => lhs; rw [← List.take_append_drop i n.kids]
                      unfold lineR
                      rw [List.map_append, List.flatten_append, List.length_append]
                    omega
                  refine ⟨t2, _, rfl, .inl (.inl ht2), rfl, _, _, rfl, _, _, rfl, rfl, ?_⟩
                  walk_at "g"
                  refine ⟨.inl ⟨rfl, _, SqL.of eq8⟩, ?_⟩
                  walk_at "g"
                  by_cases ct : ty < k.pic.length
                  · rw [decide_eq_true (show (ty : Int) < (us2.length : Int) by omega)]
                    walk_at "g"
                    obtain ⟨u3, hu3⟩ : ∃ u, us2[ty]? = some u := ⟨_, List.getElem?_eq_getElem (by omega)⟩
                    have hl3 : k.pic[ty]? = some k.pic[ty] := List.getElem?_eq_getElem ct
                    obtain ⟨a3, rfl, na3, ha3⟩ := hu2.at' ty u3 _ hu3 hl3
                    have lw3 := (picOk k).wide _ (List.getElem_mem ct)
                    refine ⟨p2, us2, _, _, rfl, rfl, .inl (.inl hp2), atI_nat hu3, ?_⟩
                    walk_at "g"
                    refine ⟨qq, a3, _, _, rfl, rfl, eq8, ha3, ?_, ?_⟩
                    · rw [List.length_map, List.length_map]
                      exact Nat.le_of_lt (small1000000 (by omega))
                    · refine ⟨⟨_, _, rfl⟩, same_put s8 hq, hM8.gr Gr.upd, ?_⟩
                      rw [upd_same, tk, lineR_snoc, if_pos ct, hl3, Option.getD_some, List.map_append]
                  · rw [decide_eq_false (show ¬ (ty : Int) < (us2.length : Int) by omega)]
                    have ht8 := same_rd (s6.trans s8) ht4
                    walk_at "g"
                    refine ⟨szK rfl, fun p3 hp3 => ?_⟩
                    have e3 : upd H8 p3 (.lst [.str n.mark]) p3 = some (.lst [.str n.mark]) := upd_same
                    have s9 : Same H8 (upd H8 p3 (.lst [.str n.mark])) := same_new hp3
                    have hM9 : Mk (also M o) (upd H8 p3 (.lst [.str n.mark])) := hM8.new
                    generalize upd H8 p3 (.lst [.str n.mark]) = H9 at e3 s9 hM9
                    walk_at "g"
                    refine ⟨p3, _, _, rfl, rfl, e3, by omega, by omega, by rw [List.length_singleton]; exact Nat.le_of_lt (small1000000 (by omega)), fun p4 hp4 => ?_⟩
                    rw [rep_strs]
                    have e4 : upd H9 p4 (.lst ((List.replicate k.sz.1.toNat n.mark).map V.str)) p4 = some (.lst ((List.replicate k.sz.1.toNat n.mark).map V.str)) := upd_same
                    have sA : Same H9 (upd H9 p4 (.lst ((List.replicate k.sz.1.toNat n.mark).map V.str))) := same_new hp4
                    have hMA : Mk (also M o) (upd H9 p4 (.lst ((List.replicate k.sz.1.toNat n.mark).map V.str))) := hM9.new
                    generalize upd H9 p4 (.lst ((List.replicate k.sz.1.toNat n.mark).map V.str)) = HA at e4 sA hMA
                    walk_at "g"
                    have s8A := s8.trans (s9.trans sA)
                    refine ⟨qq, p4, _, _, rfl, rfl, sA _ _ (s9 _ _ eq8), e4, ?_, ?_⟩
                    · rw [List.length_map, List.length_map, List.length_replicate]
                      exact Nat.le_of_lt (small1000000 (by omega))
                    · refine ⟨⟨_, _, rfl⟩, same_put s8A hq, hMA.gr Gr.upd, ?_⟩
                      rw [upd_same, tk, lineR_snoc, if_neg ct, List.map_append]
                · obtain ⟨⟨y4, y5, rfl⟩, s8, hM8, eq8⟩ := p
                  have eo8 := s8 _ _ eo6
                  rw [List.take_of_length_le (show n.kids.length ≤ vs.length by omega)] at eq8
                  walk_at "g"
                  refine ⟨.inl ⟨rfl, _, SqL.of eo8⟩, ?_⟩
                  walk_at "g"
                  refine ⟨o, ls, .ref qq, rfl, rfl, eo8, small1000 (by omega), ?_⟩
                  have sP : Sx (also M o) H8 (upd H8 o (.lst (ls ++ [.ref qq]))) := Sx.put (.inr rfl)
                  refine ⟨⟨_, _, _, _, rfl⟩, same_put (s6.trans s8) ho, hM8.gr Gr.upd, _, upd_same, ?_⟩
                  rw [List.range_succ, List.map_append]
                  exact ((hls.sx (Sx.same s8)).append (.one ⟨qq, rfl, nq, eq8⟩)).sx sP
              · obtain ⟨⟨y4, y5, y6, y7, rfl⟩, s6, hM6, ls, eo6, hls⟩ := p
                have eD6 := s6 _ _ eD
                walk_at "g"
                refine ⟨⟨_, .inl (.inl eD6)⟩, fun E1 hE1 => ?_⟩
                refine list_loop (K := K) (a := D) (xs := vs) (fun j H' => Same H6 H' ∧ H' E1 = some (.lst (((wdsK n.kids).take j).map V.int))) ⟨same_new hE1, upd_same⟩ (fun j H' _ z => .inl (.inl (z.1 _ _ eD6))) (fun j x8 H8 hx8 z => ?_) (fun H8 z => ?_)
                · obtain ⟨s8, eE⟩ := z
                  have hi := (List.getElem?_eq_some_iff.mp hx8).1
                  obtain ⟨k, hkk⟩ : ∃ k, n.kids[j]? = some k := ⟨_, List.getElem?_eq_getElem (by omega)⟩
                  obtain ⟨t2, p2, us2, rfl, nt2, ht2, np2, hp2, hu2⟩ := (hv j x8 k hx8 hkk).sx (Sx.same (s6.trans s8))
                  have el : (wdsK n.kids)[j]? = some k.sz.1 := by unfold wdsK; rw [List.getElem?_map, hkk]; rfl
                  refine ⟨t2, _, rfl, .inl (.inl ht2), rfl, _, _, rfl, _, _, rfl, rfl, rfl, ?_⟩
                  walk_at "g"
                  refine ⟨_, eE, ?_, same_put s8 hE1, ?_⟩
                  · rw [List.length_map, List.length_take]
                    exact small1000 (by omega)
                  · rw [upd_same, take_snoc el, List.map_append]
                    rfl
                · obtain ⟨s8, eE⟩ := z
                  rw [List.take_of_length_le (show (wdsK n.kids).length ≤ vs.length by unfold wdsK; rw [List.length_map]; omega)] at eE
                  walk_at "g"
                  refine ⟨E1, wdsK n.kids, rfl, .inl (.inl eE), ?_⟩
                  walk_at "g"
                  refine ⟨szK rfl, fun p9 hp9 => ?_⟩
                  have s9 : Same H8 (upd H8 p9 (.tup [.int (wdsK n.kids).sum, .ref o])) := same_new hp9
                  have sZ := s4.trans (s6.trans (s8.trans s9))
                  refine q _ _ sZ ⟨p9, o, ls, rfl, (hM6.gr (Gr.same s8)).out hp9 ∘ .inl, by rw [upd_same, es]; rfl, no, s9 _ _ (s8 _ _ eo6), ?_⟩
                  rw [epic]
                  exact ((hls.less also_le).sx (Sx.same s8)).sx (Sx.same s9)
          · have es := szC hk hr'
            rw [decide_eq_false (show ¬ V.str n.label = V.str (Str.ofString "row") from fun z => hr' (by injection z))]
            walk_at "g"
            refine ⟨⟨_, .inl (.inl eD5)⟩, ?_⟩
            refine for_list (K := K) (a := D) (xs := vs) (fun i σ H' => (∃ y4 y5, σ = [some (.ref t), some (.ref D), some (.ref o), some (.int (mx ((wdsK n.kids).take i))), y4, y5, none, none, none]) ∧ H' = H5) ⟨⟨_, _, rfl⟩, rfl⟩ (fun i σ H' _ p => by rw [p.2]; exact .inl (.inl eD5)) (fun i x σ H' hx p => ?_) (fun σ H' p => ?_)
            · obtain ⟨⟨y4, y5, rfl⟩, rfl⟩ := p
              have hi := (List.getElem?_eq_some_iff.mp hx).1
              obtain ⟨k, hkk⟩ : ∃ k, n.kids[i]? = some k := ⟨_, List.getElem?_eq_getElem (by omega)⟩
              obtain ⟨t2, p2, us2, rfl, nt2, ht2, np2, hp2, hu2⟩ := hv5 i x k hx hkk
              have el : (wdsK n.kids)[i]? = some k.sz.1 := by unfold wdsK; rw [List.getElem?_map, hkk]; rfl
              refine ⟨t2, _, rfl, .inl (.inl ht2), rfl, _, _, rfl, _, _, rfl, rfl, ?_⟩
              walk_at "g"
              by_cases hg : mx ((wdsK n.kids).take i) < k.sz.1
              · rw [decide_eq_true hg]
                walk_at "g"
                refine ⟨?_, rfl⟩
                rw [mx_take el, if_pos hg]
                exact ⟨_, _, rfl⟩
              · rw [decide_eq_false hg]
                walk_at "g"
                refine ⟨?_, rfl⟩
                rw [mx_take el, if_neg hg]
                exact ⟨_, _, rfl⟩
            · obtain ⟨⟨y4, y5, rfl⟩, rfl⟩ := p
              rw [show (wdsK n.kids).take vs.length = wdsK n.kids from List.take_of_length_le (by unfold wdsK; rw [List.length_map]; omega)]
              have hmx : mx (wdsK n.kids) = n.sz.1 := by rw [es]; rfl
              have epic := pic_col hk hr'
              walk_at "g"
              refine ⟨⟨_, .inl (.inl eD5)⟩, ?_⟩
              refine for_list (K := K) (a := D) (xs := vs) (fun i σ H' => (∃ y4 y5, σ = [some (.ref t), some (.ref D), some (.ref o), some (.int (mx (wdsK n.kids))), y4, y5, none, none, none]) ∧ Same H4 H' ∧ Mk (also M o) H' ∧ ∃ ls, H' o = some (.lst ls) ∧ LnsAt (also M o) H' ls (linesC n.mark (mx (wdsK n.kids)) (n.kids.take i))) ⟨⟨_, _, rfl⟩, s5, hM5, [], e5, .nil⟩ (fun i σ H' _ p => .inl (.inl (p.2.1 _ _ eD))) (fun i x σ H6 hx p => ?_) (fun σ H6 p => ?_)
              · obtain ⟨⟨y4, y5, rfl⟩, s6, hM6, ls, eo6, hls⟩ := p
                have hi := (List.getElem?_eq_some_iff.mp hx).1
                obtain ⟨k, hkk⟩ : ∃ k, n.kids[i]? = some k := ⟨_, List.getElem?_eq_getElem (by omega)⟩
                have km := List.mem_of_getElem? hkk
                have kwl := (sz_le k fun x hx => hlb x (sub_mem km hx)).1
                have khl := (sz_le k fun x hx => hlb x (sub_mem km hx)).2
                have kl := flat_len (f := Nd.subs) km
                have se := congrArg List.length n.subs_eq
                rw [List.length_cons] at se
                have kn := sz_nn k
                have kh := (picOk k).high
                have tk := take_snoc hkk
                obtain ⟨t2, p2, us2, rfl, nt2, ht2, np2, hp2, hu2⟩ := (hv i x k hx hkk).sx (Sx.same s6)
                have lu2 := hu2.len
                have lls := hls.len
                have lmw : k.sz.1 ≤ mx (wdsK n.kids) := mx_mem (by unfold wdsK; exact List.mem_map_of_mem (f := fun k : Nd => k.sz.1) km)
                have ll : ((linesC n.mark (mx (wdsK n.kids)) (n.kids.take i)).length : Int) ≤ 400 := by
                  have a1 := linesC_len n.mark (mx (wdsK n.kids)) n.kids fun q _ => picOk q
                  have a2 : n.sz.2 = (n.kids.map fun k => k.sz.2).sum := by rw [es]
                  have a3 := linesC_cut n.mark (mx (wdsK n.kids)) i n.kids
                  omega
                refine ⟨t2, _, rfl, .inl (.inl ht2), rfl, _, _, rfl, _, _, rfl, rfl, ?_⟩
                walk_at "g"
                refine ⟨.inl ⟨rfl, _, SqL.of eo6⟩, ?_⟩
                walk_at "g"
                refine ⟨⟨_, .inl (.inl hp2)⟩, fun E1 hE1 => ?_⟩
                have oE : o ≠ E1 := ne_of_none eo6 hE1
                have nE := hM6.out hE1
                have hME : Mk (also (also M o) E1) (upd H6 E1 (.lst [])) := hM6.new.also upd_there
                refine list_loop (K := K) (a := p2) (xs := us2) (fun j H' => Same H6 H' ∧ Mk (also (also M o) E1) H' ∧ ∃ es, H' E1 = some (.lst es) ∧ LnsAt (also (also M o) E1) H' es ((k.pic.take j).map fun ln => ln ++ List.replicate (mx (wdsK n.kids) - k.sz.1).toNat n.mark)) ⟨same_new hE1, hME, [], upd_same, .nil⟩ (fun j H' _ z => .inl (.inl (z.1 _ _ hp2))) (fun j x8 H8 hx8 z => ?_) (fun H8 z => ?_)
                · obtain ⟨s8, hM8, es8, eE, hes⟩ := z
                  have les := hes.len
                  rw [List.length_map, List.length_take] at les
                  have hj := (List.getElem?_eq_some_iff.mp hx8).1
                  have cj : j < k.pic.length := by omega
                  have hl3 : k.pic[j]? = some k.pic[j] := List.getElem?_eq_getElem cj
                  obtain ⟨a3, rfl, na3, ha3⟩ := hu2.at' j x8 _ hx8 hl3
                  have lw3 := (picOk k).wide _ (List.getElem_mem cj)
                  have ha8 := s8 _ _ ha3
                  have ht8 := same_rd (s6.trans s8) ht4
                  walk_at "g"
                  refine ⟨szK rfl, fun p3 hp3 => ?_⟩
                  have e3 : upd H8 p3 (.lst [.str n.mark]) p3 = some (.lst [.str n.mark]) := upd_same
                  have s9 : Same H8 (upd H8 p3 (.lst [.str n.mark])) := same_new hp3
                  have hM9 : Mk (also (also M o) E1) (upd H8 p3 (.lst [.str n.mark])) := hM8.new
                  generalize upd H8 p3 (.lst [.str n.mark]) = H9 at e3 s9 hM9
                  walk_at "g"
                  refine ⟨p3, _, _, rfl, rfl, e3, by omega, by omega, by rw [List.length_singleton]; exact Nat.le_of_lt (small1000000 (by omega)), fun p4 hp4 => ?_⟩
                  rw [rep_strs]
                  have e4 : upd H9 p4 (.lst ((List.replicate (mx (wdsK n.kids) - k.sz.1).toNat n.mark).map V.str)) p4 = some (.lst ((List.replicate (mx (wdsK n.kids) - k.sz.1).toNat n.mark).map V.str)) := upd_same
                  have sA : Same H9 (upd H9 p4 (.lst ((List.replicate (mx (wdsK n.kids) - k.sz.1).toNat n.mark).map V.str))) := same_new hp4
                  have hMA : Mk (also (also M o) E1) (upd H9 p4 (.lst ((List.replicate (mx (wdsK n.kids) - k.sz.1).toNat n.mark).map V.str))) := hM9.new
                  generalize upd H9 p4 (.lst ((List.replicate (mx (wdsK n.kids) - k.sz.1).toNat n.mark).map V.str)) = HA at e4 sA hMA
                  walk_at "g"
                  unfold rCat
                  refine ⟨a3, p4, _, _, rfl, rfl, sA _ _ (s9 _ _ ha8), e4, ?_, fun p5 hp5 => ?_⟩
                  · rw [List.length_map, List.length_map, List.length_replicate]
                    exact Nat.le_of_lt (small1000000 (by omega))
                  rw [← List.map_append]
                  have e5' : upd HA p5 (.lst ((k.pic[j] ++ List.replicate (mx (wdsK n.kids) - k.sz.1).toNat n.mark).map V.str)) p5 = some (.lst ((k.pic[j] ++ List.replicate (mx (wdsK n.kids) - k.sz.1).toNat n.mark).map V.str)) := upd_same
                  have sB : Same HA (upd HA p5 (.lst ((k.pic[j] ++ List.replicate (mx (wdsK n.kids) - k.sz.1).toNat n.mark).map V.str))) := same_new hp5
                  have np5 := hMA.out hp5
                  have hMB : Mk (also (also M o) E1) (upd HA p5 (.lst ((k.pic[j] ++ List.replicate (mx (wdsK n.kids) - k.sz.1).toNat n.mark).map V.str))) := hMA.new
                  generalize upd HA p5 (.lst ((k.pic[j] ++ List.replicate (mx (wdsK n.kids) - k.sz.1).toNat n.mark).map V.str)) = HB at e5' sB hMB
                  have s8B := s9.trans (sA.trans sB)
                  walk_at "g"
                  refine ⟨_, s8B _ _ eE, small1000 (by omega), same_put (s8.trans s8B) hE1, hMB.gr Gr.upd, _, upd_same, ?_⟩
                  rw [take_snoc hl3, List.map_append]
                  exact ((hes.sx (Sx.same s8B)).append (.one ⟨p5, rfl, np5, e5'⟩)).sx (Sx.put (.inr rfl))
                · obtain ⟨s8, hM8, es8, eE, hes⟩ := z
                  rw [List.take_of_length_le (show k.pic.length ≤ us2.length by omega)] at hes
                  have les := hes.len
                  rw [List.length_map] at les
                  have eo8 := s8 _ _ eo6
                  walk_at "g"
                  refine ⟨o, E1, ls, es8, rfl, rfl, eo8, eE, ?_, ?_⟩
                  · exact Nat.le_of_lt (small1000000 (by omega))
                  have hM8' : Mk (also M o) H8 := fun c z => hM8 c (.inl z)
                  refine ⟨⟨_, _, rfl⟩, same_put (s6.trans s8) ho, hM8'.gr Gr.upd, _, upd_same, ?_⟩
                  rw [tk, linesC_snoc]
                  exact ((hls.sx (Sx.same s8)).append (hes.less also_le)).sx (Sx.put (.inr rfl))
              · obtain ⟨⟨y4, y5, rfl⟩, s6, hM6, ls, eo6, hls⟩ := p
                rw [List.take_of_length_le (show n.kids.length ≤ vs.length by omega), ← epic] at hls
                walk_at "g"
                refine ⟨szK rfl, fun p9 hp9 => ?_⟩
                have s9 : Same H6 (upd H6 p9 (.tup [.int (mx (wdsK n.kids)), .ref o])) := same_new hp9
                exact q _ _ (s4.trans (s6.trans s9)) ⟨p9, o, ls, rfl, fun z => hM6.out hp9 (.inl z), by rw [upd_same, hmx], no, s9 _ _ eo6, (hls.less also_le).sx (Sx.same s9)⟩
end
end D

namespace D
open PySem PySem.Spec PyProof.Rows L2
local macro_rules | `(tactic| walk_at "st") => `(tactic| first | exact SqT.of (by assumption) | exact Or.inl (by assumption) | exact SqT.of upd_same | fail "st")
local macro_rules | `(tactic| walk_at "ixt") => `(tactic| refine ⟨_, _, _, _, rfl, rfl, (by walk_at "st" : SqT _ _ _ _), by rfl, ?_⟩)
local macro_rules | `(tactic| walk_at "sq") => `(tactic| first | exact SqL.of (by assumption) | assumption | exact Or.inl (by assumption) | exact SqL.of upd_same | fail "sq")
local macro_rules | `(tactic| walk_at "ix") => `(tactic| refine ⟨_, _, _, _, rfl, rfl, (by walk_at "sq" : SqL _ _ _ _), by rfl, ?_⟩)
local macro_rules | `(tactic| walk_at "set") => `(tactic| refine ⟨_, _, _, _, rfl, rfl, by first | assumption | exact upd_same, by rfl, ?_⟩)
local macro_rules | `(tactic| walk_at "len") => `(tactic| refine ⟨_, _, rfl, Or.inl (by walk_at "sq" : SqL _ _ _ _), ?_⟩)
local macro_rules | `(tactic| walk_at "g") => `(tactic| repeat (first | refine ⟨_, rfl, ?_⟩ | refine ⟨_, _, rfl, rfl, ?_⟩ | refine ⟨Or.inr (by decide), ?_⟩ | refine ⟨Or.inl (by decide), ?_⟩ | refine ⟨(by decide : (0 : Int) < _), ?_⟩ | refine ⟨(⟨by decide, by decide⟩ : CDiv _ _), ?_⟩ | refine ⟨(⟨by decide, by decide, by decide⟩ : CPow _ _), ?_⟩ | refine Or.inl ⟨_, rfl, ?_⟩ | refine ⟨rfl, ?_⟩ | walk_at "ix" | walk_at "ixt" | walk_at "len" | fail "g"))
local macro_rules | `(tactic| walk_at "if") => `(tactic| refine ite2 (fun e => ?_) (fun e => ?_))
section
variable {P : Program} {w : World} {K : PySem.W.Frag} {mg : Str → Option Value} {base : Heap}
def mksK (ks : List Nd) : List Str := (ks.map Nd.marks).flatten
theorem marks_eq (n : Nd) : n.marks = n.mark :: mksK n.kids := by
  unfold Nd.marks mksK
  rw [n.subs_eq, List.map_cons, List.map_flatten, List.map_map]
  rfl
theorem mksK_snoc (ks : List Nd) (k : Nd) : mksK (ks ++ [k]) = mksK ks ++ k.marks := by
  unfold mksK
  rw [List.map_append, List.flatten_append]
  simp
theorem ancs_snoc (ks : List Nd) (k : Nd) (u : List Str) : Nd.ancs (ks ++ [k]) u = Nd.ancs ks u ++ k.anc u := by
  rw [ancs_map, ancs_map, List.map_append, List.flatten_append]
  simp
theorem ancs_len (ks : List Nd) (u : List Str) : (Nd.ancs ks u).length = (mksK ks).length := by
  rw [ancs_map]
  unfold mksK
  exact flat_lens ks fun k _ => by rw [anc_len]; unfold Nd.marks; rw [List.length_map]
theorem subs_len_pos' (n : Nd) : 0 < n.subs.length := by rw [Nd.subs_eq]; exact Nat.succ_pos _
theorem mksK_app (a b : List Nd) : mksK (a ++ b) = mksK a ++ mksK b := by
  unfold mksK
  rw [List.map_append, List.flatten_append]
theorem zip_keys {ms : List Str} {ws : List V} (h : ms.length = ws.length) : (ms.zip ws).map (·.1) = ms := zip_fst _ _ h
def sp_lof (n0 : Nat) : Sp := fun vs H Q _ => ∃ (v : V) (a d : Addr) (n : Nd) (u : List Str) (ps : List (Str × V)) (M : Ms), vs = [v, .ref a, .ref d] ∧ Rp M H v n.enc ∧ Mk M H ∧ M d ∧ n.dep ≤ n0 ∧ n.subs.length ≤ 400 ∧ u.length + n.dep ≤ 100 ∧ ¬ M a ∧ H a = some (.lst (u.map V.str)) ∧ H d = some (.dK (kvS ps)) ∧ n.marks.Nodup ∧ (∀ m ∈ n.marks, m ∉ ps.map (·.1)) ∧ (ps.map (·.1)).Nodup ∧ ps.length + n.subs.length ≤ 400 ∧
  ∀ H' us, Sx (one d) H H' → Gr H H' → H' d = some (.dK (kvS (ps ++ n.marks.zip us))) → LnsAt M H' us (n.anc u) → Q .non H'
theorem ok_lof (T : Txt K mg) : ∀ n0, FnOk P w K mg base CX0 (n0 + 1) T.f__law_lines_of T.d__law_lines_of ["_law_node", "_law_above", "_law_lines"] (sp_lof n0) := by
  intro n0
  induction n0 with
  | zero =>
    refine T.F__law_lines_of.ok sc__law_lines_of (fun vs H Q E h => ?_) (fun cdv A outer s H vs Q E hr h => ?_)
    · obtain ⟨_, _, _, _, _, _, _, rfl, _⟩ := h
      rfl
    · obtain ⟨v, a, d, n, u, ps, M, rfl, _, _, _, hd, _⟩ := h
      exact absurd n.dep_pos (by omega)
  | succ n0 ih =>
    have G__law_lines_of := ih
    refine T.F__law_lines_of.ok sc__law_lines_of (fun vs H Q E h => ?_) (fun cdv A outer s H vs Q E hr h => ?_)
    · obtain ⟨_, _, _, _, _, _, _, rfl, _⟩ := h
      rfl
    · obtain ⟨v, a, d, n, u, ps, M, rfl, hR, hM, Md, hd, hl, hul, na, ha, hdd, hnd, hdis, hpn, hpl, q⟩ := h
      rw [Nd.enc_eq] at hR
      obtain ⟨t, ts, rfl, nt, ht, rt⟩ := Rp.tupN hR
      obtain ⟨x1, x2, x3, rfl, q1, q2, q3⟩ := rt.inv3
      cases q1; cases q2
      obtain ⟨c, cs, rfl, nc, hc, rc⟩ := Rp.tupN q3
      have lc := rc.length
      rw [List.length_map] at lc
      have dpos := n.dep_pos
      refine ⟨_, (pss_cons (ps_dput (hu_of hr) (pv 2) (pe_ix (ix_tupK (K := K) rfl) (pv 0) pe_int (fun _ _ => rfl)) (pe_op op_cat (pv 1) (pe_lst (pa_cons (pe_ix (ix_tupK (K := K) rfl) (pv 0) pe_int (fun _ _ => rfl)) pa_nil))) rfl)
      (pss_one (ps_for PassesOwn.never rfl (pi_tupK (K := K) rfl (pe_ix (ix_tupK (K := K) rfl) (pv 0) pe_int (fun _ _ => rfl))) (pg_name (i := 3) sc__law_lines_of.nd rfl (Or.inl rfl)) (pss_one (ps_expr (pe_call G__law_lines_of (hr.mono (by omega)) (by rfl) T.g__law_lines_of T.F__law_lines_of.kp T.b__law_lines_of .nil pass0 (pa_cons (pv 3) (pa_cons (pe_dget (hu_of hr) (pv 2) (pe_ix (ix_tupK (K := K) rfl) (pv 0) pe_int (fun _ _ => rfl)) (fun _ _ => rfl)) (pa_cons (pv 2) pa_nil))))))))), ?_⟩
      walk_at "g"
      refine ⟨szK rfl, fun p1 hp1 => ?_⟩
      have e1 : upd H p1 (.lst [.str n.mark]) p1 = some (.lst [.str n.mark]) := upd_same
      have s1 : Same H (upd H p1 (.lst [.str n.mark])) := same_new hp1
      have hM1 : Mk M (upd H p1 (.lst [.str n.mark])) := hM.new
      generalize upd H p1 (.lst [.str n.mark]) = H1 at e1 s1 hM1
      walk_at "g"
      unfold rCat
      refine ⟨a, p1, _, _, rfl, rfl, s1 _ _ ha, e1, ?_, fun p2 hp2 => ?_⟩
      · rw [List.length_map, List.length_singleton]
        exact Nat.le_of_lt (small1000 (by omega))
      have e2 : upd H1 p2 (.lst (u.map V.str ++ [.str n.mark])) p2 = some (.lst ((u ++ [n.mark]).map V.str)) := by rw [upd_same, List.map_append]; rfl
      have s2 : Same H1 (upd H1 p2 (.lst (u.map V.str ++ [.str n.mark]))) := same_new hp2
      have np2 := hM1.out hp2
      have hM2 : Mk M (upd H1 p2 (.lst (u.map V.str ++ [.str n.mark]))) := hM1.new
      generalize upd H1 p2 (.lst (u.map V.str ++ [.str n.mark])) = H2 at e2 s2 hM2
      have s02 := s1.trans s2
      have hd2 := s02 _ _ hdd
      have ht2 := same_rd s02 ht
      walk_at "g"
      have hsl := subs_len_pos' n
      have hm0 : n.mark ∉ ps.map (·.1) := hdis n.mark (by rw [marks_eq]; exact List.mem_cons_self)
      refine ⟨d, _, rfl, DPut.k (k := .inr n.mark) hd2 (small1000 (by rw [kvS_len]; omega)), ?_⟩
      rw [putK_new hm0]
      have sx3 : Sx (one d) H2 (upd H2 d (.dK (kvS (ps ++ [(n.mark, .ref p2)])))) := Sx.put rfl
      have g3 : Gr H2 (upd H2 d (.dK (kvS (ps ++ [(n.mark, .ref p2)])))) := Gr.upd
      have ed3 : upd H2 d (.dK (kvS (ps ++ [(n.mark, .ref p2)]))) d = some (.dK (kvS (ps ++ [(n.mark, .ref p2)]))) := upd_same
      generalize upd H2 d (.dK (kvS (ps ++ [(n.mark, .ref p2)]))) = H3 at sx3 g3 ed3
      have p2d : ¬ one d p2 := fun z => np2 (by rw [show p2 = d from z]; exact Md)
      have sx03 : Sx (one d) H H3 := (Sx.same s02).trans sx3
      have g03 : Gr H H3 := (Gr.same s02).trans g3
      have hM3 := hM.gr g03
      have hle : ∀ x, one d x → M x := fun x z => by rw [show x = d from z]; exact Md
      have hlm : n.marks.length = n.subs.length := by unfold Nd.marks; rw [List.length_map]
      have hKS : (ps.map (·.1) ++ n.marks).Nodup := List.nodup_append.mpr ⟨hpn, hnd, fun x hx y hy z => hdis y hy (by rw [← z]; exact hx)⟩
      have tnd : ∀ x, M x → x ≠ t := fun x z e => nt (by rw [← e]; exact z)
      have ht3 := sx_rd (sx03.le hle) nt ht
      have hc3 := sx_rd (sx03.le hle) nc hc
      walk_at "g"
      refine ⟨⟨_, .inl hc3⟩, ?_⟩
      refine for_tup (K := K) (a := c) (xs := cs) (fun i σ H' => (∃ y3, σ = [some (.ref t), some (.ref a), some (.ref d), y3]) ∧ Sx (one d) H3 H' ∧ Gr H3 H' ∧ ∃ us, H' d = some (.dK (kvS (ps ++ (n.mark, .ref p2) :: (mksK (n.kids.take i)).zip us))) ∧ LnsAt M H' us (Nd.ancs (n.kids.take i) (u ++ [n.mark]))) ⟨⟨_, rfl⟩, Sx.refl, fun _ z => z, [], by rw [ed3]; rfl, by rw [List.take_zero, Nd.ancs]; exact .nil⟩ (fun i σ H' _ p => .inl (sx_rd (p.2.1.le hle) nc hc3)) (fun i x σ H5 hx p => ?_) (fun σ H5 p => ?_)
      · obtain ⟨⟨y3, rfl⟩, s5, g5, us, ed5, hus⟩ := p
        obtain ⟨dd, hdd2, rx⟩ := rc.get hx
        rw [List.getElem?_map] at hdd2
        obtain ⟨k, hkk, rfl⟩ := Option.map_eq_some_iff.mp hdd2
        have km := List.mem_of_getElem? hkk
        have kd := Nd.dep_kid km
        have kl := flat_len (f := Nd.subs) km
        have se := congrArg List.length n.subs_eq
        rw [List.length_cons] at se
        have ht5 := sx_rd (s5.le hle) nt ht3
        have lus : (mksK (n.kids.take i)).length = us.length := by rw [hus.len, ancs_len]
        have e25 : H5 p2 = some (.lst ((u ++ [n.mark]).map V.str)) := s5 _ _ p2d (sx3 _ _ p2d e2)
        have hsp : mksK n.kids = mksK (n.kids.take i) ++ k.marks ++ mksK (n.kids.drop (i + 1)) := by
          conv => lhs; rw [← List.take_append_drop (i + 1) n.kids, take_snoc hkk, mksK_app, mksK_snoc]
        have hk1 : (ps ++ (n.mark, V.ref p2) :: (mksK (n.kids.take i)).zip us).map (·.1) = ps.map (·.1) ++ n.mark :: mksK (n.kids.take i) := by
          rw [List.map_append, List.map_cons, zip_keys lus]
        have hall : ((ps.map (·.1) ++ n.mark :: mksK (n.kids.take i)) ++ k.marks ++ mksK (n.kids.drop (i + 1))).Nodup := by
          rw [marks_eq, hsp] at hKS
          simpa [List.append_assoc] using hKS
        have h12 := (List.nodup_append.mp hall).1
        have h1 := (List.nodup_append.mp h12).1
        have h2 := (List.nodup_append.mp h12).2.1
        have h3 := (List.nodup_append.mp h12).2.2
        have hval : valV (kvS (ps ++ (n.mark, V.ref p2) :: (mksK (n.kids.take i)).zip us)) (.inr n.mark) = some (.ref p2) := valS_of (i := ps.length) (by rw [hk1]; exact h1) (by rw [List.getElem?_append_right (Nat.le_refl _), Nat.sub_self]; rfl)
        have hg := DGet.k (k := .inr n.mark) ed5
        rw [hval] at hg
        walk_at "g"
        refine ⟨d, _, rfl, hg, ?_⟩
        walk_at "g"
        have hlk : k.marks.length = k.subs.length := by unfold Nd.marks; rw [List.length_map]
        have hplen : (ps ++ (n.mark, V.ref p2) :: (mksK (n.kids.take i)).zip us).length + k.subs.length ≤ 400 := by
          have e1 : (ps ++ (n.mark, V.ref p2) :: (mksK (n.kids.take i)).zip us).length = ps.length + 1 + (mksK (n.kids.take i)).length := by
            rw [List.length_append, List.length_cons, List.length_zip]
            omega
          have e2 := congrArg List.length hsp
          have e3 := congrArg List.length (marks_eq n)
          rw [List.length_append, List.length_append] at e2
          rw [List.length_cons] at e3
          omega
        refine ⟨x, p2, d, k, u ++ [n.mark], _, M, rfl, rx.sx ((sx03.trans s5).le hle), hM3.gr g5, Md, by omega, by omega, by rw [List.length_append, List.length_singleton]; omega, np2, e25, ed5, h2, fun m hm hm2 => h3 m (by rw [hk1] at hm2; exact hm2) m hm rfl, by rw [hk1]; exact h1, hplen, fun H6 us6 s6 g6 ed6 hus6 => ?_⟩
        walk_at "g"
        refine ⟨⟨_, rfl⟩, s5.trans s6, g5.trans g6, us ++ us6, ?_, ?_⟩
        · rw [ed6, take_snoc hkk, mksK_snoc, List.zip_append lus]
          simp
        · rw [take_snoc hkk, ancs_snoc]
          exact (hus.sx (s6.le hle)).append hus6
      · obtain ⟨⟨y3, rfl⟩, s5, g5, us, ed5, hus⟩ := p
        rw [List.take_of_length_le (show n.kids.length ≤ cs.length by omega)] at ed5 hus
        walk_at "g"
        refine q H5 (.ref p2 :: us) (sx03.trans s5) (g03.trans g5) ?_ ?_
        · rw [marks_eq]
          exact ed5
        · rw [anc_eq]
          exact (LnsAt.one ⟨p2, rfl, np2, s5 _ _ p2d (sx3 _ _ p2d e2)⟩).append hus
end
end D

namespace D
open PySem PySem.Spec PyProof.Rows L2
local macro_rules | `(tactic| walk_at "st") => `(tactic| first | exact SqT.of (by assumption) | exact Or.inl (by assumption) | exact SqT.of upd_same | fail "st")
local macro_rules | `(tactic| walk_at "ixt") => `(tactic| refine ⟨_, _, _, _, rfl, rfl, (by walk_at "st" : SqT _ _ _ _), by rfl, ?_⟩)
local macro_rules | `(tactic| walk_at "sq") => `(tactic| first | exact SqL.of (by assumption) | assumption | exact Or.inl (by assumption) | exact SqL.of upd_same | fail "sq")
local macro_rules | `(tactic| walk_at "ix") => `(tactic| refine ⟨_, _, _, _, rfl, rfl, (by walk_at "sq" : SqL _ _ _ _), by rfl, ?_⟩)
local macro_rules | `(tactic| walk_at "set") => `(tactic| refine ⟨_, _, _, _, rfl, rfl, by first | assumption | exact upd_same, by rfl, ?_⟩)
local macro_rules | `(tactic| walk_at "len") => `(tactic| refine ⟨_, _, rfl, Or.inl (by walk_at "sq" : SqL _ _ _ _), ?_⟩)
local macro_rules | `(tactic| walk_at "g") => `(tactic| repeat (first | refine ⟨_, rfl, ?_⟩ | refine ⟨_, _, rfl, rfl, ?_⟩ | refine ⟨Or.inr (by decide), ?_⟩ | refine ⟨Or.inl (by decide), ?_⟩ | refine ⟨(by decide : (0 : Int) < _), ?_⟩ | refine ⟨(⟨by decide, by decide⟩ : CDiv _ _), ?_⟩ | refine ⟨(⟨by decide, by decide, by decide⟩ : CPow _ _), ?_⟩ | refine Or.inl ⟨_, rfl, ?_⟩ | refine ⟨rfl, ?_⟩ | walk_at "ix" | walk_at "ixt" | walk_at "len" | fail "g"))
local macro_rules | `(tactic| walk_at "if") => `(tactic| refine ite2 (fun e => ?_) (fun e => ?_))
section
variable {P : Program} {w : World} {K : PySem.W.Frag} {mg : Str → Option Value} {base : Heap}
theorem made_same {H1 HA H' : Hp} {x : Addr} (hx : H1 x = none) (sA : Same H1 HA) (s : Sx (one x) HA H') : Same H1 H' := fun c o e => s c o (fun z => by rw [show c = x from z, hx] at e; cases e) (sA c o e)
theorem PageAt.fresh {C : Addr} {M : Ms} {H : Hp} {v r : V} {n : Nd} {p : Addr} (h : PageAt C M H v n r) (hp : H p = none) : PageAt C (also M p) H v n r := by
  obtain ⟨a, dx, dn, on, gv, us, rfl, na, ha, hr, nn, hn, hu⟩ := h
  exact ⟨a, dx, dn, on, gv, us, rfl, fun z => z.elim na fun z => (by rw [show a = p from z, hp] at ha; cases ha), ha, hr.fresh hp, fun z => z.elim nn fun z => (by rw [show dn = p from z, hp] at hn; cases hn), hn, hu.fresh hp⟩
theorem PageAt.less {C : Addr} {M : Ms} {H : Hp} {v r : V} {n : Nd} {p : Addr} (h : PageAt C (also M p) H v n r) : PageAt C M H v n r := by
  obtain ⟨a, dx, dn, on, gv, us, rfl, na, ha, hr, nn, hn, hu⟩ := h
  exact ⟨a, dx, dn, on, gv, us, rfl, fun z => na (.inl z), ha, hr.less also_le, fun z => nn (.inl z), hn, hu.less also_le⟩
theorem LaidAt.fresh {CL CP : Addr} {M : Ms} {H : Hp} {v gv r : V} {n : Nd} {p : Addr} (h : LaidAt CL CP M H v n gv r) (hp : H p = none) : LaidAt CL CP (also M p) H v n gv r := by
  obtain ⟨a, dx, tv, dp, op, ws, rfl, na, ha, hpg, nd, hd, hw⟩ := h
  exact ⟨a, dx, tv, dp, op, ws, rfl, fun z => z.elim na fun z => (by rw [show a = p from z, hp] at ha; cases ha), ha, hpg.fresh hp, fun z => z.elim nd fun z => (by rw [show dp = p from z, hp] at hd; cases hd), hd, hw.fresh hp⟩
theorem LnsAt.fresh {M : Ms} {H : Hp} {us : List V} {ls : List (List Str)} {p : Addr} (h : LnsAt M H us ls) (hp : H p = none) : LnsAt (also M p) H us ls := ⟨h.len, fun i u l a b => by
  obtain ⟨a', e', n', h'⟩ := h.at' i u l a b
  exact ⟨a', e', fun z => z.elim n' fun z => (by rw [show a' = p from z, hp] at h'; cases h'), h'⟩⟩
theorem lk_hit (v x y : V) : ([(sPage, v), (sTold, x), (sPlaces, y)] : List (Str × V)).lookup (Str.ofString "hit") = none := by
  rw [List.lookup_cons, List.lookup_cons, List.lookup_cons]
  rw [show (Str.ofString "hit" == sPage) = false by decide +kernel, show (Str.ofString "hit" == sTold) = false by decide +kernel, show (Str.ofString "hit" == sPlaces) = false by decide +kernel]
  rfl
/-- the marks of a page with a value for each -/
def kvM (ms : List Str) (f : Str → V) : List (Key × V) := kvS (ms.map fun m => (m, f m))
theorem kvM_len (ms : List Str) (f : Str → V) : (kvM ms f).length = ms.length := by unfold kvM; rw [kvS_len, List.length_map]
theorem kvM_val {ms : List Str} {f : Str → V} {m : Str} (hm : m ∈ ms) (nd : ms.Nodup) : valV (kvM ms f) (.inr m) = some (f m) := by
  obtain ⟨i, hi, rfl⟩ := List.getElem_of_mem hm
  refine valS_of (i := i) ?_ (by rw [List.getElem?_map, List.getElem?_eq_getElem hi]; rfl)
  rw [List.map_map]
  show (ms.map fun m => m).Nodup
  rw [List.map_id']
  exact nd
theorem kvM_new {ms : List Str} {f : Str → V} {m : Str} (hm : m ∉ ms) : putK (kvM ms f) (.inr m) (f m) = kvM (ms ++ [m]) f := by
  unfold kvM
  rw [putK_new, List.map_append]
  · rfl
  · rw [List.map_map]
    show m ∉ ms.map fun m => m
    rw [List.map_id']
    exact hm
theorem kvM_put {ms : List Str} {f : Str → V} {m : Str} {v : V} (hm : m ∈ ms) : putK (kvM ms f) (.inr m) v = kvM ms fun x => if x = m then v else f x := by
  unfold kvM kvS putK
  rw [if_pos]
  · rw [List.map_map, List.map_map, List.map_map]
    refine List.map_congr_left fun x _ => ?_
    show (if (Sum.inr x : Key) = Sum.inr m then ((Sum.inr x : Key), v) else (Sum.inr x, f x)) = (Sum.inr x, if x = m then v else f x)
    by_cases e : x = m
    · rw [if_pos (by rw [e]), if_pos e]
    · rw [if_neg (fun z => e (by injection z)), if_neg e]
  · rw [List.any_eq_true]
    exact ⟨(Sum.inr m, f m), List.mem_map.mpr ⟨(m, f m), List.mem_map.mpr ⟨m, hm, rfl⟩, rfl⟩, decide_eq_true rfl⟩
theorem kvM_int {ms : List Str} {f : Str → Int} {m : Str} {c : Int} (hm : m ∈ ms) : putK (kvM ms fun x => .int (f x)) (.inr m) (.int c) = kvM ms fun x => .int (if x = m then c else f x) := by
  rw [kvM_put hm]
  congr 1
  funext x
  split <;> rfl
theorem mark_hit {n : Nd} (nd : n.marks.Nodup) {p q : Nd × Int × Int} (hp : p ∈ n.rects 0 0) (hq : q ∈ n.rects 0 0) (e : p.1.mark = q.1.mark) : p = q := by
  obtain ⟨i, hi, ei⟩ := List.getElem_of_mem hp
  obtain ⟨j, hj, ej⟩ := List.getElem_of_mem hq
  have a := rects_mark (n := n) (j := i) (k := p) (by rw [List.getElem?_eq_getElem hi, ei])
  have b := rects_mark (n := n) (j := j) (k := q) (by rw [List.getElem?_eq_getElem hj, ej])
  rw [e, ← b] at a
  have := (List.getElem?_inj (by have := (List.getElem?_eq_some_iff.mp (a.trans b)).1; exact this) nd).mp a
  subst this
  rw [← ei, ← ej]
def sp_lholds : Sp := fun vs H Q _ => ∃ (v : V) (k : Nd × Int × Int) (X Y : Int) (M : Ms), vs = [v, .int X, .int Y] ∧ Rp M H v (bxD k) ∧ holdB X Y k = true ∧ Q (.bl true) H
theorem ok_lholds (T : Txt K mg) : FnOk P w K mg base CX0 1 T.f__law_holds T.d__law_holds ["_law_box", "_law_x", "_law_y"] sp_lholds := by
  refine T.F__law_holds.ok sc__law_holds (fun vs H Q E h => ?_) (fun cdv A outer s H vs Q E hr h => ?_)
  · obtain ⟨_, _, _, _, _, rfl, _⟩ := h
    rfl
  · obtain ⟨v, k, X, Y, M, rfl, hR, hh, q⟩ := h
    obtain ⟨h1, h2, h3, h4⟩ := holdB_iff.mp hh
    obtain ⟨t, ts, rfl, nt, ht, rt⟩ := Rp.tupN hR
    obtain ⟨z1, z2, z3, z4, rfl, b1, b2, b3, b4⟩ := rt.inv4
    cases b1; cases b2; cases b3; cases b4
    refine ⟨_, (pss_one (ps_ret (pe_and (pe_cmpR op_le (pe_ix (ix_tupK (K := K) rfl) (pv 0) pe_int (fun _ _ => rfl)) (pv 1) (nomark _)) (pe_and (pe_cmpR op_lt (pv 1) (pe_op op_add (pe_ix (ix_tupK (K := K) rfl) (pv 0) pe_int (fun _ _ => rfl)) (pe_ix (ix_tupK (K := K) rfl) (pv 0) pe_int (fun _ _ => rfl))) (nomark _)) (pe_and (pe_cmpR op_le (pe_ix (ix_tupK (K := K) rfl) (pv 0) pe_int (fun _ _ => rfl)) (pv 2) (nomark _)) (pe_one (pe_cmpR op_lt (pv 2) (pe_op op_add (pe_ix (ix_tupK (K := K) rfl) (pv 0) pe_int (fun _ _ => rfl)) (pe_ix (ix_tupK (K := K) rfl) (pv 0) pe_int (fun _ _ => rfl))) (nomark _)))))))), ?_⟩
    walk_at "g"
    rw [decide_eq_true h1]
    walk_at "g"
    rw [decide_eq_true h2]
    walk_at "g"
    rw [decide_eq_true h3]
    walk_at "g"
    show Q (V.bl (decide (Y < k.2.2 + k.1.sz.2))) H
    rw [decide_eq_true h4]
    exact q
def sp_law (K : PySem.W.Frag) : Sp := fun vs H Q _ => ∃ (a : Addr) (ns : List Int), vs = [.ref a] ∧ SqL K H a (ns.map V.int) ∧ ns.length ≤ 63 ∧ ∀ H', Q (.bl true) H'
theorem ok_law (T : Txt K mg) : FnOk P w K mg base CX0 72 T.f_law T.d_law ["_law_script"] (sp_law K) := by
  have G__law_bag := ok_bag (P := P) (w := w) (base := base) T
  have G__law_pick := ok_pick (P := P) (w := w) (base := base) T
  have G__law_tree := ok_tree (P := P) (w := w) (base := base) T
  have G_Page___init__ := ok_page (P := P) (w := w) (base := base) T
  have G_Laid___init__ := ok_laid (P := P) (w := w) (base := base) T
  have G__law_picture := ok_pict (P := P) (w := w) (base := base) T 60
  have G__law_lines_of := ok_lof (P := P) (w := w) (base := base) T 60
  have G_Laid___getitem__ := ok_at (P := P) (w := w) (base := base) T
  have G_Laid_hit := ok_hit (P := P) (w := w) (base := base) T
  have G__law_holds := ok_lholds (P := P) (w := w) (base := base) T
  refine T.F_law.ok sc_law (fun vs H Q E h => ?_) (fun cdv A outer s H vs Q E hr h => ?_)
  · obtain ⟨_, _, rfl, _⟩ := h
    rfl
  · obtain ⟨a, ns, rfl, hS, hl, q⟩ := h
    refine ⟨_, (pss_cons (ps_set (i := 1) sc_law.nd rfl (Or.inl rfl) (pe_call G__law_bag (hr.mono (by omega)) (by rfl) T.g__law_bag T.F__law_bag.kp T.b__law_bag .nil pass0 (pa_cons (pv 0) pa_nil)))
      (pss_cons (ps_set (i := 2) sc_law.nd rfl (Or.inl rfl) (pe_call G__law_tree (hr.mono (by omega)) (by rfl) T.g__law_tree T.F__law_tree.kp T.b__law_tree .nil pass0 (pa_cons (pv 1) pa_nil)))
      (pss_cons (ps_set (i := 3) sc_law.nd rfl (Or.inl rfl) (pe_make ⟨T.mk_Laid, T.a_Laid___init__, T.i_Laid___init__, T.kc_Laid⟩ G_Laid___init__ (hr.mono (by omega)) (by rfl) T.g_Laid T.b_Laid___init__ .nil pass0 (pa_cons (pe_make ⟨T.mk_Page, T.a_Page___init__, T.i_Page___init__, T.kc_Page⟩ G_Page___init__ (hr.mono (by omega)) (by rfl) T.g_Page T.b_Page___init__ .nil pass0 (pa_cons (pv 2) pa_nil)) pa_nil)))
      (pss_cons (ps_asg (pe_call G__law_picture (hr.mono (by omega)) (by rfl) T.g__law_picture T.F__law_picture.kp T.b__law_picture .nil pass0 (pa_cons (pv 2) pa_nil)) (pg_tupK (K := K) rfl rfl (pgs_cons (pg_name (i := 4) sc_law.nd rfl (Or.inl rfl)) (pgs_cons (pg_name (i := 5) sc_law.nd rfl (Or.inl rfl)) pgs_nil))))
      (pss_cons (ps_set (i := 6) sc_law.nd rfl (Or.inl rfl) (pe_callB (call_lenK (K := K) rfl) (by rfl) T.m_len PySem.boot_len (pa_cons (pv 5) pa_nil)))
      (pss_cons (ps_set (i := 7) sc_law.nd rfl (Or.inl rfl) pe_dnewK)
      (pss_cons (ps_expr (pe_call G__law_lines_of (hr.mono (by omega)) (by rfl) T.g__law_lines_of T.F__law_lines_of.kp T.b__law_lines_of .nil pass0 (pa_cons (pv 2) (pa_cons (pe_lst pa_nil) (pa_cons (pv 7) pa_nil)))))
      (pss_cons (ps_set (i := 8) sc_law.nd rfl (Or.inl rfl) pe_dnewK)
      (pss_cons (ps_set (i := 9) sc_law.nd rfl (Or.inl rfl) pe_dnewK)
      (pss_cons (ps_lock (ps_for PassesOwn.never rfl (pi_keys (pv 7)) (pg_name (i := 10) sc_law.nd rfl (Or.inl rfl)) (pss_cons (ps_dput (hu_of hr) (pv 8) (pv 10) (pe_ownIx (pv 3) (pv 10) T.a_Laid___getitem__ T.n_Laid___getitem__ T.i_Laid___getitem__ G_Laid___getitem__ T.b_Laid___getitem__ (hr.mono (by omega)) pass0 (fun _ _ => by with_unfolding_all rfl)) rfl)
      (pss_one (ps_dput (hu_of hr) (pv 9) (pv 10) pe_int rfl)))))
      (pss_cons (ps_for PassesOwn.never rfl (pi_range2 (by rfl) T.m_range (pa_cons (pe_un un_neg pe_int) (pa_cons (pe_op op_add (pv 6) pe_int) pa_nil))) (pg_name (i := 11) sc_law.nd rfl (Or.inl rfl)) (pss_one (ps_for PassesOwn.never rfl (pi_range2 (by rfl) T.m_range (pa_cons (pe_un un_neg pe_int) (pa_cons (pe_op op_add (pv 4) pe_int) pa_nil))) (pg_name (i := 12) sc_law.nd rfl (Or.inl rfl)) (pss_cons (ps_set (i := 13) sc_law.nd rfl (Or.inl rfl) (pe_meth (pv 3) T.cl_Laid ⟨T.a_Laid_hit, T.i_Laid_hit, T.F_Laid_hit.kp⟩ G_Laid_hit (hr.mono (by omega)) T.b_Laid_hit .nil pass0 (pa_cons (pv 12) (pa_cons (pv 11) pa_nil))))
      (pss_one (ps_if (PW.pt (pw_or (pt_cmpR op_lt (pv 12) pe_int (nomark _)) (pw_or (pt_cmpR op_lt (pv 11) pe_int (nomark _)) (pw_or (pt_cmpR op_eq (pv 12) (pv 4) (nomark _)) (pw_or1 (pt_cmpR op_eq (pv 11) (pv 6) (nomark _))))))) (pss_one (ps_if (pt_cmpR op_notN (pv 13) pe_non (nomark _)) (pss_one (ps_ret pe_bl)) pss_nil)) (pss_one (ps_if (PW.pt (pw_or (pt_not (pt_val (pe_callB (call_isi1K (K := K) rfl) (by rfl) T.m_isinstance (by decide +kernel) (pa_cons (pv 13) (pa_cons (pe_bltn (v := .ty "str") (u := .type "str") (by rfl) T.m_str (by decide +kernel) rfl) pa_nil))))) (pw_or1 (pt_cmpR op_ne (pv 13) (pe_ix (ix_listK (K := K) rfl) (pe_ix (ix_listK (K := K) rfl) (pv 5) (pv 11) (fun _ _ => rfl)) (pv 12) (fun _ _ => rfl)) (nomark _))))) (pss_one (ps_ret pe_bl)) (pss_one (ps_for PassesOwn.never rfl (pi_listK (K := K) rfl (pe_dget (hu_of hr) (pv 7) (pv 13) (fun _ _ => rfl))) (pg_name (i := 10) sc_law.nd rfl (Or.inl rfl)) (pss_cons (ps_if (pt_not (pt_val (pe_call G__law_holds (hr.mono (by omega)) (by rfl) T.g__law_holds T.F__law_holds.kp T.b__law_holds .nil pass0 (pa_cons (pe_dget (hu_of hr) (pv 8) (pv 10) (fun _ _ => rfl)) (pa_cons (pv 12) (pa_cons (pv 11) pa_nil)))))) (pss_one (ps_ret pe_bl)) pss_nil)
      (pss_one (ps_dput (hu_of hr) (pv 9) (pv 10) (pe_op op_add (pe_dget (hu_of hr) (pv 9) (pv 10) (fun _ _ => rfl)) pe_int) rfl)))))))))))))
      (pss_cons (ps_lock (ps_for PassesOwn.never rfl (pi_keys (pv 7)) (pg_name (i := 10) sc_law.nd rfl (Or.inl rfl)) (pss_one (ps_if (pt_cmpR op_ne (pe_dget (hu_of hr) (pv 9) (pv 10) (fun _ _ => rfl)) (pe_op op_mul (pe_ix (ix_tupK (K := K) rfl) (pe_dget (hu_of hr) (pv 8) (pv 10) (fun _ _ => rfl)) pe_int (fun _ _ => rfl)) (pe_ix (ix_tupK (K := K) rfl) (pe_dget (hu_of hr) (pv 8) (pv 10) (fun _ _ => rfl)) pe_int (fun _ _ => rfl))) (nomark _)) (pss_one (ps_ret pe_bl)) pss_nil))))
      (pss_cons (ps_set (i := 14) sc_law.nd rfl (Or.inl rfl) (pe_op op_add pe_int (pe_call G__law_pick (hr.mono (by omega)) (by rfl) T.g__law_pick T.F__law_pick.kp T.b__law_pick .nil pass0 (pa_cons (pv 1) (pa_cons pe_int pa_nil)))))
      (pss_cons (ps_for PassesOwn.never rfl (pi_listK (K := K) rfl (pe_lst (pa_cons (pe_tup (pa_cons (pe_op op_add (pv 4) (pv 14)) (pa_cons pe_int pa_nil))) (pa_cons (pe_tup (pa_cons pe_int (pa_cons (pe_op op_add (pv 6) (pv 14)) pa_nil))) (pa_cons (pe_tup (pa_cons (pe_op op_sub (pe_op op_sub pe_int pe_int) (pv 14)) (pa_cons pe_int pa_nil))) (pa_cons (pe_tup (pa_cons pe_int (pa_cons (pe_op op_sub (pe_op op_sub pe_int pe_int) (pv 14)) pa_nil))) (pa_cons (pe_tup (pa_cons (pv 4) (pa_cons (pe_op op_add (pv 6) (pv 14)) pa_nil))) (pa_cons (pe_tup (pa_cons (pe_op op_sub pe_int (pv 14)) (pa_cons (pe_op op_sub pe_int (pv 14)) pa_nil))) pa_nil)))))))) (pg_tupK (K := K) rfl rfl (pgs_cons (pg_name (i := 12) sc_law.nd rfl (Or.inl rfl)) (pgs_cons (pg_name (i := 11) sc_law.nd rfl (Or.inl rfl)) pgs_nil))) (pss_one (ps_if (pt_cmpR op_notN (pe_meth (pv 3) T.cl_Laid ⟨T.a_Laid_hit, T.i_Laid_hit, T.F_Laid_hit.kp⟩ G_Laid_hit (hr.mono (by omega)) T.b_Laid_hit .nil pass0 (pa_cons (pv 12) (pa_cons (pv 11) pa_nil))) pe_non (nomark _)) (pss_one (ps_ret pe_bl)) pss_nil)))
      (pss_one (ps_ret pe_bl)))))))))))))))), ?_⟩
    have Z := fun (H : Hp) (C x dx : Addr) (hx : H x = none) (hdx : H dx = none) (hne : dx ≠ x) => (same_new (o := .own x) hdx).trans (same_new (p := x) (o := .ins C dx []) (by rw [upd_ne (fun z => hne z.symm)]; exact hx))
    walk_at "g"
    refine ⟨a, ns, rfl, hS, hl, fun b H1 s1 nb hB1 => ?_⟩
    have hM1 : Mk (one b) H1 := fun c z => by rw [show c = b from z]; exact hB1.there
    walk_at "g"
    refine ⟨b, one b, rfl, hB1, hM1, fun v3 H3 d3 sx3 g3 hB3 r3 hd3 => ?_⟩
    obtain ⟨n, rfl, hg⟩ := hd3
    have hM3 := hM1.gr g3
    clear sx3 g3 hB1 hM1 s1 hS hl
    walk_at "g"
    intro x4 dx4 hx4 hdx4 hne4
    have SA4 := Z H3 T.C_Page x4 dx4 hx4 hdx4 hne4
    refine ⟨x4, dx4, v3, n, also (one b) x4, rfl, upd_same, .inr rfl, (r3.fresh hx4).sx (Sx.same SA4), (hM3.gr (Gr.same SA4)).also (ne_none upd_same), hg, fun H4 dn4 on4 gq4 us4 sx4 gx4 e4 nd4 hd4 hu4 => ⟨rfl, ?_⟩⟩
    have S4 := made_same hx4 SA4 sx4
    have pg4 : PageAt T.C_Page (one b) H4 (.ref x4) n v3 := ⟨x4, dx4, dn4, on4, _, us4, rfl, hM3.out hx4, e4, r3.sx (Sx.same S4), fun z => nd4 (.inl z), hd4, hu4.less also_le⟩
    clear SA4 sx4 gx4 e4 nd4 hd4 hu4 hx4 hdx4
    have hM4 := hM3.gr (Gr.same S4)
    walk_at "g"
    intro x5 dx5 hx5 hdx5 hne5
    have SA5 := Z H4 T.C_Laid x5 dx5 hx5 hdx5 hne5
    refine ⟨x5, dx5, .ref x4, v3, n, also (one b) x5, rfl, upd_same, .inr rfl, (pg4.fresh hx5).sx (Sx.same SA5), (hM4.gr (Gr.same SA5)).also (ne_none upd_same), hg, fun H5 tv5 dp5 op5 ws5 sx5 gx5 e5 nd5 hd5 hw5 => ⟨rfl, ?_⟩⟩
    have S5 := made_same hx5 SA5 sx5
    have ld5 : LaidAt T.C_Laid T.C_Page (one b) H5 (.ref x5) n (.ref x4) v3 := ⟨x5, dx5, tv5, dp5, op5, ws5, rfl, hM4.out hx5, e5, pg4.sx (Sx.same S5), fun z => nd5 (.inl z), hd5, hw5.less also_le⟩
    clear SA5 sx5 gx5 e5 nd5 hd5 hw5 hx5 hdx5
    have hM5 := hM4.gr (Gr.same S5)
    have r5 := (r3.sx (Sx.same S4)).sx (Sx.same S5)
    have hB5 := (hB3.same S4).same S5
    clear S4 S5 pg4 hM4 hM3 hB3 r3 hne4 hne5
    have lab : ∀ x ∈ n.subs, x.label.length ≤ 30 := fun x hx => (hg.txt x hx).2.1
    have szl := sz_le n lab
    have szn := sz_nn n
    have hlen := hg.len
    walk_at "g"
    refine ⟨v3, n, one b, rfl, r5, hM5, hg.dep, hg.len, lab, fun v6 H6 s6 h6 => ?_⟩
    obtain ⟨t6, p6, us6, rfl, nt6, ht6, np6, hp6, hu6⟩ := h6
    have hB6 := hB5.same s6
    have hM6 := hM5.gr (Gr.same s6)
    have ld6 := ld5.sx (Sx.same s6)
    have r6 := r5.sx (Sx.same s6)
    have hph := (picOk n).high
    have lu6 := hu6.len
    clear hB5 hM5 ld5 r5 s6
    refine ⟨t6, _, rfl, .inl (.inl ht6), rfl, _, _, rfl, _, _, rfl, rfl, ?_⟩
    walk_at "g"
    intro d hd7
    have nbd : ¬ one b d := hM6.out hd7
    have s7 : Same H6 (upd H6 d (.dK [])) := same_new hd7
    have ed7 : upd H6 d (.dK []) d = some (.dK []) := upd_same
    have hM7 : Mk (also (one b) d) (upd H6 d (.dK [])) := hM6.new.also upd_there
    have ld7 := (ld6.fresh hd7).sx (Sx.same s7)
    have hu7 := (hu6.fresh hd7).sx (Sx.same s7)
    have r7 := (r6.fresh hd7).sx (Sx.same s7)
    have np7 : ¬ also (one b) d p6 := fun z => z.elim np6 fun z => (by rw [show p6 = d from z, hd7] at hp6; cases hp6)
    have hp7 := s7 _ _ hp6
    have hB7 := (hB6.more hd7).same s7
    generalize upd H6 d (.dK []) = H7 at ed7 hM7 ld7 hu7 r7 hp7 hB7
    clear s7 ld6 hu6 r6 hB6 hM6 ht6 np6 hp6 nt6
    walk_at "g"
    refine ⟨szK rfl, fun p8 hp8 => ?_⟩
    have e8 : upd H7 p8 (.lst []) p8 = some (.lst ([].map V.str)) := upd_same
    have s8 : Same H7 (upd H7 p8 (.lst [])) := same_new hp8
    have np8 := hM7.out hp8
    have hM8 : Mk (also (one b) d) (upd H7 p8 (.lst [])) := hM7.new
    generalize upd H7 p8 (.lst []) = H8 at e8 s8 hM8
    walk_at "g"
    refine ⟨v3, p8, d, n, [], [], _, rfl, r7.sx (Sx.same s8), hM8, .inr rfl, hg.dep, hg.len, by rw [List.length_nil]; have := hg.dep; omega, np8, e8, s8 _ _ ed7, hg.nd, (fun _ _ z => by cases z), .nil, by rw [List.length_nil]; omega, fun H9 us9 s9 g9 ed9 hus9 => ?_⟩
    rw [List.nil_append] at ed9
    have hle9 : ∀ x, one d x → also (one b) d x := fun x z => .inr z
    have sx79 : Sx (also (one b) d) H7 H9 := (Sx.same s8).trans (s9.le hle9)
    have ld9 := ld7.sx sx79
    have hu9 := hu7.sx sx79
    have hp9 := sx79 _ _ np7 hp7
    have hM9 := hM8.gr g9
    have hB9 : Bag K (also (one b) d) H9 b := (hB7.same s8).keep s9 (fun z => nbd z.symm) hle9
    clear hB7 ld7 hu7 r7 hp7 hM7 hM8 sx79 ed7 e8 np8 s8 s9 g9
    walk_at "g"
    intro e he
    have ed10 := same_new he (o := .dK []) _ _ ed9
    have ee10 : upd H9 e (.dK []) e = some (.dK []) := upd_same
    have ld10 := (ld9.fresh he).sx (Sx.same (same_new he (o := .dK [])))
    have hu10 := (hu9.fresh he).sx (Sx.same (same_new he (o := .dK [])))
    have hus10 := (hus9.fresh he).sx (Sx.same (same_new he (o := .dK [])))
    have hp10 := same_new he (o := .dK []) _ _ hp9
    have hB10 := (hB9.more he).same (same_new he (o := .dK []))
    have hM10 : Mk (also (also (one b) d) e) (upd H9 e (.dK [])) := hM9.new.also upd_there
    have np10 : ¬ also (also (one b) d) e p6 := fun z => z.elim np7 fun z => (by rw [show p6 = e from z, he] at hp9; cases hp9)
    have hde : d ≠ e := ne_of_none ed9 he
    generalize upd H9 e (.dK []) = H10 at ed10 ee10 ld10 hu10 hus10 hp10 hB10 hM10
    have eib : b ≠ e := fun z => hB9.there (by rw [z]; exact he)
    clear hB9 hM9 ld9 hu9 hus9 hp9
    walk_at "g"
    intro f hf
    have ed11 := same_new hf (o := .dK []) _ _ ed10
    have ee11 := same_new hf (o := .dK []) _ _ ee10
    have ef11 : upd H10 f (.dK []) f = some (.dK []) := upd_same
    have ld11 := (ld10.fresh hf).sx (Sx.same (same_new hf (o := .dK [])))
    have hu11 := (hu10.fresh hf).sx (Sx.same (same_new hf (o := .dK [])))
    have hus11 := (hus10.fresh hf).sx (Sx.same (same_new hf (o := .dK [])))
    have hp11 := same_new hf (o := .dK []) _ _ hp10
    have hB11 := (hB10.more hf).same (same_new hf (o := .dK []))
    have hM11 : Mk (also (also (also (one b) d) e) f) (upd H10 f (.dK [])) := hM10.new.also upd_there
    have np11 : ¬ also (also (also (one b) d) e) f p6 := fun z => z.elim np10 fun z => (by rw [show p6 = f from z, hf] at hp10; cases hp10)
    have hdf : d ≠ f := ne_of_none ed10 hf
    have hef : e ≠ f := ne_of_none ee10 hf
    generalize upd H10 f (.dK []) = H11 at ed11 ee11 ef11 ld11 hu11 hus11 hp11 hB11 hM11
    have fib : b ≠ f := fun z => hB10.there (by rw [z]; exact hf)
    obtain ⟨M, hMd⟩ : ∃ M, M = also (also (also (one b) d) e) f := ⟨_, rfl⟩
    have Md : M d := by rw [hMd]; exact .inl (.inl (.inr rfl))
    have Me : M e := by rw [hMd]; exact .inl (.inr rfl)
    have Mf : M f := by rw [hMd]; exact .inr rfl
    have Mb : M b := by rw [hMd]; exact .inl (.inl (.inl rfl))
    have dib : b ≠ d := fun z => nbd z.symm
    rw [← hMd] at ld11 hu11 hus11 hB11 hM11 np11
    clear hB10 hM10 ld10 hu10 hus10 hp10 ee10 ed10 ed9
    have lmk : n.marks.length = (n.rects 0 0).length := by rw [rects_len]; unfold Nd.marks; rw [List.length_map]
    have lrk : (n.rects 0 0).length = n.subs.length := rects_len _ _ _
    obtain ⟨kv, hkv⟩ : ∃ kv, kv = kvS (n.marks.zip us9) := ⟨_, rfl⟩
    rw [← hkv] at ed11
    have lus9 : us9.length = n.marks.length := by rw [hus11.len, anc_len]; omega
    have lkv : kv.length = n.marks.length := by rw [hkv, kvS_len, List.length_zip]; omega
    obtain ⟨W, hW⟩ : ∃ W : Nat, (W : Int) = n.sz.1 := ⟨n.sz.1.toNat, by omega⟩
    obtain ⟨Hh, hHh⟩ : ∃ W : Nat, (W : Int) = n.sz.2 := ⟨n.sz.2.toNat, by omega⟩
    have lu : us6.length = Hh := by omega
    walk_at "g"
    refine ⟨d, .dK kv, ed11, trivial, fun od => ?_⟩
    have sL : Sx M H11 (upd H11 d (.frz od (.dK kv))) := Sx.put Md
    have gL : Gr H11 (upd H11 d (.frz od (.dK kv))) := Gr.upd
    have dL : upd H11 d (.frz od (.dK kv)) d = some (.frz od (.dK kv)) := upd_same
    have eL : upd H11 d (.frz od (.dK kv)) e = some (.dK []) := by rw [upd_ne hde.symm]; exact ee11
    have fL : upd H11 d (.frz od (.dK kv)) f = some (.dK []) := by rw [upd_ne hdf.symm]; exact ef11
    have bL : Bag K M (upd H11 d (.frz od (.dK kv))) b := hB11.keep (N := one d) (Sx.put rfl) (fun z => dib z) (fun x z => by rw [show x = d from z]; exact Md)
    generalize upd H11 d (.frz od (.dK kv)) = HL at sL gL dL eL fL bL
    walk_at "g"
    refine ⟨d, od, rfl, .inl ⟨kv, dL, ?_⟩⟩
    refine for_keys (fun i σ H' => (∃ y10, σ = [some (.ref a), some (.ref b), some v3, some (.ref x5), some (.int n.sz.1), some (.ref p6), some (.int (us6.length : Nat)), some (.ref d), some (.ref e), some (.ref f), y10, none, none, none, none]) ∧ Sx M HL H' ∧ Gr HL H' ∧ H' d = some (.frz od (.dK kv)) ∧ Bag K M H' b ∧ ∃ ws, H' e = some (.dK (kvS ((n.marks.take i).zip ws))) ∧ RpAll M H' ws (((n.rects 0 0).take i).map bxD) ∧ H' f = some (.dK (kvM (n.marks.take i) fun _ => .int 0))) ⟨⟨_, rfl⟩, Sx.refl, fun _ z => z, dL, bL, [], by rw [eL]; rfl, .nil, by rw [fL]; rfl⟩ (fun i σ H' _ p => p.2.2.2.1) (fun i k0 v0 σ H' hx p => ?_) (fun σ H' p => ?_)
    · obtain ⟨⟨y10, rfl⟩, sx, gx, dx', bx, ws, ex, hws, fx⟩ := p
      rw [hkv] at hx
      obtain ⟨m, rfl, hm, hv0⟩ := kvS_get hx
      have hi := (List.getElem?_eq_some_iff.mp hm).1
      obtain ⟨k, hk⟩ : ∃ k, (n.rects 0 0)[i]? = some k := ⟨_, List.getElem?_eq_getElem (by omega)⟩
      have em : m = k.1.mark := by
        have := rects_mark hk
        rw [hm] at this
        exact Option.some.inj this
      subst em
      have lws := hws.length
      rw [List.length_map, List.length_take] at lws
      have hL1 := ld11.sx (sL.trans sx)
      obtain ⟨ax, dxx, tvx, dpx, opx, wsx, eax, nax, hax, _⟩ := id hL1
      cases eax
      show gName 10 (V.str k.1.mark) _ _ _
      walk_at "g"
      refine ⟨x5, dxx, _, rfl, hax, .ref x5, _, _, n, i, k, M, rfl, hL1, hg.nd, hk, fun u hu => ?_⟩
      walk_at "g"
      refine ⟨e, _, rfl, DPut.k (k := .inr k.1.mark) ex (small1000 (by rw [kvS_len, List.length_zip, List.length_take]; omega)), ?_⟩
      rw [zip_more hg.nd hm (by omega)]
      have s1 : Sx M H' (upd H' e (.dK (kvS ((n.marks.take (i + 1)).zip (ws ++ [u]))))) := Sx.put Me
      have e1 : upd H' e (.dK (kvS ((n.marks.take (i + 1)).zip (ws ++ [u])))) e = some (.dK (kvS ((n.marks.take (i + 1)).zip (ws ++ [u])))) := upd_same
      have f1 : upd H' e (.dK (kvS ((n.marks.take (i + 1)).zip (ws ++ [u])))) f = some (.dK (kvM (n.marks.take i) fun _ => .int 0)) := by rw [upd_ne hef.symm]; exact fx
      have d1 : upd H' e (.dK (kvS ((n.marks.take (i + 1)).zip (ws ++ [u])))) d = some (.frz od (.dK kv)) := by rw [upd_ne hde]; exact dx'
      have b1 : Bag K M (upd H' e (.dK (kvS ((n.marks.take (i + 1)).zip (ws ++ [u]))))) b := bx.keep (N := one e) (Sx.put rfl) (fun z => eib z) (fun x z => by rw [show x = e from z]; exact Me)
      have g1 : Gr H' (upd H' e (.dK (kvS ((n.marks.take (i + 1)).zip (ws ++ [u]))))) := Gr.upd
      have w1 : RpAll M (upd H' e (.dK (kvS ((n.marks.take (i + 1)).zip (ws ++ [u]))))) (ws ++ [u]) (((n.rects 0 0).take (i + 1)).map bxD) := by
        rw [take_snoc hk, List.map_append]
        exact (hws.append (.one hu)).sx s1
      generalize upd H' e (.dK (kvS ((n.marks.take (i + 1)).zip (ws ++ [u])))) = H2 at s1 e1 f1 d1 b1 g1 w1
      walk_at "g"
      refine ⟨f, _, rfl, DPut.k (k := .inr k.1.mark) f1 (small1000 (by rw [kvM_len, List.length_take]; omega)), ?_⟩
      rw [show putK (kvM (n.marks.take i) fun _ => .int 0) (.inr k.1.mark) (.int 0) = kvM (n.marks.take (i + 1)) fun _ => .int 0 by
        rw [take_snoc hm]
        exact kvM_new (f := fun _ => V.int 0) (nd_take hg.nd hm)]
      refine ⟨⟨_, rfl⟩, sx.trans (s1.trans (Sx.put Mf)), gx.trans (g1.trans Gr.upd), by rw [upd_ne hdf]; exact d1, b1.keep (N := one f) (Sx.put rfl) (fun z => fib z) (fun x z => by rw [show x = f from z]; exact Mf), ws ++ [u], by rw [upd_ne hef]; exact e1, w1.sx (Sx.put Mf), upd_same⟩
    · obtain ⟨⟨y10, rfl⟩, sx, gx, dx', bx, ws, ex, hws, fx⟩ := p
      rw [lkv, List.take_length] at ex fx
      rw [lkv, List.take_of_length_le (by omega)] at hws
      refine ⟨dx', ?_⟩
      have s12 : Sx M H11 (upd H' d (.dK kv)) := sL.trans (sx.trans (Sx.put Md))
      have g12 : Gr H11 (upd H' d (.dK kv)) := gL.trans (gx.trans Gr.upd)
      have d12 : upd H' d (.dK kv) d = some (.dK kv) := upd_same
      have e12 : upd H' d (.dK kv) e = some (.dK (kvS (n.marks.zip ws))) := by rw [upd_ne hde.symm]; exact ex
      have f12 : upd H' d (.dK kv) f = some (.dK (kvM n.marks fun _ => .int 0)) := by rw [upd_ne hdf.symm]; exact fx
      have b12 : Bag K M (upd H' d (.dK kv)) b := bx.keep (N := one d) (Sx.put rfl) (fun z => dib z) (fun x z => by rw [show x = d from z]; exact Md)
      have w12 := hws.sx (Sx.put (o := .dK kv) Md)
      generalize upd H' d (.dK kv) = H12 at s12 g12 d12 e12 f12 b12 w12
      have ld12 := ld11.sx s12
      have hu12 := hu11.sx s12
      have hus12 := hus11.sx s12
      have hp12 := s12 _ _ np11 hp11
      have hM12 := hM11.gr g12
      clear sL gL dL eL fL bL sx gx dx' bx ex hws fx ld11 hu11 hus11 hp11 hM11 s12 g12 ed11 ee11 ef11 hB11
      walk_at "g"
      have hle : ∀ x, one f x → M x := fun x z => by rw [show x = f from z]; exact Mf
      have St : ∀ H', Sx (one f) H12 H' → H' d = some (.dK kv) ∧ H' e = some (.dK (kvS (n.marks.zip ws))) ∧ LaidAt T.C_Laid T.C_Page M H' (.ref x5) n (.ref x4) v3 ∧ LnsAt M H' us6 n.pic ∧ LnsAt M H' us9 (n.anc []) ∧ H' p6 = some (.lst us6) ∧ RpAll M H' ws ((n.rects 0 0).map bxD) ∧ Bag K M H' b := fun H' sx =>
        ⟨sx _ _ (fun z => hdf z) d12, sx _ _ (fun z => hef z) e12, ld12.sx (sx.le hle), hu12.sx (sx.le hle), hus12.sx (sx.le hle), (sx.le hle) _ _ np11 hp12, w12.sx (sx.le hle), b12.keep sx (fun z => fib z) hle⟩
      have inR : ∀ p, p ∈ n.rects 0 0 → ∀ X Y, holdB X Y p = true → holdB X Y (n, 0, 0) = true := fun p hp X Y hh => in_root hh n 0 0 hp
      refine ⟨_, _, rfl, ⟨by omega, by omega, by omega, by omega⟩, ?_⟩
      refine for_range (lo := -1) (fun t σ H' => (∃ y10 y11 y12 y13, σ = [some (.ref a), some (.ref b), some v3, some (.ref x5), some (.int n.sz.1), some (.ref p6), some (.int (us6.length : Nat)), some (.ref d), some (.ref e), some (.ref f), y10, y11, y12, y13, none]) ∧ Sx (one f) H12 H' ∧ Gr H12 H' ∧ ∃ cf : Str → Int, H' f = some (.dK (kvM n.marks fun m => .int (cf m))) ∧ ∀ p ∈ n.rects 0 0, cf p.1.mark = (tot p W t : Int)) ⟨⟨_, _, _, _, rfl⟩, Sx.refl, fun _ z => z, fun _ => 0, f12, fun p _ => rfl⟩ (fun t σ H' ht p => ?_) (fun σ H' p => ?_)
      · obtain ⟨⟨y10, y11, y12, y13, rfl⟩, sx, gx, cf, fx, hcf⟩ := p
        have eY : (-1 : Int) + (t : Int) = (t : Int) - 1 := by omega
        rw [eY]
        walk_at "g"
        refine ⟨_, _, rfl, ⟨by omega, by omega, by omega, by omega⟩, ?_⟩
        refine for_range (lo := -1) (fun s σ H' => (∃ y10 y12 y13, σ = [some (.ref a), some (.ref b), some v3, some (.ref x5), some (.int n.sz.1), some (.ref p6), some (.int (us6.length : Nat)), some (.ref d), some (.ref e), some (.ref f), y10, some (.int ((t : Int) - 1)), y12, y13, none]) ∧ Sx (one f) H12 H' ∧ Gr H12 H' ∧ ∃ cf : Str → Int, H' f = some (.dK (kvM n.marks fun m => .int (cf m))) ∧ ∀ p ∈ n.rects 0 0, cf p.1.mark = (tot p W t : Int) + (rowc p ((t : Int) - 1) s : Int)) ⟨⟨_, _, _, rfl⟩, sx, gx, cf, fx, fun p hp => by rw [hcf p hp]; unfold rowc; rw [List.range_zero, List.countP_nil]; omega⟩ (fun s σ H2 hs p => ?_) (fun σ H2 p => ?_)
        · clear sx gx fx hcf cf
          obtain ⟨⟨y10, y12, y13, rfl⟩, sx, gx, cf, fx, hcf⟩ := p
          have eX : (-1 : Int) + (s : Int) = (s : Int) - 1 := by omega
          rw [eX]
          obtain ⟨X, hX⟩ : ∃ X : Int, X = (s : Int) - 1 := ⟨_, rfl⟩
          obtain ⟨Y, hY⟩ : ∃ Y : Int, Y = (t : Int) - 1 := ⟨_, rfl⟩
          rw [← hX, ← hY]
          rw [← hY] at hcf
          obtain ⟨dx2, ex2, ld2, hu2, hus2, hp2, w2, b2⟩ := St H2 sx
          obtain ⟨ax, dxx, tvx, dpx, opx, wsx, eax, nax, hax, _⟩ := id ld2
          cases eax
          walk_at "g"
          refine ⟨x5, dxx, _, rfl, hax, lk_hit _ _ _, ?_⟩
          walk_at "g"
          refine ⟨.ref x5, _, _, n, X, Y, M, rfl, ld2, fun H3 s3 => ?_⟩
          have sx3 := sx.trans (Sx.same (M := one f) s3)
          have gx3 := gx.trans (Gr.same s3)
          have fx3 := s3 _ _ fx
          obtain ⟨dx3, ex3, ld3, hu3, hus3, hp3, w3, b3⟩ := St H3 sx3
          clear dx2 ex2 ld2 hu2 hus2 hp2 w2 b2 sx gx fx s3 hax
          walk_at "g"
          cases hb : holdB X Y (n, 0, 0) with
          | false =>
            rw [hitL_none hb]
            have cnt0 : ∀ p ∈ n.rects 0 0, cf p.1.mark = (tot p W t : Int) + (rowc p Y (s + 1) : Int) := fun p hp => by
              rw [hcf p hp, rowc_succ, ← hX, if_neg (fun z => by rw [inR p hp _ _ z] at hb; cases hb)]
              omega
            rw [show vM ([] : List (Nd × Int × Int)).getLast? = V.non from rfl]
            by_cases c1 : X < 0
            · rw [decide_eq_true c1]
              walk_at "g"
              rw [show decide ((V.non : V) = V.non) = true from decide_eq_true rfl]
              walk_at "g"
              exact ⟨⟨_, _, _, rfl⟩, sx3, gx3, cf, fx3, cnt0⟩
            rw [decide_eq_false c1]
            walk_at "g"
            by_cases c2 : Y < 0
            · rw [decide_eq_true c2]
              walk_at "g"
              rw [show decide ((V.non : V) = V.non) = true from decide_eq_true rfl]
              walk_at "g"
              exact ⟨⟨_, _, _, rfl⟩, sx3, gx3, cf, fx3, cnt0⟩
            rw [decide_eq_false c2]
            walk_at "g"
            by_cases c3 : X = n.sz.1
            · rw [decide_eq_true (show V.int X = V.int n.sz.1 by rw [c3])]
              walk_at "g"
              rw [show decide ((V.non : V) = V.non) = true from decide_eq_true rfl]
              walk_at "g"
              exact ⟨⟨_, _, _, rfl⟩, sx3, gx3, cf, fx3, cnt0⟩
            rw [decide_eq_false (show ¬ V.int X = V.int n.sz.1 from fun z => c3 (by injection z))]
            walk_at "g"
            by_cases c4 : Y = (us6.length : Int)
            · rw [decide_eq_true (show V.int Y = V.int us6.length by rw [c4])]
              walk_at "g"
              rw [show decide ((V.non : V) = V.non) = true from decide_eq_true rfl]
              walk_at "g"
              exact ⟨⟨_, _, _, rfl⟩, sx3, gx3, cf, fx3, cnt0⟩
            exfalso
            have : holdB X Y (n, 0, 0) = true := holdB_iff.mpr ⟨by dsimp only; omega, by dsimp only; omega, by dsimp only; omega, by dsimp only; omega⟩
            rw [hb] at this
            cases this
          | true =>
            obtain ⟨hx0, hx1, hy0, hy1⟩ := holdB_iff.mp hb
            dsimp only at hx0 hx1 hy0 hy1
            obtain ⟨j, p, hj, hlast, hanc⟩ := path n 0 0 [] hb
            rw [hlast, show vM (some p) = V.str p.1.mark from rfl]
            rw [decide_eq_false (show ¬ X < 0 by omega)]
            walk_at "g"
            rw [decide_eq_false (show ¬ Y < 0 by omega)]
            walk_at "g"
            rw [decide_eq_false (show ¬ V.int X = V.int n.sz.1 from fun z => by injection z with z; omega)]
            walk_at "g"
            rw [decide_eq_false (show ¬ V.int Y = V.int us6.length from fun z => by injection z with z; omega)]
            walk_at "g"
            refine ⟨_, _, _, _, true, rfl, .ty _, .base (.str _), kit_ty (by decide +kernel), ?_⟩
            walk_at "g"
            obtain ⟨ln, l1, l2⟩ := (picOk n).at' X Y 0 0 hb
            have hlt := (List.getElem?_eq_some_iff.mp l1).1
            obtain ⟨u7, hu7⟩ : ∃ u, us6[(Y - 0).toNat]? = some u := ⟨_, List.getElem?_eq_getElem (by omega)⟩
            obtain ⟨a7, rfl, na7, ha7⟩ := hu3.at' _ _ _ hu7 l1
            have elm : lastM n.mark (hitL X Y n 0 0) = p.1.mark := by unfold lastM; rw [hlast]
            rw [elm] at l2
            refine ⟨p6, us6, Y, .ref a7, rfl, rfl, .inl (.inl hp3), by rw [show Y = ((Y - 0).toNat : Int) by omega]; exact atI_nat hu7, ?_⟩
            walk_at "g"
            refine ⟨a7, _, X, .str p.1.mark, rfl, rfl, .inl (.inl ha7), by rw [show X = ((X - 0).toNat : Int) by omega]; exact atI_nat (by rw [List.getElem?_map, l2]; rfl), ?_⟩
            walk_at "g"
            rw [show decide (V.str p.1.mark = V.str p.1.mark) = true from decide_eq_true rfl]
            walk_at "g"
            have hjr := rects_mark hj
            have hjl := (List.getElem?_eq_some_iff.mp hjr).1
            obtain ⟨u8, hu8⟩ : ∃ u, us9[j]? = some u := ⟨_, List.getElem?_eq_getElem (by omega)⟩
            obtain ⟨a8, rfl, na8, ha8⟩ := hus3.at' _ _ _ hu8 hanc
            have hg8 := DGet.k (k := .inr p.1.mark) dx3
            rw [show valV kv (.inr p.1.mark) = some (.ref a8) by rw [hkv]; exact zip_val hg.nd lus9.symm hjr hu8] at hg8
            refine ⟨d, _, rfl, hg8, ?_⟩
            have ef8 : ¬ one f a8 := fun z => na8 (by rw [show a8 = f from z]; exact Mf)
            obtain ⟨L, hL0⟩ : ∃ L, L = hitL X Y n 0 0 := ⟨_, rfl⟩
            rw [← hL0, List.nil_append] at ha8
            rw [← hL0] at hlast
            have memL : ∀ q, q ∈ L ↔ (q ∈ n.rects 0 0 ∧ holdB X Y q = true) := fun q => by rw [hL0]; unfold hitL; exact List.mem_filter
            refine ⟨a8, rfl, ⟨_, .inl (.inl ha8)⟩, ?_⟩
            refine for_list (K := K) (a := a8) (xs := (L.map fun p => p.1.mark).map V.str) (fun i σ H' => (∃ y10, σ = [some (.ref a), some (.ref b), some v3, some (.ref x5), some (.int n.sz.1), some (.ref p6), some (.int (us6.length : Nat)), some (.ref d), some (.ref e), some (.ref f), y10, some (.int Y), some (.int X), some (.str p.1.mark), none]) ∧ Sx (one f) H3 H' ∧ Gr H3 H' ∧ ∃ cg : Str → Int, H' f = some (.dK (kvM n.marks fun m => .int (cg m))) ∧ ∀ m, cg m = cf m + (if m ∈ (L.map fun p => p.1.mark).take i then 1 else 0)) ⟨⟨_, rfl⟩, Sx.refl, fun _ z => z, cf, fx3, fun m => by rw [List.take_zero, if_neg (fun z => by cases z)]; omega⟩ (fun i σ H' _ p => .inl (.inl (p.2.1 _ _ ef8 ha8))) (fun i x σ H4' hx pp => ?_) (fun σ H4' pp => ?_)
            · obtain ⟨⟨y10, rfl⟩, s4, g4, cg, fx4, hcg⟩ := pp
              rw [List.getElem?_map, List.getElem?_map] at hx
              obtain ⟨m0, hm0, rfl⟩ := Option.map_eq_some_iff.mp hx
              obtain ⟨q0, hq0, rfl⟩ := Option.map_eq_some_iff.mp hm0
              have hq1 := (memL q0).mp (List.mem_of_getElem? hq0)
              obtain ⟨jq, hjq, ejq⟩ := List.getElem_of_mem hq1.1
              have hjq' : (n.rects 0 0)[jq]? = some q0 := by rw [List.getElem?_eq_getElem hjq, ejq]
              obtain ⟨dx4, ex4, ld4, hu4, hus4, hp4, w4, b4⟩ := St H4' (sx3.trans s4)
              have lw4 := w4.length
              rw [List.length_map] at lw4
              obtain ⟨uq, huq, ruq⟩ := w4.getD (show ((n.rects 0 0).map bxD)[jq]? = some (bxD q0) by rw [List.getElem?_map, hjq']; rfl)
              have hqm := rects_mark hjq'
              have hge := DGet.k (k := .inr q0.1.mark) ex4
              rw [zip_val hg.nd (by omega) hqm huq] at hge
              have hmem : q0.1.mark ∈ n.marks := List.mem_of_getElem? hqm
              have hgf := DGet.k (k := .inr q0.1.mark) fx4
              rw [kvM_val hmem hg.nd] at hgf
              walk_at "g"
              refine ⟨e, _, rfl, hge, ?_⟩
              walk_at "g"
              refine ⟨uq, q0, X, Y, M, rfl, ruq, hq1.2, ?_⟩
              walk_at "g"
              refine ⟨f, _, rfl, hgf, ?_⟩
              walk_at "g"
              refine ⟨f, _, rfl, DPut.k (k := .inr q0.1.mark) fx4 (small1000 (by rw [kvM_len]; omega)), ?_⟩
              rw [kvM_int hmem]
              refine ⟨⟨_, rfl⟩, s4.trans (Sx.put rfl), g4.trans Gr.upd, _, upd_same, fun m => ?_⟩
              have nL : (L.map fun p => p.1.mark).Nodup := by
                rw [hL0]
                unfold hitL
                have := hg.nd
                unfold Nd.marks at this
                rw [← Nd.rects_map n 0 0, List.map_map] at this
                exact this.sublist (List.filter_sublist.map _)
              have hm0' : (L.map fun p => p.1.mark)[i]? = some q0.1.mark := by rw [List.getElem?_map, hq0]; rfl
              rw [take_snoc hm0']
              by_cases em : m = q0.1.mark
              · rw [if_pos em, if_pos (List.mem_append_right _ (by rw [em]; exact List.mem_singleton.mpr rfl)), hcg, if_neg, em]
                · omega
                · exact nd_take nL hm0'
              · rw [if_neg em, hcg]
                congr 1
                by_cases c : m ∈ (L.map fun p => p.1.mark).take i
                · rw [if_pos c, if_pos (List.mem_append_left _ c)]
                · rw [if_neg c, if_neg (fun z => (List.mem_append.mp z).elim c fun z => em (List.mem_singleton.mp z))]
            · obtain ⟨⟨y10, rfl⟩, s4, g4, cg, fx4, hcg⟩ := pp
              rw [List.take_of_length_le (show (L.map fun p => p.1.mark).length ≤ ((L.map fun p => p.1.mark).map V.str).length by simp)] at hcg
              refine ⟨⟨_, _, _, rfl⟩, sx3.trans s4, gx3.trans g4, cg, fx4, fun p1 hp1 => ?_⟩
              rw [hcg, hcf p1 hp1, rowc_succ, ← hX]
              by_cases hh : holdB X Y p1 = true
              · rw [if_pos hh, if_pos (List.mem_map.mpr ⟨p1, (memL p1).mpr ⟨hp1, hh⟩, rfl⟩)]
                omega
              · rw [if_neg hh, if_neg (fun z => by
                  obtain ⟨q1, hq1, e1⟩ := List.mem_map.mp z
                  have hq2 := (memL q1).mp hq1
                  exact hh (by rw [← mark_hit hg.nd hq2.1 hp1 e1]; exact hq2.2))]
                omega
        · clear sx gx fx hcf cf
          obtain ⟨⟨y10, y12, y13, rfl⟩, sx, gx, cf, fx, hcf⟩ := p
          refine ⟨⟨_, _, _, _, rfl⟩, sx, gx, cf, fx, fun p hp => ?_⟩
          rw [hcf p hp, tot_succ, Int.natCast_add]
          congr 3
          omega
      · obtain ⟨⟨y10, y11, y12, y13, rfl⟩, sx, gx, cf, fx, hcf⟩ := p
        obtain ⟨dx2, ex2, ld2, hu2, hus2, hp2, w2, b2⟩ := St H' sx
        have eT : ∀ p ∈ n.rects 0 0, cf p.1.mark = p.1.sz.1 * p.1.sz.2 := fun p hp => by
          rw [hcf p hp, ← tot_eq hp hW hHh]
          congr 2
          omega
        walk_at "g"
        refine ⟨d, .dK kv, dx2, trivial, fun od => ?_⟩
        have dL : upd H' d (.frz od (.dK kv)) d = some (.frz od (.dK kv)) := upd_same
        have eL : upd H' d (.frz od (.dK kv)) e = some (.dK (kvS (n.marks.zip ws))) := by rw [upd_ne hde.symm]; exact ex2
        have fL : upd H' d (.frz od (.dK kv)) f = some (.dK (kvM n.marks fun m => .int (cf m))) := by rw [upd_ne hdf.symm]; exact fx
        have wL := w2.sx (Sx.put (o := .frz od (.dK kv)) Md)
        have backL : upd (upd H' d (.frz od (.dK kv))) d (.dK kv) = H' := by
          funext c
          by_cases ec : c = d
          · rw [ec, upd_same, dx2]
          · rw [upd_ne ec, upd_ne ec]
        have gL : upd H' d (.frz od (.dK kv)) = upd H' d (.frz od (.dK kv)) := rfl
        generalize upd H' d (.frz od (.dK kv)) = HL at dL eL fL wL backL
        walk_at "g"
        refine ⟨d, od, rfl, .inl ⟨kv, dL, ?_⟩⟩
        refine for_keys (fun i σ H2 => (∃ y10, σ = [some (.ref a), some (.ref b), some v3, some (.ref x5), some (.int n.sz.1), some (.ref p6), some (.int (us6.length : Nat)), some (.ref d), some (.ref e), some (.ref f), y10, y11, y12, y13, none]) ∧ H2 = HL) ⟨⟨_, rfl⟩, rfl⟩ (fun i σ H2 _ p => by rw [p.2]; exact dL) (fun i k0 v0 σ H2 hx p => ?_) (fun σ H2 p => ?_)
        · obtain ⟨⟨y10, rfl⟩, rfl⟩ := p
          rw [hkv] at hx
          obtain ⟨m, rfl, hm, hv0⟩ := kvS_get hx
          have hi := (List.getElem?_eq_some_iff.mp hm).1
          obtain ⟨k, hk⟩ : ∃ k, (n.rects 0 0)[i]? = some k := ⟨_, List.getElem?_eq_getElem (by omega)⟩
          have em : m = k.1.mark := by
            have := rects_mark hk
            rw [hm] at this
            exact Option.some.inj this
          subst em
          have lwL := wL.length
          rw [List.length_map] at lwL
          obtain ⟨uq, huq, ruq⟩ := wL.getD (show ((n.rects 0 0).map bxD)[i]? = some (bxD k) by rw [List.getElem?_map, hk]; rfl)
          have hge := DGet.k (k := .inr k.1.mark) eL
          rw [zip_val hg.nd (by omega) hm huq] at hge
          have hgf := DGet.k (k := .inr k.1.mark) fL
          rw [kvM_val (List.mem_of_getElem? hm) hg.nd, eT k (List.mem_of_getElem? hk)] at hgf
          obtain ⟨t9, ts9, rfl, nt9, ht9, rt9⟩ := Rp.tupN ruq
          obtain ⟨z1, z2, z3, z4, rfl, b1, b2', b3, b4⟩ := rt9.inv4
          cases b1; cases b2'; cases b3; cases b4
          show gName 10 (V.str k.1.mark) _ _ _
          walk_at "g"
          refine ⟨f, _, rfl, hgf, ?_⟩
          walk_at "g"
          refine ⟨e, _, rfl, hge, ?_⟩
          walk_at "g"
          refine ⟨e, _, rfl, hge, ?_⟩
          walk_at "g"
          have cm : CMul k.1.sz.1 k.1.sz.2 := by
            have kn := sz_nn k.1
            by_cases h1 : k.1.sz.1 = 0
            · exact .inl ⟨by rw [h1]; decide, by rw [h1]; decide⟩
            by_cases h2 : k.1.sz.2 = 0
            · exact .inr ⟨by rw [h2]; decide, by rw [h2]; decide⟩
            have hk1 := List.mem_of_getElem? hk
            have c1 := holdB_iff.mp (inR k hk1 k.2.1 k.2.2 (holdB_iff.mpr ⟨by omega, by omega, by omega, by omega⟩))
            have c2 := holdB_iff.mp (inR k hk1 (k.2.1 + k.1.sz.1 - 1) k.2.2 (holdB_iff.mpr ⟨by omega, by omega, by omega, by omega⟩))
            dsimp only at c1 c2
            exact .inl ⟨by omega, by omega⟩
          refine ⟨cm, ?_⟩
          walk_at "g"
          rw [show decide (V.int (k.1.sz.1 * k.1.sz.2) = V.int (k.1.sz.1 * k.1.sz.2)) = true from decide_eq_true rfl]
          walk_at "g"
          exact ⟨⟨_, rfl⟩, rfl⟩
        · obtain ⟨⟨y10, rfl⟩, rfl⟩ := p
          refine ⟨dL, ?_⟩
          rw [backL]
          walk_at "g"
          refine ⟨b, 1000000, M, rfl, b2, by omega, by omega, fun w9 H9 c0 c1 hA9 hB9 => ?_⟩
          have ld9 := ld2.sx (hA9.sx.le (fun x z => by rw [show x = b from z]; exact Mb))
          walk_at "g"
          refine ⟨szK rfl, fun q1 hq1 => ?_⟩
          generalize hh1 : upd H9 q1 _ = G1
          have et1 : G1 q1 = some (.tup [.int (n.sz.1 + (1 + w9)), .int (0)]) := by rw [← hh1]; exact upd_same
          have sg1 : Same H9 G1 := by rw [← hh1]; exact same_new hq1
          clear hh1
          walk_at "g"
          refine ⟨szK rfl, fun q2 hq2 => ?_⟩
          generalize hh2 : upd G1 q2 _ = G2
          have et2 : G2 q2 = some (.tup [.int (0), .int ((us6.length : Int) + (1 + w9))]) := by rw [← hh2]; exact upd_same
          have sg2 : Same G1 G2 := by rw [← hh2]; exact same_new hq2
          clear hh2
          walk_at "g"
          refine ⟨szK rfl, fun q3 hq3 => ?_⟩
          generalize hh3 : upd G2 q3 _ = G3
          have et3 : G3 q3 = some (.tup [.int (0 - 1 - (1 + w9)), .int (0)]) := by rw [← hh3]; exact upd_same
          have sg3 : Same G2 G3 := by rw [← hh3]; exact same_new hq3
          clear hh3
          walk_at "g"
          refine ⟨szK rfl, fun q4 hq4 => ?_⟩
          generalize hh4 : upd G3 q4 _ = G4
          have et4 : G4 q4 = some (.tup [.int (0), .int (0 - 1 - (1 + w9))]) := by rw [← hh4]; exact upd_same
          have sg4 : Same G3 G4 := by rw [← hh4]; exact same_new hq4
          clear hh4
          walk_at "g"
          refine ⟨szK rfl, fun q5 hq5 => ?_⟩
          generalize hh5 : upd G4 q5 _ = G5
          have et5 : G5 q5 = some (.tup [.int (n.sz.1), .int ((us6.length : Int) + (1 + w9))]) := by rw [← hh5]; exact upd_same
          have sg5 : Same G4 G5 := by rw [← hh5]; exact same_new hq5
          clear hh5
          walk_at "g"
          refine ⟨szK rfl, fun q6 hq6 => ?_⟩
          generalize hh6 : upd G5 q6 _ = G6
          have et6 : G6 q6 = some (.tup [.int (0 - (1 + w9)), .int (0 - (1 + w9))]) := by rw [← hh6]; exact upd_same
          have sg6 : Same G5 G6 := by rw [← hh6]; exact same_new hq6
          clear hh6
          walk_at "g"
          refine ⟨szK rfl, fun q7 hq7 => ?_⟩
          generalize hh7 : upd G6 q7 _ = G7
          have et7 : G7 q7 = some (.lst [.ref q1, .ref q2, .ref q3, .ref q4, .ref q5, .ref q6]) := by rw [← hh7]; exact upd_same
          have sg7 : Same G6 G7 := by rw [← hh7]; exact same_new hq7
          clear hh7
          have far : ∀ X Y : Int, (X < 0 ∨ Y < 0 ∨ n.sz.1 ≤ X ∨ (us6.length : Int) ≤ Y) → holdB X Y (n, 0, 0) = false := fun X Y h => decide_eq_false (by dsimp only; omega)
          have hP : ∀ x ∈ [V.ref q1, .ref q2, .ref q3, .ref q4, .ref q5, .ref q6], ∃ t X Y, x = .ref t ∧ G7 t = some (.tup [.int X, .int Y]) ∧ holdB X Y (n, 0, 0) = false := fun x hx => by
            simp only [List.mem_cons, List.not_mem_nil, or_false] at hx
            rcases hx with rfl | rfl | rfl | rfl | rfl | rfl
            · exact ⟨q1, _, _, rfl, sg7 _ _ (sg6 _ _ (sg5 _ _ (sg4 _ _ (sg3 _ _ (sg2 _ _ et1))))), far _ _ (by omega)⟩
            · exact ⟨q2, _, _, rfl, sg7 _ _ (sg6 _ _ (sg5 _ _ (sg4 _ _ (sg3 _ _ et2)))), far _ _ (by omega)⟩
            · exact ⟨q3, _, _, rfl, sg7 _ _ (sg6 _ _ (sg5 _ _ (sg4 _ _ et3))), far _ _ (by omega)⟩
            · exact ⟨q4, _, _, rfl, sg7 _ _ (sg6 _ _ (sg5 _ _ et4)), far _ _ (by omega)⟩
            · exact ⟨q5, _, _, rfl, sg7 _ _ (sg6 _ _ et5), far _ _ (by omega)⟩
            · exact ⟨q6, _, _, rfl, sg7 _ _ et6, far _ _ (by omega)⟩
          have ldG := ld9.sx (Sx.same (M := M) (sg1.trans (sg2.trans (sg3.trans (sg4.trans (sg5.trans (sg6.trans sg7)))))))
          refine ⟨q7, rfl, ⟨_, .inl (.inl et7)⟩, ?_⟩
          refine for_list (K := K) (a := q7) (xs := [V.ref q1, .ref q2, .ref q3, .ref q4, .ref q5, .ref q6]) (fun i σ H' => (∃ y11 y12, σ = [some (.ref a), some (.ref b), some v3, some (.ref x5), some (.int n.sz.1), some (.ref p6), some (.int (us6.length : Nat)), some (.ref d), some (.ref e), some (.ref f), y10, y11, y12, y13, some (.int (1 + w9))]) ∧ Same G7 H') ⟨⟨_, _, rfl⟩, fun _ _ e => e⟩ (fun i σ H' _ p => .inl (.inl (p.2 _ _ et7))) (fun i x σ H' hx p => ?_) (fun σ H' p => ?_)
          · obtain ⟨⟨y11, y12, rfl⟩, s7⟩ := p
            obtain ⟨t, X, Y, rfl, ht, hfar⟩ := hP x (List.mem_of_getElem? hx)
            have ht7 := s7 _ _ ht
            have ld7 := ldG.sx (Sx.same s7)
            obtain ⟨ax, dxx, tvx, dpx, opx, wsx, eax, nax, hax, _⟩ := id ld7
            cases eax
            refine ⟨t, _, rfl, .inl (.inl ht7), rfl, _, _, rfl, _, _, rfl, rfl, ?_⟩
            walk_at "g"
            refine ⟨x5, dxx, _, rfl, hax, lk_hit _ _ _, ?_⟩
            walk_at "g"
            refine ⟨.ref x5, _, _, n, X, Y, M, rfl, ld7, fun H8 s8 => ?_⟩
            rw [hitL_none hfar, show vM ([] : List (Nd × Int × Int)).getLast? = V.non from rfl]
            walk_at "g"
            rw [show decide ((V.non : V) = V.non) = true from decide_eq_true rfl]
            walk_at "g"
            exact ⟨⟨_, _, rfl⟩, s7.trans s8⟩
          · obtain ⟨⟨y11, y12, rfl⟩, s7⟩ := p
            walk_at "g"
            exact q _
end
end D

namespace D
open PySem PySem.Spec PyProof.Rows L2
theorem all_mk {l : PySem.W.OpenLaw} {w : World} {K : PySem.W.Frag} {h : Heap} {mg : Str → Option Value} {fa : Addr} {f__wall f_measure f__measured f__rectangles f__holds f_nodes_in f_first_twice f__law_mixed f__law_bag f__law_pick f__law_choice f__law_text f__law_label f__law_marks f__law_flat f__law_grown f__law_picture f__law_lines_of f__law_tree f__law_holds f_law C_Laid f_Laid___init__ f_Laid__keep f_Laid_page p_Laid_page f_Laid_size p_Laid_size f_Laid___getitem__ f_Laid___iter__ f_Laid_hit f_Laid_take C_Page f_Page___init__ f_Page_top p_Page_top f_Page_shown p_Page_shown f_Page___getitem__ f_Page___contains__ f_Page___iter__ f_Page___eq__ f_Page_parent C_ScreenError C_TooMany f_TooMany___init__ C_TwiceMarked f_TwiceMarked___init__ C_NoNode f_NoNode___init__ : Addr} (X : K.In h) (G : h.Ns mainGlobals mg) (hfa : mg "law" = some (.ref fa))
    {od__wall an__wall : Option Addr} {sl__wall : Array (Option Value)} {oc__wall kV__wall dc__wall pm__wall cd__wall ct__wall : Value}
    (a__wall : PySem.W.nsIn K mainGlobals "_wall" = some (some (.ref f__wall))) (l__wall : K.lookup f__wall = some ⟨oc__wall, od__wall, .func (PySem.W.fnOf "_wall" "_wall" (defArgs s__wall) (defBody s__wall) (defScope s__wall) .none kV__wall dc__wall pm__wall an__wall cd__wall ct__wall), sl__wall⟩) (c__wall : PySem.W.codeIn K cd__wall "_wall" = true) (k__wall : PySem.W.keepIn K (.ref f__wall) = true)
    {od_measure an_measure : Option Addr} {sl_measure : Array (Option Value)} {oc_measure kV_measure dc_measure pm_measure cd_measure ct_measure : Value}
    (a_measure : PySem.W.nsIn K mainGlobals "measure" = some (some (.ref f_measure))) (l_measure : K.lookup f_measure = some ⟨oc_measure, od_measure, .func (PySem.W.fnOf "measure" "measure" (defArgs s_measure) (defBody s_measure) (defScope s_measure) .none kV_measure dc_measure pm_measure an_measure cd_measure ct_measure), sl_measure⟩) (c_measure : PySem.W.codeIn K cd_measure "measure" = true) (k_measure : PySem.W.keepIn K (.ref f_measure) = true)
    {od__measured an__measured : Option Addr} {sl__measured : Array (Option Value)} {oc__measured kV__measured dc__measured pm__measured cd__measured ct__measured : Value}
    (a__measured : PySem.W.nsIn K mainGlobals "_measured" = some (some (.ref f__measured))) (l__measured : K.lookup f__measured = some ⟨oc__measured, od__measured, .func (PySem.W.fnOf "_measured" "_measured" (defArgs s__measured) (defBody s__measured) (defScope s__measured) .none kV__measured dc__measured pm__measured an__measured cd__measured ct__measured), sl__measured⟩) (c__measured : PySem.W.codeIn K cd__measured "_measured" = true) (k__measured : PySem.W.keepIn K (.ref f__measured) = true)
    {od__rectangles an__rectangles : Option Addr} {sl__rectangles : Array (Option Value)} {oc__rectangles kV__rectangles dc__rectangles pm__rectangles cd__rectangles ct__rectangles : Value}
    (a__rectangles : PySem.W.nsIn K mainGlobals "_rectangles" = some (some (.ref f__rectangles))) (l__rectangles : K.lookup f__rectangles = some ⟨oc__rectangles, od__rectangles, .func (PySem.W.fnOf "_rectangles" "_rectangles" (defArgs s__rectangles) (defBody s__rectangles) (defScope s__rectangles) .none kV__rectangles dc__rectangles pm__rectangles an__rectangles cd__rectangles ct__rectangles), sl__rectangles⟩) (c__rectangles : PySem.W.codeIn K cd__rectangles "_rectangles" = true) (k__rectangles : PySem.W.keepIn K (.ref f__rectangles) = true)
    {od__holds an__holds : Option Addr} {sl__holds : Array (Option Value)} {oc__holds kV__holds dc__holds pm__holds cd__holds ct__holds : Value}
    (a__holds : PySem.W.nsIn K mainGlobals "_holds" = some (some (.ref f__holds))) (l__holds : K.lookup f__holds = some ⟨oc__holds, od__holds, .func (PySem.W.fnOf "_holds" "_holds" (defArgs s__holds) (defBody s__holds) (defScope s__holds) .none kV__holds dc__holds pm__holds an__holds cd__holds ct__holds), sl__holds⟩) (c__holds : PySem.W.codeIn K cd__holds "_holds" = true) (k__holds : PySem.W.keepIn K (.ref f__holds) = true)
    {od_nodes_in an_nodes_in : Option Addr} {sl_nodes_in : Array (Option Value)} {oc_nodes_in kV_nodes_in dc_nodes_in pm_nodes_in cd_nodes_in ct_nodes_in : Value}
    (a_nodes_in : PySem.W.nsIn K mainGlobals "nodes_in" = some (some (.ref f_nodes_in))) (l_nodes_in : K.lookup f_nodes_in = some ⟨oc_nodes_in, od_nodes_in, .func (PySem.W.fnOf "nodes_in" "nodes_in" (defArgs s_nodes_in) (defBody s_nodes_in) (defScope s_nodes_in) .none kV_nodes_in dc_nodes_in pm_nodes_in an_nodes_in cd_nodes_in ct_nodes_in), sl_nodes_in⟩) (c_nodes_in : PySem.W.codeIn K cd_nodes_in "nodes_in" = true) (k_nodes_in : PySem.W.keepIn K (.ref f_nodes_in) = true)
    {od_first_twice an_first_twice : Option Addr} {sl_first_twice : Array (Option Value)} {oc_first_twice kV_first_twice dc_first_twice pm_first_twice cd_first_twice ct_first_twice : Value}
    (a_first_twice : PySem.W.nsIn K mainGlobals "first_twice" = some (some (.ref f_first_twice))) (l_first_twice : K.lookup f_first_twice = some ⟨oc_first_twice, od_first_twice, .func (PySem.W.fnOf "first_twice" "first_twice" (defArgs s_first_twice) (defBody s_first_twice) (defScope s_first_twice) .none kV_first_twice dc_first_twice pm_first_twice an_first_twice cd_first_twice ct_first_twice), sl_first_twice⟩) (c_first_twice : PySem.W.codeIn K cd_first_twice "first_twice" = true) (k_first_twice : PySem.W.keepIn K (.ref f_first_twice) = true)
    {od__law_mixed an__law_mixed : Option Addr} {sl__law_mixed : Array (Option Value)} {oc__law_mixed kV__law_mixed dc__law_mixed pm__law_mixed cd__law_mixed ct__law_mixed : Value}
    (a__law_mixed : PySem.W.nsIn K mainGlobals "_law_mixed" = some (some (.ref f__law_mixed))) (l__law_mixed : K.lookup f__law_mixed = some ⟨oc__law_mixed, od__law_mixed, .func (PySem.W.fnOf "_law_mixed" "_law_mixed" (defArgs s__law_mixed) (defBody s__law_mixed) (defScope s__law_mixed) .none kV__law_mixed dc__law_mixed pm__law_mixed an__law_mixed cd__law_mixed ct__law_mixed), sl__law_mixed⟩) (c__law_mixed : PySem.W.codeIn K cd__law_mixed "_law_mixed" = true) (k__law_mixed : PySem.W.keepIn K (.ref f__law_mixed) = true)
    {od__law_bag an__law_bag : Option Addr} {sl__law_bag : Array (Option Value)} {oc__law_bag kV__law_bag dc__law_bag pm__law_bag cd__law_bag ct__law_bag : Value}
    (a__law_bag : PySem.W.nsIn K mainGlobals "_law_bag" = some (some (.ref f__law_bag))) (l__law_bag : K.lookup f__law_bag = some ⟨oc__law_bag, od__law_bag, .func (PySem.W.fnOf "_law_bag" "_law_bag" (defArgs s__law_bag) (defBody s__law_bag) (defScope s__law_bag) .none kV__law_bag dc__law_bag pm__law_bag an__law_bag cd__law_bag ct__law_bag), sl__law_bag⟩) (c__law_bag : PySem.W.codeIn K cd__law_bag "_law_bag" = true) (k__law_bag : PySem.W.keepIn K (.ref f__law_bag) = true)
    {od__law_pick an__law_pick : Option Addr} {sl__law_pick : Array (Option Value)} {oc__law_pick kV__law_pick dc__law_pick pm__law_pick cd__law_pick ct__law_pick : Value}
    (a__law_pick : PySem.W.nsIn K mainGlobals "_law_pick" = some (some (.ref f__law_pick))) (l__law_pick : K.lookup f__law_pick = some ⟨oc__law_pick, od__law_pick, .func (PySem.W.fnOf "_law_pick" "_law_pick" (defArgs s__law_pick) (defBody s__law_pick) (defScope s__law_pick) .none kV__law_pick dc__law_pick pm__law_pick an__law_pick cd__law_pick ct__law_pick), sl__law_pick⟩) (c__law_pick : PySem.W.codeIn K cd__law_pick "_law_pick" = true) (k__law_pick : PySem.W.keepIn K (.ref f__law_pick) = true)
    {od__law_choice an__law_choice : Option Addr} {sl__law_choice : Array (Option Value)} {oc__law_choice kV__law_choice dc__law_choice pm__law_choice cd__law_choice ct__law_choice : Value}
    (a__law_choice : PySem.W.nsIn K mainGlobals "_law_choice" = some (some (.ref f__law_choice))) (l__law_choice : K.lookup f__law_choice = some ⟨oc__law_choice, od__law_choice, .func (PySem.W.fnOf "_law_choice" "_law_choice" (defArgs s__law_choice) (defBody s__law_choice) (defScope s__law_choice) .none kV__law_choice dc__law_choice pm__law_choice an__law_choice cd__law_choice ct__law_choice), sl__law_choice⟩) (c__law_choice : PySem.W.codeIn K cd__law_choice "_law_choice" = true) (k__law_choice : PySem.W.keepIn K (.ref f__law_choice) = true)
    {od__law_text an__law_text : Option Addr} {sl__law_text : Array (Option Value)} {oc__law_text kV__law_text dc__law_text pm__law_text cd__law_text ct__law_text : Value}
    (a__law_text : PySem.W.nsIn K mainGlobals "_law_text" = some (some (.ref f__law_text))) (l__law_text : K.lookup f__law_text = some ⟨oc__law_text, od__law_text, .func (PySem.W.fnOf "_law_text" "_law_text" (defArgs s__law_text) (defBody s__law_text) (defScope s__law_text) .none kV__law_text dc__law_text pm__law_text an__law_text cd__law_text ct__law_text), sl__law_text⟩) (c__law_text : PySem.W.codeIn K cd__law_text "_law_text" = true) (k__law_text : PySem.W.keepIn K (.ref f__law_text) = true)
    {od__law_label an__law_label : Option Addr} {sl__law_label : Array (Option Value)} {oc__law_label kV__law_label dc__law_label pm__law_label cd__law_label ct__law_label : Value}
    (a__law_label : PySem.W.nsIn K mainGlobals "_law_label" = some (some (.ref f__law_label))) (l__law_label : K.lookup f__law_label = some ⟨oc__law_label, od__law_label, .func (PySem.W.fnOf "_law_label" "_law_label" (defArgs s__law_label) (defBody s__law_label) (defScope s__law_label) .none kV__law_label dc__law_label pm__law_label an__law_label cd__law_label ct__law_label), sl__law_label⟩) (c__law_label : PySem.W.codeIn K cd__law_label "_law_label" = true) (k__law_label : PySem.W.keepIn K (.ref f__law_label) = true)
    {od__law_marks an__law_marks : Option Addr} {sl__law_marks : Array (Option Value)} {oc__law_marks kV__law_marks dc__law_marks pm__law_marks cd__law_marks ct__law_marks : Value}
    (a__law_marks : PySem.W.nsIn K mainGlobals "_law_marks" = some (some (.ref f__law_marks))) (l__law_marks : K.lookup f__law_marks = some ⟨oc__law_marks, od__law_marks, .func (PySem.W.fnOf "_law_marks" "_law_marks" (defArgs s__law_marks) (defBody s__law_marks) (defScope s__law_marks) .none kV__law_marks dc__law_marks pm__law_marks an__law_marks cd__law_marks ct__law_marks), sl__law_marks⟩) (c__law_marks : PySem.W.codeIn K cd__law_marks "_law_marks" = true) (k__law_marks : PySem.W.keepIn K (.ref f__law_marks) = true)
    {od__law_flat an__law_flat : Option Addr} {sl__law_flat : Array (Option Value)} {oc__law_flat kV__law_flat dc__law_flat pm__law_flat cd__law_flat ct__law_flat : Value}
    (a__law_flat : PySem.W.nsIn K mainGlobals "_law_flat" = some (some (.ref f__law_flat))) (l__law_flat : K.lookup f__law_flat = some ⟨oc__law_flat, od__law_flat, .func (PySem.W.fnOf "_law_flat" "_law_flat" (defArgs s__law_flat) (defBody s__law_flat) (defScope s__law_flat) .none kV__law_flat dc__law_flat pm__law_flat an__law_flat cd__law_flat ct__law_flat), sl__law_flat⟩) (c__law_flat : PySem.W.codeIn K cd__law_flat "_law_flat" = true) (k__law_flat : PySem.W.keepIn K (.ref f__law_flat) = true)
    {od__law_grown an__law_grown : Option Addr} {sl__law_grown : Array (Option Value)} {oc__law_grown kV__law_grown dc__law_grown pm__law_grown cd__law_grown ct__law_grown : Value}
    (a__law_grown : PySem.W.nsIn K mainGlobals "_law_grown" = some (some (.ref f__law_grown))) (l__law_grown : K.lookup f__law_grown = some ⟨oc__law_grown, od__law_grown, .func (PySem.W.fnOf "_law_grown" "_law_grown" (defArgs s__law_grown) (defBody s__law_grown) (defScope s__law_grown) .none kV__law_grown dc__law_grown pm__law_grown an__law_grown cd__law_grown ct__law_grown), sl__law_grown⟩) (c__law_grown : PySem.W.codeIn K cd__law_grown "_law_grown" = true) (k__law_grown : PySem.W.keepIn K (.ref f__law_grown) = true)
    {od__law_picture an__law_picture : Option Addr} {sl__law_picture : Array (Option Value)} {oc__law_picture kV__law_picture dc__law_picture pm__law_picture cd__law_picture ct__law_picture : Value}
    (a__law_picture : PySem.W.nsIn K mainGlobals "_law_picture" = some (some (.ref f__law_picture))) (l__law_picture : K.lookup f__law_picture = some ⟨oc__law_picture, od__law_picture, .func (PySem.W.fnOf "_law_picture" "_law_picture" (defArgs s__law_picture) (defBody s__law_picture) (defScope s__law_picture) .none kV__law_picture dc__law_picture pm__law_picture an__law_picture cd__law_picture ct__law_picture), sl__law_picture⟩) (c__law_picture : PySem.W.codeIn K cd__law_picture "_law_picture" = true) (k__law_picture : PySem.W.keepIn K (.ref f__law_picture) = true)
    {od__law_lines_of an__law_lines_of : Option Addr} {sl__law_lines_of : Array (Option Value)} {oc__law_lines_of kV__law_lines_of dc__law_lines_of pm__law_lines_of cd__law_lines_of ct__law_lines_of : Value}
    (a__law_lines_of : PySem.W.nsIn K mainGlobals "_law_lines_of" = some (some (.ref f__law_lines_of))) (l__law_lines_of : K.lookup f__law_lines_of = some ⟨oc__law_lines_of, od__law_lines_of, .func (PySem.W.fnOf "_law_lines_of" "_law_lines_of" (defArgs s__law_lines_of) (defBody s__law_lines_of) (defScope s__law_lines_of) .none kV__law_lines_of dc__law_lines_of pm__law_lines_of an__law_lines_of cd__law_lines_of ct__law_lines_of), sl__law_lines_of⟩) (c__law_lines_of : PySem.W.codeIn K cd__law_lines_of "_law_lines_of" = true) (k__law_lines_of : PySem.W.keepIn K (.ref f__law_lines_of) = true)
    {od__law_tree an__law_tree : Option Addr} {sl__law_tree : Array (Option Value)} {oc__law_tree kV__law_tree dc__law_tree pm__law_tree cd__law_tree ct__law_tree : Value}
    (a__law_tree : PySem.W.nsIn K mainGlobals "_law_tree" = some (some (.ref f__law_tree))) (l__law_tree : K.lookup f__law_tree = some ⟨oc__law_tree, od__law_tree, .func (PySem.W.fnOf "_law_tree" "_law_tree" (defArgs s__law_tree) (defBody s__law_tree) (defScope s__law_tree) .none kV__law_tree dc__law_tree pm__law_tree an__law_tree cd__law_tree ct__law_tree), sl__law_tree⟩) (c__law_tree : PySem.W.codeIn K cd__law_tree "_law_tree" = true) (k__law_tree : PySem.W.keepIn K (.ref f__law_tree) = true)
    {od__law_holds an__law_holds : Option Addr} {sl__law_holds : Array (Option Value)} {oc__law_holds kV__law_holds dc__law_holds pm__law_holds cd__law_holds ct__law_holds : Value}
    (a__law_holds : PySem.W.nsIn K mainGlobals "_law_holds" = some (some (.ref f__law_holds))) (l__law_holds : K.lookup f__law_holds = some ⟨oc__law_holds, od__law_holds, .func (PySem.W.fnOf "_law_holds" "_law_holds" (defArgs s__law_holds) (defBody s__law_holds) (defScope s__law_holds) .none kV__law_holds dc__law_holds pm__law_holds an__law_holds cd__law_holds ct__law_holds), sl__law_holds⟩) (c__law_holds : PySem.W.codeIn K cd__law_holds "_law_holds" = true) (k__law_holds : PySem.W.keepIn K (.ref f__law_holds) = true)
    {od_law an_law : Option Addr} {sl_law : Array (Option Value)} {oc_law kV_law dc_law pm_law cd_law ct_law : Value}
    (a_law : PySem.W.nsIn K mainGlobals "law" = some (some (.ref f_law))) (l_law : K.lookup f_law = some ⟨oc_law, od_law, .func (PySem.W.fnOf "law" "law" (defArgs s_law) (defBody s_law) (defScope s_law) .none kV_law dc_law pm_law an_law cd_law ct_law), sl_law⟩) (c_law : PySem.W.codeIn K cd_law "law" = true) (k_law : PySem.W.keepIn K (.ref f_law) = true)
    (aC_Laid : PySem.W.nsIn K mainGlobals "Laid" = some (some (.ref C_Laid))) (pg_Laid : PySem.W.plainGet K C_Laid Str.empty = true) (hd_Laid : PySem.W.hasDictIn K C_Laid = true) (po_Laid : PySem.W.plainOver K C_Laid = true) (sa_Laid : PySem.W.findIn K (.ref C_Laid) "__setattr__" = some (some (.builtin "object.__setattr__"))) (mk_Laid : PySem.W.makesIn K C_Laid = true) (kc_Laid : PySem.W.keepIn K (.ref C_Laid) = true) (nf_Laid : PySem.W.notFirst K C_Laid (.ref C_Laid) = true) (ih_Laid : PySem.W.findIn K (.ref C_Laid) "__class__" = some (some (.builtin "object.__class__"))) (ig_Laid : PySem.W.specialIn K (.builtin "object.__class__") "__get__" = some (some (.builtin "getset_descriptor.__get__"))) (it_Laid : PySem.W.takesIn K (.builtin "object.__class__") = some true) (io_Laid : PySem.W.mroIn K C_Laid (.type "object") = some true) (ik_Laid : PySem.W.kitOne K (.ref C_Laid) (.ref C_Laid) = some true)
    (ns_Laid : PySem.W.noSeq K C_Laid = true)
    (nl_Laid : PySem.W.findIn K (.ref C_Laid) "__len__" = some none) (nh_Laid : PySem.W.findIn K (.ref C_Laid) "__length_hint__" = some none)
    (nA_Laid__page : PySem.W.findIn K (.ref C_Laid) "_page" = some none)
    (nA_Laid__places : PySem.W.findIn K (.ref C_Laid) "_places" = some none)
    (nA_Laid__told : PySem.W.findIn K (.ref C_Laid) "_told" = some none)
    {od_Laid___init__ an_Laid___init__ : Option Addr} {sl_Laid___init__ : Array (Option Value)} {oc_Laid___init__ kV_Laid___init__ dc_Laid___init__ pm_Laid___init__ cd_Laid___init__ ct_Laid___init__ : Value}
    (a_Laid___init__ : PySem.W.findIn K (.ref C_Laid) "__init__" = some (some (.ref f_Laid___init__))) (i_Laid___init__ : PySem.W.isFn K (.ref f_Laid___init__) = true) (n_Laid___init__ : PySem.W.fnIn K f_Laid___init__ = true)
    (l_Laid___init__ : K.lookup f_Laid___init__ = some ⟨oc_Laid___init__, od_Laid___init__, .func (PySem.W.fnOf "__init__" "Laid.__init__" (defArgs s_Laid___init__) (defBody s_Laid___init__) (defScope s_Laid___init__) .none kV_Laid___init__ dc_Laid___init__ pm_Laid___init__ an_Laid___init__ cd_Laid___init__ ct_Laid___init__), sl_Laid___init__⟩) (c_Laid___init__ : PySem.W.codeIn K cd_Laid___init__ "Laid.__init__" = true) (k_Laid___init__ : PySem.W.keepIn K (.ref f_Laid___init__) = true)
    {od_Laid__keep an_Laid__keep : Option Addr} {sl_Laid__keep : Array (Option Value)} {oc_Laid__keep kV_Laid__keep dc_Laid__keep pm_Laid__keep cd_Laid__keep ct_Laid__keep : Value}
    (a_Laid__keep : PySem.W.findIn K (.ref C_Laid) "_keep" = some (some (.ref f_Laid__keep))) (i_Laid__keep : PySem.W.isFn K (.ref f_Laid__keep) = true) (n_Laid__keep : PySem.W.fnIn K f_Laid__keep = true)
    (l_Laid__keep : K.lookup f_Laid__keep = some ⟨oc_Laid__keep, od_Laid__keep, .func (PySem.W.fnOf "_keep" "Laid._keep" (defArgs s_Laid__keep) (defBody s_Laid__keep) (defScope s_Laid__keep) .none kV_Laid__keep dc_Laid__keep pm_Laid__keep an_Laid__keep cd_Laid__keep ct_Laid__keep), sl_Laid__keep⟩) (c_Laid__keep : PySem.W.codeIn K cd_Laid__keep "Laid._keep" = true) (k_Laid__keep : PySem.W.keepIn K (.ref f_Laid__keep) = true)
    {od_Laid_page an_Laid_page : Option Addr} {sl_Laid_page : Array (Option Value)} {oc_Laid_page kV_Laid_page dc_Laid_page pm_Laid_page cd_Laid_page ct_Laid_page : Value}
    {re_Laid_page : List Value} (a_Laid_page : PySem.W.findIn K (.ref C_Laid) "page" = some (some (.ref p_Laid_page))) (ge_Laid_page : PySem.W.specialIn K (.ref p_Laid_page) "__get__" = some (some (.builtin "property.__get__"))) (ta_Laid_page : PySem.W.takesIn K (.ref p_Laid_page) = some true) (re1_Laid_page : PySem.W.recIn K p_Laid_page "property" = some (.ref f_Laid_page :: re_Laid_page))
    (l_Laid_page : K.lookup f_Laid_page = some ⟨oc_Laid_page, od_Laid_page, .func (PySem.W.fnOf "page" "Laid.page" (defArgs s_Laid_page) (defBody s_Laid_page) (defScope s_Laid_page) .none kV_Laid_page dc_Laid_page pm_Laid_page an_Laid_page cd_Laid_page ct_Laid_page), sl_Laid_page⟩) (c_Laid_page : PySem.W.codeIn K cd_Laid_page "Laid.page" = true) (k_Laid_page : PySem.W.keepIn K (.ref f_Laid_page) = true)
    {od_Laid_size an_Laid_size : Option Addr} {sl_Laid_size : Array (Option Value)} {oc_Laid_size kV_Laid_size dc_Laid_size pm_Laid_size cd_Laid_size ct_Laid_size : Value}
    {re_Laid_size : List Value} (a_Laid_size : PySem.W.findIn K (.ref C_Laid) "size" = some (some (.ref p_Laid_size))) (ge_Laid_size : PySem.W.specialIn K (.ref p_Laid_size) "__get__" = some (some (.builtin "property.__get__"))) (ta_Laid_size : PySem.W.takesIn K (.ref p_Laid_size) = some true) (re1_Laid_size : PySem.W.recIn K p_Laid_size "property" = some (.ref f_Laid_size :: re_Laid_size))
    (l_Laid_size : K.lookup f_Laid_size = some ⟨oc_Laid_size, od_Laid_size, .func (PySem.W.fnOf "size" "Laid.size" (defArgs s_Laid_size) (defBody s_Laid_size) (defScope s_Laid_size) .none kV_Laid_size dc_Laid_size pm_Laid_size an_Laid_size cd_Laid_size ct_Laid_size), sl_Laid_size⟩) (c_Laid_size : PySem.W.codeIn K cd_Laid_size "Laid.size" = true) (k_Laid_size : PySem.W.keepIn K (.ref f_Laid_size) = true)
    {od_Laid___getitem__ an_Laid___getitem__ : Option Addr} {sl_Laid___getitem__ : Array (Option Value)} {oc_Laid___getitem__ kV_Laid___getitem__ dc_Laid___getitem__ pm_Laid___getitem__ cd_Laid___getitem__ ct_Laid___getitem__ : Value}
    (a_Laid___getitem__ : PySem.W.findIn K (.ref C_Laid) "__getitem__" = some (some (.ref f_Laid___getitem__))) (i_Laid___getitem__ : PySem.W.isFn K (.ref f_Laid___getitem__) = true) (n_Laid___getitem__ : PySem.W.fnIn K f_Laid___getitem__ = true)
    (l_Laid___getitem__ : K.lookup f_Laid___getitem__ = some ⟨oc_Laid___getitem__, od_Laid___getitem__, .func (PySem.W.fnOf "__getitem__" "Laid.__getitem__" (defArgs s_Laid___getitem__) (defBody s_Laid___getitem__) (defScope s_Laid___getitem__) .none kV_Laid___getitem__ dc_Laid___getitem__ pm_Laid___getitem__ an_Laid___getitem__ cd_Laid___getitem__ ct_Laid___getitem__), sl_Laid___getitem__⟩) (c_Laid___getitem__ : PySem.W.codeIn K cd_Laid___getitem__ "Laid.__getitem__" = true) (k_Laid___getitem__ : PySem.W.keepIn K (.ref f_Laid___getitem__) = true)
    {od_Laid___iter__ an_Laid___iter__ : Option Addr} {sl_Laid___iter__ : Array (Option Value)} {oc_Laid___iter__ kV_Laid___iter__ dc_Laid___iter__ pm_Laid___iter__ cd_Laid___iter__ ct_Laid___iter__ : Value}
    (a_Laid___iter__ : PySem.W.findIn K (.ref C_Laid) "__iter__" = some (some (.ref f_Laid___iter__))) (i_Laid___iter__ : PySem.W.isFn K (.ref f_Laid___iter__) = true) (n_Laid___iter__ : PySem.W.fnIn K f_Laid___iter__ = true)
    (l_Laid___iter__ : K.lookup f_Laid___iter__ = some ⟨oc_Laid___iter__, od_Laid___iter__, .func (PySem.W.fnOf "__iter__" "Laid.__iter__" (defArgs s_Laid___iter__) (defBody s_Laid___iter__) (defScope s_Laid___iter__) .none kV_Laid___iter__ dc_Laid___iter__ pm_Laid___iter__ an_Laid___iter__ cd_Laid___iter__ ct_Laid___iter__), sl_Laid___iter__⟩) (c_Laid___iter__ : PySem.W.codeIn K cd_Laid___iter__ "Laid.__iter__" = true) (k_Laid___iter__ : PySem.W.keepIn K (.ref f_Laid___iter__) = true)
    {od_Laid_hit an_Laid_hit : Option Addr} {sl_Laid_hit : Array (Option Value)} {oc_Laid_hit kV_Laid_hit dc_Laid_hit pm_Laid_hit cd_Laid_hit ct_Laid_hit : Value}
    (a_Laid_hit : PySem.W.findIn K (.ref C_Laid) "hit" = some (some (.ref f_Laid_hit))) (i_Laid_hit : PySem.W.isFn K (.ref f_Laid_hit) = true) (n_Laid_hit : PySem.W.fnIn K f_Laid_hit = true)
    (l_Laid_hit : K.lookup f_Laid_hit = some ⟨oc_Laid_hit, od_Laid_hit, .func (PySem.W.fnOf "hit" "Laid.hit" (defArgs s_Laid_hit) (defBody s_Laid_hit) (defScope s_Laid_hit) .none kV_Laid_hit dc_Laid_hit pm_Laid_hit an_Laid_hit cd_Laid_hit ct_Laid_hit), sl_Laid_hit⟩) (c_Laid_hit : PySem.W.codeIn K cd_Laid_hit "Laid.hit" = true) (k_Laid_hit : PySem.W.keepIn K (.ref f_Laid_hit) = true)
    {od_Laid_take an_Laid_take : Option Addr} {sl_Laid_take : Array (Option Value)} {oc_Laid_take kV_Laid_take dc_Laid_take pm_Laid_take cd_Laid_take ct_Laid_take : Value}
    (a_Laid_take : PySem.W.findIn K (.ref C_Laid) "take" = some (some (.ref f_Laid_take))) (i_Laid_take : PySem.W.isFn K (.ref f_Laid_take) = true) (n_Laid_take : PySem.W.fnIn K f_Laid_take = true)
    (l_Laid_take : K.lookup f_Laid_take = some ⟨oc_Laid_take, od_Laid_take, .func (PySem.W.fnOf "take" "Laid.take" (defArgs s_Laid_take) (defBody s_Laid_take) (defScope s_Laid_take) .none kV_Laid_take dc_Laid_take pm_Laid_take an_Laid_take cd_Laid_take ct_Laid_take), sl_Laid_take⟩) (c_Laid_take : PySem.W.codeIn K cd_Laid_take "Laid.take" = true) (k_Laid_take : PySem.W.keepIn K (.ref f_Laid_take) = true)
    (aC_Page : PySem.W.nsIn K mainGlobals "Page" = some (some (.ref C_Page))) (pg_Page : PySem.W.plainGet K C_Page Str.empty = true) (hd_Page : PySem.W.hasDictIn K C_Page = true) (po_Page : PySem.W.plainOver K C_Page = true) (sa_Page : PySem.W.findIn K (.ref C_Page) "__setattr__" = some (some (.builtin "object.__setattr__"))) (mk_Page : PySem.W.makesIn K C_Page = true) (kc_Page : PySem.W.keepIn K (.ref C_Page) = true) (nf_Page : PySem.W.notFirst K C_Page (.ref C_Page) = true) (ih_Page : PySem.W.findIn K (.ref C_Page) "__class__" = some (some (.builtin "object.__class__"))) (ig_Page : PySem.W.specialIn K (.builtin "object.__class__") "__get__" = some (some (.builtin "getset_descriptor.__get__"))) (it_Page : PySem.W.takesIn K (.builtin "object.__class__") = some true) (io_Page : PySem.W.mroIn K C_Page (.type "object") = some true) (ik_Page : PySem.W.kitOne K (.ref C_Page) (.ref C_Page) = some true)
    (ns_Page : PySem.W.noSeq K C_Page = true)
    (nl_Page : PySem.W.findIn K (.ref C_Page) "__len__" = some none) (nh_Page : PySem.W.findIn K (.ref C_Page) "__length_hint__" = some none)
    (nA_Page__nodes : PySem.W.findIn K (.ref C_Page) "_nodes" = some none)
    (nA_Page__parents : PySem.W.findIn K (.ref C_Page) "_parents" = some none)
    (nA_Page__root : PySem.W.findIn K (.ref C_Page) "_root" = some none)
    {od_Page___init__ an_Page___init__ : Option Addr} {sl_Page___init__ : Array (Option Value)} {oc_Page___init__ kV_Page___init__ dc_Page___init__ pm_Page___init__ cd_Page___init__ ct_Page___init__ : Value}
    (a_Page___init__ : PySem.W.findIn K (.ref C_Page) "__init__" = some (some (.ref f_Page___init__))) (i_Page___init__ : PySem.W.isFn K (.ref f_Page___init__) = true) (n_Page___init__ : PySem.W.fnIn K f_Page___init__ = true)
    (l_Page___init__ : K.lookup f_Page___init__ = some ⟨oc_Page___init__, od_Page___init__, .func (PySem.W.fnOf "__init__" "Page.__init__" (defArgs s_Page___init__) (defBody s_Page___init__) (defScope s_Page___init__) .none kV_Page___init__ dc_Page___init__ pm_Page___init__ an_Page___init__ cd_Page___init__ ct_Page___init__), sl_Page___init__⟩) (c_Page___init__ : PySem.W.codeIn K cd_Page___init__ "Page.__init__" = true) (k_Page___init__ : PySem.W.keepIn K (.ref f_Page___init__) = true)
    {od_Page_top an_Page_top : Option Addr} {sl_Page_top : Array (Option Value)} {oc_Page_top kV_Page_top dc_Page_top pm_Page_top cd_Page_top ct_Page_top : Value}
    {re_Page_top : List Value} (a_Page_top : PySem.W.findIn K (.ref C_Page) "top" = some (some (.ref p_Page_top))) (ge_Page_top : PySem.W.specialIn K (.ref p_Page_top) "__get__" = some (some (.builtin "property.__get__"))) (ta_Page_top : PySem.W.takesIn K (.ref p_Page_top) = some true) (re1_Page_top : PySem.W.recIn K p_Page_top "property" = some (.ref f_Page_top :: re_Page_top))
    (l_Page_top : K.lookup f_Page_top = some ⟨oc_Page_top, od_Page_top, .func (PySem.W.fnOf "top" "Page.top" (defArgs s_Page_top) (defBody s_Page_top) (defScope s_Page_top) .none kV_Page_top dc_Page_top pm_Page_top an_Page_top cd_Page_top ct_Page_top), sl_Page_top⟩) (c_Page_top : PySem.W.codeIn K cd_Page_top "Page.top" = true) (k_Page_top : PySem.W.keepIn K (.ref f_Page_top) = true)
    {od_Page_shown an_Page_shown : Option Addr} {sl_Page_shown : Array (Option Value)} {oc_Page_shown kV_Page_shown dc_Page_shown pm_Page_shown cd_Page_shown ct_Page_shown : Value}
    {re_Page_shown : List Value} (a_Page_shown : PySem.W.findIn K (.ref C_Page) "shown" = some (some (.ref p_Page_shown))) (ge_Page_shown : PySem.W.specialIn K (.ref p_Page_shown) "__get__" = some (some (.builtin "property.__get__"))) (ta_Page_shown : PySem.W.takesIn K (.ref p_Page_shown) = some true) (re1_Page_shown : PySem.W.recIn K p_Page_shown "property" = some (.ref f_Page_shown :: re_Page_shown))
    (l_Page_shown : K.lookup f_Page_shown = some ⟨oc_Page_shown, od_Page_shown, .func (PySem.W.fnOf "shown" "Page.shown" (defArgs s_Page_shown) (defBody s_Page_shown) (defScope s_Page_shown) .none kV_Page_shown dc_Page_shown pm_Page_shown an_Page_shown cd_Page_shown ct_Page_shown), sl_Page_shown⟩) (c_Page_shown : PySem.W.codeIn K cd_Page_shown "Page.shown" = true) (k_Page_shown : PySem.W.keepIn K (.ref f_Page_shown) = true)
    {od_Page___getitem__ an_Page___getitem__ : Option Addr} {sl_Page___getitem__ : Array (Option Value)} {oc_Page___getitem__ kV_Page___getitem__ dc_Page___getitem__ pm_Page___getitem__ cd_Page___getitem__ ct_Page___getitem__ : Value}
    (a_Page___getitem__ : PySem.W.findIn K (.ref C_Page) "__getitem__" = some (some (.ref f_Page___getitem__))) (i_Page___getitem__ : PySem.W.isFn K (.ref f_Page___getitem__) = true) (n_Page___getitem__ : PySem.W.fnIn K f_Page___getitem__ = true)
    (l_Page___getitem__ : K.lookup f_Page___getitem__ = some ⟨oc_Page___getitem__, od_Page___getitem__, .func (PySem.W.fnOf "__getitem__" "Page.__getitem__" (defArgs s_Page___getitem__) (defBody s_Page___getitem__) (defScope s_Page___getitem__) .none kV_Page___getitem__ dc_Page___getitem__ pm_Page___getitem__ an_Page___getitem__ cd_Page___getitem__ ct_Page___getitem__), sl_Page___getitem__⟩) (c_Page___getitem__ : PySem.W.codeIn K cd_Page___getitem__ "Page.__getitem__" = true) (k_Page___getitem__ : PySem.W.keepIn K (.ref f_Page___getitem__) = true)
    {od_Page___contains__ an_Page___contains__ : Option Addr} {sl_Page___contains__ : Array (Option Value)} {oc_Page___contains__ kV_Page___contains__ dc_Page___contains__ pm_Page___contains__ cd_Page___contains__ ct_Page___contains__ : Value}
    (a_Page___contains__ : PySem.W.findIn K (.ref C_Page) "__contains__" = some (some (.ref f_Page___contains__))) (i_Page___contains__ : PySem.W.isFn K (.ref f_Page___contains__) = true) (n_Page___contains__ : PySem.W.fnIn K f_Page___contains__ = true)
    (l_Page___contains__ : K.lookup f_Page___contains__ = some ⟨oc_Page___contains__, od_Page___contains__, .func (PySem.W.fnOf "__contains__" "Page.__contains__" (defArgs s_Page___contains__) (defBody s_Page___contains__) (defScope s_Page___contains__) .none kV_Page___contains__ dc_Page___contains__ pm_Page___contains__ an_Page___contains__ cd_Page___contains__ ct_Page___contains__), sl_Page___contains__⟩) (c_Page___contains__ : PySem.W.codeIn K cd_Page___contains__ "Page.__contains__" = true) (k_Page___contains__ : PySem.W.keepIn K (.ref f_Page___contains__) = true)
    {od_Page___iter__ an_Page___iter__ : Option Addr} {sl_Page___iter__ : Array (Option Value)} {oc_Page___iter__ kV_Page___iter__ dc_Page___iter__ pm_Page___iter__ cd_Page___iter__ ct_Page___iter__ : Value}
    (a_Page___iter__ : PySem.W.findIn K (.ref C_Page) "__iter__" = some (some (.ref f_Page___iter__))) (i_Page___iter__ : PySem.W.isFn K (.ref f_Page___iter__) = true) (n_Page___iter__ : PySem.W.fnIn K f_Page___iter__ = true)
    (l_Page___iter__ : K.lookup f_Page___iter__ = some ⟨oc_Page___iter__, od_Page___iter__, .func (PySem.W.fnOf "__iter__" "Page.__iter__" (defArgs s_Page___iter__) (defBody s_Page___iter__) (defScope s_Page___iter__) .none kV_Page___iter__ dc_Page___iter__ pm_Page___iter__ an_Page___iter__ cd_Page___iter__ ct_Page___iter__), sl_Page___iter__⟩) (c_Page___iter__ : PySem.W.codeIn K cd_Page___iter__ "Page.__iter__" = true) (k_Page___iter__ : PySem.W.keepIn K (.ref f_Page___iter__) = true)
    {od_Page___eq__ an_Page___eq__ : Option Addr} {sl_Page___eq__ : Array (Option Value)} {oc_Page___eq__ kV_Page___eq__ dc_Page___eq__ pm_Page___eq__ cd_Page___eq__ ct_Page___eq__ : Value}
    (a_Page___eq__ : PySem.W.findIn K (.ref C_Page) "__eq__" = some (some (.ref f_Page___eq__))) (i_Page___eq__ : PySem.W.isFn K (.ref f_Page___eq__) = true) (n_Page___eq__ : PySem.W.fnIn K f_Page___eq__ = true)
    (l_Page___eq__ : K.lookup f_Page___eq__ = some ⟨oc_Page___eq__, od_Page___eq__, .func (PySem.W.fnOf "__eq__" "Page.__eq__" (defArgs s_Page___eq__) (defBody s_Page___eq__) (defScope s_Page___eq__) .none kV_Page___eq__ dc_Page___eq__ pm_Page___eq__ an_Page___eq__ cd_Page___eq__ ct_Page___eq__), sl_Page___eq__⟩) (c_Page___eq__ : PySem.W.codeIn K cd_Page___eq__ "Page.__eq__" = true) (k_Page___eq__ : PySem.W.keepIn K (.ref f_Page___eq__) = true)
    {od_Page_parent an_Page_parent : Option Addr} {sl_Page_parent : Array (Option Value)} {oc_Page_parent kV_Page_parent dc_Page_parent pm_Page_parent cd_Page_parent ct_Page_parent : Value}
    (a_Page_parent : PySem.W.findIn K (.ref C_Page) "parent" = some (some (.ref f_Page_parent))) (i_Page_parent : PySem.W.isFn K (.ref f_Page_parent) = true) (n_Page_parent : PySem.W.fnIn K f_Page_parent = true)
    (l_Page_parent : K.lookup f_Page_parent = some ⟨oc_Page_parent, od_Page_parent, .func (PySem.W.fnOf "parent" "Page.parent" (defArgs s_Page_parent) (defBody s_Page_parent) (defScope s_Page_parent) .none kV_Page_parent dc_Page_parent pm_Page_parent an_Page_parent cd_Page_parent ct_Page_parent), sl_Page_parent⟩) (c_Page_parent : PySem.W.codeIn K cd_Page_parent "Page.parent" = true) (k_Page_parent : PySem.W.keepIn K (.ref f_Page_parent) = true)
    (aC_ScreenError : PySem.W.nsIn K mainGlobals "ScreenError" = some (some (.ref C_ScreenError))) (hd_ScreenError : PySem.W.hasDictIn K C_ScreenError = true) (ty_ScreenError : PySem.W.typeIn K (.ref C_ScreenError) = some (.type "type")) (be_ScreenError : PySem.W.subIn K (.ref C_ScreenError) (.type "BaseException") = some true) (vb_ScreenError : PySem.W.subIn K (.ref C_ScreenError) (.type "ValueError") = some true)
    (aC_TooMany : PySem.W.nsIn K mainGlobals "TooMany" = some (some (.ref C_TooMany))) (hd_TooMany : PySem.W.hasDictIn K C_TooMany = true) (ty_TooMany : PySem.W.typeIn K (.ref C_TooMany) = some (.type "type")) (be_TooMany : PySem.W.subIn K (.ref C_TooMany) (.type "BaseException") = some true) (vb_TooMany : PySem.W.subIn K (.ref C_TooMany) (.type "ValueError") = some true)
    {nm_TooMany q_TooMany : Str} {N_TooMany : Addr} {bs_TooMany bm_TooMany : List Value} {sn_TooMany : List Str} {sub_TooMany : List Value} {ab_TooMany : Bool} {col_TooMany : Option Bool} {dd_TooMany : Option Addr} {k0_TooMany k1_TooMany k2_TooMany k3_TooMany k5_TooMany : Option Value} (lx_TooMany : K.lookup C_TooMany = some (excClassObj nm_TooMany q_TooMany C_TooMany N_TooMany bs_TooMany bm_TooMany true sn_TooMany sub_TooMany ab_TooMany col_TooMany dd_TooMany k0_TooMany k1_TooMany k2_TooMany k3_TooMany k5_TooMany "ValueError.__new__")) (rv_TooMany : PySem.HandSPX.refsVE bm_TooMany = true)
    (sa_TooMany : PySem.W.findIn K (.ref C_TooMany) "__setattr__" = some (some (.builtin "object.__setattr__"))) (kc_TooMany : PySem.W.keepIn K (.ref C_TooMany) = true) (ga_TooMany : PySem.W.findIn K (.ref C_TooMany) "__getattribute__" = some (some (.builtin "BaseException.__getattribute__"))) (gg_TooMany : PySem.W.findIn K (.ref C_TooMany) "__getattr__" = some none) (ca_TooMany : PySem.W.findIn K (.ref C_TooMany) "__class__" = some (some (.builtin "object.__class__"))) (cg_TooMany : PySem.W.specialIn K (.builtin "object.__class__") "__get__" = some (some (.builtin "getset_descriptor.__get__"))) (ck_TooMany : PySem.W.takesIn K (.builtin "object.__class__") = some true) (mo_TooMany : PySem.W.mroIn K C_TooMany (.type "object") = some true)
    {od_TooMany___init__ an_TooMany___init__ : Option Addr} {sl_TooMany___init__ : Array (Option Value)} {oc_TooMany___init__ kV_TooMany___init__ dc_TooMany___init__ pm_TooMany___init__ cd_TooMany___init__ ct_TooMany___init__ : Value} (iC_TooMany : PySem.W.findIn K (.ref C_TooMany) "__init__" = some (some (.ref f_TooMany___init__))) (tI_TooMany : PySem.W.typeIn K (.ref f_TooMany___init__) = some (.type "function"))
    (l_TooMany___init__ : K.lookup f_TooMany___init__ = some ⟨oc_TooMany___init__, od_TooMany___init__, .func (PySem.W.fnOf "__init__" "TooMany.__init__" (defArgs s_TooMany___init__) (defBody s_TooMany___init__) (defScope s_TooMany___init__) .none kV_TooMany___init__ dc_TooMany___init__ pm_TooMany___init__ an_TooMany___init__ cd_TooMany___init__ ct_TooMany___init__), sl_TooMany___init__⟩) (c_TooMany___init__ : PySem.W.codeIn K cd_TooMany___init__ "TooMany.__init__" = true) (k_TooMany___init__ : PySem.W.keepIn K (.ref f_TooMany___init__) = true)
    (nf_TooMany_count : PySem.W.findIn K (.ref C_TooMany) "count" = some none)
    (aC_TwiceMarked : PySem.W.nsIn K mainGlobals "TwiceMarked" = some (some (.ref C_TwiceMarked))) (hd_TwiceMarked : PySem.W.hasDictIn K C_TwiceMarked = true) (ty_TwiceMarked : PySem.W.typeIn K (.ref C_TwiceMarked) = some (.type "type")) (be_TwiceMarked : PySem.W.subIn K (.ref C_TwiceMarked) (.type "BaseException") = some true) (vb_TwiceMarked : PySem.W.subIn K (.ref C_TwiceMarked) (.type "ValueError") = some true)
    {nm_TwiceMarked q_TwiceMarked : Str} {N_TwiceMarked : Addr} {bs_TwiceMarked bm_TwiceMarked : List Value} {sn_TwiceMarked : List Str} {sub_TwiceMarked : List Value} {ab_TwiceMarked : Bool} {col_TwiceMarked : Option Bool} {dd_TwiceMarked : Option Addr} {k0_TwiceMarked k1_TwiceMarked k2_TwiceMarked k3_TwiceMarked k5_TwiceMarked : Option Value} (lx_TwiceMarked : K.lookup C_TwiceMarked = some (excClassObj nm_TwiceMarked q_TwiceMarked C_TwiceMarked N_TwiceMarked bs_TwiceMarked bm_TwiceMarked true sn_TwiceMarked sub_TwiceMarked ab_TwiceMarked col_TwiceMarked dd_TwiceMarked k0_TwiceMarked k1_TwiceMarked k2_TwiceMarked k3_TwiceMarked k5_TwiceMarked "ValueError.__new__")) (rv_TwiceMarked : PySem.HandSPX.refsVE bm_TwiceMarked = true)
    (sa_TwiceMarked : PySem.W.findIn K (.ref C_TwiceMarked) "__setattr__" = some (some (.builtin "object.__setattr__"))) (kc_TwiceMarked : PySem.W.keepIn K (.ref C_TwiceMarked) = true) (ga_TwiceMarked : PySem.W.findIn K (.ref C_TwiceMarked) "__getattribute__" = some (some (.builtin "BaseException.__getattribute__"))) (gg_TwiceMarked : PySem.W.findIn K (.ref C_TwiceMarked) "__getattr__" = some none) (ca_TwiceMarked : PySem.W.findIn K (.ref C_TwiceMarked) "__class__" = some (some (.builtin "object.__class__"))) (cg_TwiceMarked : PySem.W.specialIn K (.builtin "object.__class__") "__get__" = some (some (.builtin "getset_descriptor.__get__"))) (ck_TwiceMarked : PySem.W.takesIn K (.builtin "object.__class__") = some true) (mo_TwiceMarked : PySem.W.mroIn K C_TwiceMarked (.type "object") = some true)
    {od_TwiceMarked___init__ an_TwiceMarked___init__ : Option Addr} {sl_TwiceMarked___init__ : Array (Option Value)} {oc_TwiceMarked___init__ kV_TwiceMarked___init__ dc_TwiceMarked___init__ pm_TwiceMarked___init__ cd_TwiceMarked___init__ ct_TwiceMarked___init__ : Value} (iC_TwiceMarked : PySem.W.findIn K (.ref C_TwiceMarked) "__init__" = some (some (.ref f_TwiceMarked___init__))) (tI_TwiceMarked : PySem.W.typeIn K (.ref f_TwiceMarked___init__) = some (.type "function"))
    (l_TwiceMarked___init__ : K.lookup f_TwiceMarked___init__ = some ⟨oc_TwiceMarked___init__, od_TwiceMarked___init__, .func (PySem.W.fnOf "__init__" "TwiceMarked.__init__" (defArgs s_TwiceMarked___init__) (defBody s_TwiceMarked___init__) (defScope s_TwiceMarked___init__) .none kV_TwiceMarked___init__ dc_TwiceMarked___init__ pm_TwiceMarked___init__ an_TwiceMarked___init__ cd_TwiceMarked___init__ ct_TwiceMarked___init__), sl_TwiceMarked___init__⟩) (c_TwiceMarked___init__ : PySem.W.codeIn K cd_TwiceMarked___init__ "TwiceMarked.__init__" = true) (k_TwiceMarked___init__ : PySem.W.keepIn K (.ref f_TwiceMarked___init__) = true)
    (nf_TwiceMarked_mark : PySem.W.findIn K (.ref C_TwiceMarked) "mark" = some none)
    (aC_NoNode : PySem.W.nsIn K mainGlobals "NoNode" = some (some (.ref C_NoNode))) (hd_NoNode : PySem.W.hasDictIn K C_NoNode = true) (ty_NoNode : PySem.W.typeIn K (.ref C_NoNode) = some (.type "type")) (be_NoNode : PySem.W.subIn K (.ref C_NoNode) (.type "BaseException") = some true) (vb_NoNode : PySem.W.subIn K (.ref C_NoNode) (.type "ValueError") = some true)
    {nm_NoNode q_NoNode : Str} {N_NoNode : Addr} {bs_NoNode bm_NoNode : List Value} {sn_NoNode : List Str} {sub_NoNode : List Value} {ab_NoNode : Bool} {col_NoNode : Option Bool} {dd_NoNode : Option Addr} {k0_NoNode k1_NoNode k2_NoNode k3_NoNode k5_NoNode : Option Value} (lx_NoNode : K.lookup C_NoNode = some (excClassObj nm_NoNode q_NoNode C_NoNode N_NoNode bs_NoNode bm_NoNode true sn_NoNode sub_NoNode ab_NoNode col_NoNode dd_NoNode k0_NoNode k1_NoNode k2_NoNode k3_NoNode k5_NoNode "ValueError.__new__")) (rv_NoNode : PySem.HandSPX.refsVE bm_NoNode = true)
    (sa_NoNode : PySem.W.findIn K (.ref C_NoNode) "__setattr__" = some (some (.builtin "object.__setattr__"))) (kc_NoNode : PySem.W.keepIn K (.ref C_NoNode) = true) (ga_NoNode : PySem.W.findIn K (.ref C_NoNode) "__getattribute__" = some (some (.builtin "BaseException.__getattribute__"))) (gg_NoNode : PySem.W.findIn K (.ref C_NoNode) "__getattr__" = some none) (ca_NoNode : PySem.W.findIn K (.ref C_NoNode) "__class__" = some (some (.builtin "object.__class__"))) (cg_NoNode : PySem.W.specialIn K (.builtin "object.__class__") "__get__" = some (some (.builtin "getset_descriptor.__get__"))) (ck_NoNode : PySem.W.takesIn K (.builtin "object.__class__") = some true) (mo_NoNode : PySem.W.mroIn K C_NoNode (.type "object") = some true)
    {od_NoNode___init__ an_NoNode___init__ : Option Addr} {sl_NoNode___init__ : Array (Option Value)} {oc_NoNode___init__ kV_NoNode___init__ dc_NoNode___init__ pm_NoNode___init__ cd_NoNode___init__ ct_NoNode___init__ : Value} (iC_NoNode : PySem.W.findIn K (.ref C_NoNode) "__init__" = some (some (.ref f_NoNode___init__))) (tI_NoNode : PySem.W.typeIn K (.ref f_NoNode___init__) = some (.type "function"))
    (l_NoNode___init__ : K.lookup f_NoNode___init__ = some ⟨oc_NoNode___init__, od_NoNode___init__, .func (PySem.W.fnOf "__init__" "NoNode.__init__" (defArgs s_NoNode___init__) (defBody s_NoNode___init__) (defScope s_NoNode___init__) .none kV_NoNode___init__ dc_NoNode___init__ pm_NoNode___init__ an_NoNode___init__ cd_NoNode___init__ ct_NoNode___init__), sl_NoNode___init__⟩) (c_NoNode___init__ : PySem.W.codeIn K cd_NoNode___init__ "NoNode.__init__" = true) (k_NoNode___init__ : PySem.W.keepIn K (.ref f_NoNode___init__) = true)
    (nf_NoNode_mark : PySem.W.findIn K (.ref C_NoNode) "mark" = some none)
    (ne_TooMany_ScreenError : C_TooMany ≠ C_ScreenError) (s_TooMany_ScreenError : PySem.W.subIn K (.ref C_TooMany) (.ref C_ScreenError) = some true)
    (ne_TooMany_TwiceMarked : C_TooMany ≠ C_TwiceMarked) (s_TooMany_TwiceMarked : PySem.W.subIn K (.ref C_TooMany) (.ref C_TwiceMarked) = some false)
    (ne_TooMany_NoNode : C_TooMany ≠ C_NoNode) (s_TooMany_NoNode : PySem.W.subIn K (.ref C_TooMany) (.ref C_NoNode) = some false)
    (ne_TwiceMarked_ScreenError : C_TwiceMarked ≠ C_ScreenError) (s_TwiceMarked_ScreenError : PySem.W.subIn K (.ref C_TwiceMarked) (.ref C_ScreenError) = some true)
    (ne_TwiceMarked_TooMany : C_TwiceMarked ≠ C_TooMany) (s_TwiceMarked_TooMany : PySem.W.subIn K (.ref C_TwiceMarked) (.ref C_TooMany) = some false)
    (ne_TwiceMarked_NoNode : C_TwiceMarked ≠ C_NoNode) (s_TwiceMarked_NoNode : PySem.W.subIn K (.ref C_TwiceMarked) (.ref C_NoNode) = some false)
    (ne_NoNode_ScreenError : C_NoNode ≠ C_ScreenError) (s_NoNode_ScreenError : PySem.W.subIn K (.ref C_NoNode) (.ref C_ScreenError) = some true)
    (ne_NoNode_TooMany : C_NoNode ≠ C_TooMany) (s_NoNode_TooMany : PySem.W.subIn K (.ref C_NoNode) (.ref C_TooMany) = some false)
    (ne_NoNode_TwiceMarked : C_NoNode ≠ C_TwiceMarked) (s_NoNode_TwiceMarked : PySem.W.subIn K (.ref C_NoNode) (.ref C_TwiceMarked) = some false)
    {t_MOST_NODES : Tok} (z_MOST_NODES : PySem.W.nsIn K mainGlobals "MOST_NODES" = some (some (.int 400 t_MOST_NODES)))
    (z_ValueError : PySem.W.nsIn K mainGlobals "ValueError" = some none)
    (z_abs : PySem.W.nsIn K mainGlobals "abs" = some none)
    (z_enumerate : PySem.W.nsIn K mainGlobals "enumerate" = some none)
    (z_int : PySem.W.nsIn K mainGlobals "int" = some none)
    (z_isinstance : PySem.W.nsIn K mainGlobals "isinstance" = some none)
    (z_iter : PySem.W.nsIn K mainGlobals "iter" = some none)
    (z_len : PySem.W.nsIn K mainGlobals "len" = some none)
    (z_max : PySem.W.nsIn K mainGlobals "max" = some none)
    (z_range : PySem.W.nsIn K mainGlobals "range" = some none)
    (z_set : PySem.W.nsIn K mainGlobals "set" = some none)
    (z_str : PySem.W.nsIn K mainGlobals "str" = some none)
    (z_sum : PySem.W.nsIn K mainGlobals "sum" = some none)
    (z_tuple : PySem.W.nsIn K mainGlobals "tuple" = some none) :
    ∃ fd : FuncData, (∀ (s : Shared) (v : Value), BindsTo s fd ⟨[v], []⟩ [("_law_script", v)]) ∧ ∀ base : Heap, K.In base → base.Ns mainGlobals mg → FnOk l.prog w K mg base CX0 72 fa fd ["_law_script"] (sp_law K) := by
  have e := hfa.symm.trans (PySem.W.mg_of X G a_law)
  cases e
  let T : Txt K mg := { f__wall := f__wall, d__wall := _, F__wall := fun_mk (st := s__wall) l__wall c__wall k__wall, b__wall := (fun_mk (st := s__wall) l__wall c__wall k__wall).binds fun _ _ _ _ _ _ us hl => match us, hl with | [_], _ => rfl, g__wall := PySem.W.mg_of X G a__wall, f_measure := f_measure, d_measure := _, F_measure := fun_mk (st := s_measure) l_measure c_measure k_measure, b_measure := (fun_mk (st := s_measure) l_measure c_measure k_measure).binds fun _ _ _ _ _ _ us hl => match us, hl with | [_, _], _ => rfl, g_measure := PySem.W.mg_of X G a_measure, f__measured := f__measured, d__measured := _, F__measured := fun_mk (st := s__measured) l__measured c__measured k__measured, b__measured := (fun_mk (st := s__measured) l__measured c__measured k__measured).binds fun _ _ _ _ _ _ us hl => match us, hl with | [_], _ => rfl, g__measured := PySem.W.mg_of X G a__measured, f__rectangles := f__rectangles, d__rectangles := _, F__rectangles := fun_mk (st := s__rectangles) l__rectangles c__rectangles k__rectangles, b__rectangles := (fun_mk (st := s__rectangles) l__rectangles c__rectangles k__rectangles).binds fun _ _ _ _ _ _ us hl => match us, hl with | [_, _, _, _], _ => rfl, g__rectangles := PySem.W.mg_of X G a__rectangles, f__holds := f__holds, d__holds := _, F__holds := fun_mk (st := s__holds) l__holds c__holds k__holds, b__holds := (fun_mk (st := s__holds) l__holds c__holds k__holds).binds fun _ _ _ _ _ _ us hl => match us, hl with | [_, _, _], _ => rfl, g__holds := PySem.W.mg_of X G a__holds, f_nodes_in := f_nodes_in, d_nodes_in := _, F_nodes_in := fun_mk (st := s_nodes_in) l_nodes_in c_nodes_in k_nodes_in, b_nodes_in := (fun_mk (st := s_nodes_in) l_nodes_in c_nodes_in k_nodes_in).binds fun _ _ _ _ _ _ us hl => match us, hl with | [_], _ => rfl, g_nodes_in := PySem.W.mg_of X G a_nodes_in, f_first_twice := f_first_twice, d_first_twice := _, F_first_twice := fun_mk (st := s_first_twice) l_first_twice c_first_twice k_first_twice, b_first_twice := (fun_mk (st := s_first_twice) l_first_twice c_first_twice k_first_twice).binds fun _ _ _ _ _ _ us hl => match us, hl with | [_, _], _ => rfl, g_first_twice := PySem.W.mg_of X G a_first_twice, f__law_mixed := f__law_mixed, d__law_mixed := _, F__law_mixed := fun_mk (st := s__law_mixed) l__law_mixed c__law_mixed k__law_mixed, b__law_mixed := (fun_mk (st := s__law_mixed) l__law_mixed c__law_mixed k__law_mixed).binds fun _ _ _ _ _ _ us hl => match us, hl with | [_, _], _ => rfl, g__law_mixed := PySem.W.mg_of X G a__law_mixed, f__law_bag := f__law_bag, d__law_bag := _, F__law_bag := fun_mk (st := s__law_bag) l__law_bag c__law_bag k__law_bag, b__law_bag := (fun_mk (st := s__law_bag) l__law_bag c__law_bag k__law_bag).binds fun _ _ _ _ _ _ us hl => match us, hl with | [_], _ => rfl, g__law_bag := PySem.W.mg_of X G a__law_bag, f__law_pick := f__law_pick, d__law_pick := _, F__law_pick := fun_mk (st := s__law_pick) l__law_pick c__law_pick k__law_pick, b__law_pick := (fun_mk (st := s__law_pick) l__law_pick c__law_pick k__law_pick).binds fun _ _ _ _ _ _ us hl => match us, hl with | [_, _], _ => rfl, g__law_pick := PySem.W.mg_of X G a__law_pick, f__law_choice := f__law_choice, d__law_choice := _, F__law_choice := fun_mk (st := s__law_choice) l__law_choice c__law_choice k__law_choice, b__law_choice := (fun_mk (st := s__law_choice) l__law_choice c__law_choice k__law_choice).binds fun _ _ _ _ _ _ us hl => match us, hl with | [_, _], _ => rfl, g__law_choice := PySem.W.mg_of X G a__law_choice, f__law_text := f__law_text, d__law_text := _, F__law_text := fun_mk (st := s__law_text) l__law_text c__law_text k__law_text, b__law_text := (fun_mk (st := s__law_text) l__law_text c__law_text k__law_text).binds fun _ _ _ _ _ _ us hl => match us, hl with | [_, _, _], _ => rfl, g__law_text := PySem.W.mg_of X G a__law_text, f__law_label := f__law_label, d__law_label := _, F__law_label := fun_mk (st := s__law_label) l__law_label c__law_label k__law_label, b__law_label := (fun_mk (st := s__law_label) l__law_label c__law_label k__law_label).binds fun _ _ _ _ _ _ us hl => match us, hl with | [_], _ => rfl, g__law_label := PySem.W.mg_of X G a__law_label, f__law_marks := f__law_marks, d__law_marks := _, F__law_marks := fun_mk (st := s__law_marks) l__law_marks c__law_marks k__law_marks, b__law_marks := (fun_mk (st := s__law_marks) l__law_marks c__law_marks k__law_marks).binds fun _ _ _ _ _ _ us hl => match us, hl with | [_, _], _ => rfl, g__law_marks := PySem.W.mg_of X G a__law_marks, f__law_flat := f__law_flat, d__law_flat := _, F__law_flat := fun_mk (st := s__law_flat) l__law_flat c__law_flat k__law_flat, b__law_flat := (fun_mk (st := s__law_flat) l__law_flat c__law_flat k__law_flat).binds fun _ _ _ _ _ _ us hl => match us, hl with | [_, _, _], _ => rfl, g__law_flat := PySem.W.mg_of X G a__law_flat, f__law_grown := f__law_grown, d__law_grown := _, F__law_grown := fun_mk (st := s__law_grown) l__law_grown c__law_grown k__law_grown, b__law_grown := (fun_mk (st := s__law_grown) l__law_grown c__law_grown k__law_grown).binds fun _ _ _ _ _ _ us hl => match us, hl with | [_], _ => rfl, g__law_grown := PySem.W.mg_of X G a__law_grown, f__law_picture := f__law_picture, d__law_picture := _, F__law_picture := fun_mk (st := s__law_picture) l__law_picture c__law_picture k__law_picture, b__law_picture := (fun_mk (st := s__law_picture) l__law_picture c__law_picture k__law_picture).binds fun _ _ _ _ _ _ us hl => match us, hl with | [_], _ => rfl, g__law_picture := PySem.W.mg_of X G a__law_picture, f__law_lines_of := f__law_lines_of, d__law_lines_of := _, F__law_lines_of := fun_mk (st := s__law_lines_of) l__law_lines_of c__law_lines_of k__law_lines_of, b__law_lines_of := (fun_mk (st := s__law_lines_of) l__law_lines_of c__law_lines_of k__law_lines_of).binds fun _ _ _ _ _ _ us hl => match us, hl with | [_, _, _], _ => rfl, g__law_lines_of := PySem.W.mg_of X G a__law_lines_of, f__law_tree := f__law_tree, d__law_tree := _, F__law_tree := fun_mk (st := s__law_tree) l__law_tree c__law_tree k__law_tree, b__law_tree := (fun_mk (st := s__law_tree) l__law_tree c__law_tree k__law_tree).binds fun _ _ _ _ _ _ us hl => match us, hl with | [_], _ => rfl, g__law_tree := PySem.W.mg_of X G a__law_tree, f__law_holds := f__law_holds, d__law_holds := _, F__law_holds := fun_mk (st := s__law_holds) l__law_holds c__law_holds k__law_holds, b__law_holds := (fun_mk (st := s__law_holds) l__law_holds c__law_holds k__law_holds).binds fun _ _ _ _ _ _ us hl => match us, hl with | [_, _, _], _ => rfl, g__law_holds := PySem.W.mg_of X G a__law_holds, f_law := fa, d_law := _, F_law := fun_mk (st := s_law) l_law c_law k_law, b_law := (fun_mk (st := s_law) l_law c_law k_law).binds fun _ _ _ _ _ _ us hl => match us, hl with | [_], _ => rfl, g_law := PySem.W.mg_of X G a_law, C_Laid := C_Laid, g_Laid := PySem.W.mg_of X G aC_Laid, cl_Laid := ⟨pg_Laid, hd_Laid, po_Laid, sa_Laid⟩, mk_Laid := mk_Laid, kc_Laid := kc_Laid, nf_Laid := nf_Laid, in_Laid := ⟨⟨pg_Laid, hd_Laid, po_Laid, sa_Laid⟩, ih_Laid, ig_Laid, it_Laid, io_Laid, ik_Laid⟩, ns_Laid := ns_Laid, nA_Laid__page := nA_Laid__page, nA_Laid__places := nA_Laid__places, nA_Laid__told := nA_Laid__told, f_Laid___init__ := f_Laid___init__, d_Laid___init__ := _, F_Laid___init__ := fun_mk (st := s_Laid___init__) l_Laid___init__ c_Laid___init__ k_Laid___init__, b_Laid___init__ := (fun_mk (st := s_Laid___init__) l_Laid___init__ c_Laid___init__ k_Laid___init__).binds fun _ _ _ _ _ _ us hl => match us, hl with | [_, _], _ => rfl, a_Laid___init__ := a_Laid___init__, i_Laid___init__ := i_Laid___init__, n_Laid___init__ := n_Laid___init__, f_Laid__keep := f_Laid__keep, d_Laid__keep := _, F_Laid__keep := fun_mk (st := s_Laid__keep) l_Laid__keep c_Laid__keep k_Laid__keep, b_Laid__keep := (fun_mk (st := s_Laid__keep) l_Laid__keep c_Laid__keep k_Laid__keep).binds fun _ _ _ _ _ _ us hl => match us, hl with | [_, _, _], _ => rfl, a_Laid__keep := a_Laid__keep, i_Laid__keep := i_Laid__keep, n_Laid__keep := n_Laid__keep, f_Laid_page := f_Laid_page, d_Laid_page := _, F_Laid_page := fun_mk (st := s_Laid_page) l_Laid_page c_Laid_page k_Laid_page, b_Laid_page := (fun_mk (st := s_Laid_page) l_Laid_page c_Laid_page k_Laid_page).binds fun _ _ _ _ _ _ us hl => match us, hl with | [_], _ => rfl, p_Laid_page := p_Laid_page, P_Laid_page := ⟨a_Laid_page, ge_Laid_page, ta_Laid_page, ⟨_, re1_Laid_page⟩⟩, f_Laid_size := f_Laid_size, d_Laid_size := _, F_Laid_size := fun_mk (st := s_Laid_size) l_Laid_size c_Laid_size k_Laid_size, b_Laid_size := (fun_mk (st := s_Laid_size) l_Laid_size c_Laid_size k_Laid_size).binds fun _ _ _ _ _ _ us hl => match us, hl with | [_], _ => rfl, p_Laid_size := p_Laid_size, P_Laid_size := ⟨a_Laid_size, ge_Laid_size, ta_Laid_size, ⟨_, re1_Laid_size⟩⟩, f_Laid___getitem__ := f_Laid___getitem__, d_Laid___getitem__ := _, F_Laid___getitem__ := fun_mk (st := s_Laid___getitem__) l_Laid___getitem__ c_Laid___getitem__ k_Laid___getitem__, b_Laid___getitem__ := (fun_mk (st := s_Laid___getitem__) l_Laid___getitem__ c_Laid___getitem__ k_Laid___getitem__).binds fun _ _ _ _ _ _ us hl => match us, hl with | [_, _], _ => rfl, a_Laid___getitem__ := a_Laid___getitem__, i_Laid___getitem__ := i_Laid___getitem__, n_Laid___getitem__ := n_Laid___getitem__, f_Laid___iter__ := f_Laid___iter__, d_Laid___iter__ := _, F_Laid___iter__ := fun_mk (st := s_Laid___iter__) l_Laid___iter__ c_Laid___iter__ k_Laid___iter__, b_Laid___iter__ := (fun_mk (st := s_Laid___iter__) l_Laid___iter__ c_Laid___iter__ k_Laid___iter__).binds fun _ _ _ _ _ _ us hl => match us, hl with | [_], _ => rfl, a_Laid___iter__ := a_Laid___iter__, i_Laid___iter__ := i_Laid___iter__, n_Laid___iter__ := n_Laid___iter__, f_Laid_hit := f_Laid_hit, d_Laid_hit := _, F_Laid_hit := fun_mk (st := s_Laid_hit) l_Laid_hit c_Laid_hit k_Laid_hit, b_Laid_hit := (fun_mk (st := s_Laid_hit) l_Laid_hit c_Laid_hit k_Laid_hit).binds fun _ _ _ _ _ _ us hl => match us, hl with | [_, _, _], _ => rfl, a_Laid_hit := a_Laid_hit, i_Laid_hit := i_Laid_hit, n_Laid_hit := n_Laid_hit, f_Laid_take := f_Laid_take, d_Laid_take := _, F_Laid_take := fun_mk (st := s_Laid_take) l_Laid_take c_Laid_take k_Laid_take, b_Laid_take := (fun_mk (st := s_Laid_take) l_Laid_take c_Laid_take k_Laid_take).binds fun _ _ _ _ _ _ us hl => match us, hl with | [_, _], _ => rfl, a_Laid_take := a_Laid_take, i_Laid_take := i_Laid_take, n_Laid_take := n_Laid_take, li_Laid := ⟨a_Laid___iter__, i_Laid___iter__, nl_Laid, nh_Laid⟩, C_Page := C_Page, g_Page := PySem.W.mg_of X G aC_Page, cl_Page := ⟨pg_Page, hd_Page, po_Page, sa_Page⟩, mk_Page := mk_Page, kc_Page := kc_Page, nf_Page := nf_Page, in_Page := ⟨⟨pg_Page, hd_Page, po_Page, sa_Page⟩, ih_Page, ig_Page, it_Page, io_Page, ik_Page⟩, ns_Page := ns_Page, nA_Page__nodes := nA_Page__nodes, nA_Page__parents := nA_Page__parents, nA_Page__root := nA_Page__root, f_Page___init__ := f_Page___init__, d_Page___init__ := _, F_Page___init__ := fun_mk (st := s_Page___init__) l_Page___init__ c_Page___init__ k_Page___init__, b_Page___init__ := (fun_mk (st := s_Page___init__) l_Page___init__ c_Page___init__ k_Page___init__).binds fun _ _ _ _ _ _ us hl => match us, hl with | [_, _], _ => rfl, a_Page___init__ := a_Page___init__, i_Page___init__ := i_Page___init__, n_Page___init__ := n_Page___init__, f_Page_top := f_Page_top, d_Page_top := _, F_Page_top := fun_mk (st := s_Page_top) l_Page_top c_Page_top k_Page_top, b_Page_top := (fun_mk (st := s_Page_top) l_Page_top c_Page_top k_Page_top).binds fun _ _ _ _ _ _ us hl => match us, hl with | [_], _ => rfl, p_Page_top := p_Page_top, P_Page_top := ⟨a_Page_top, ge_Page_top, ta_Page_top, ⟨_, re1_Page_top⟩⟩, f_Page_shown := f_Page_shown, d_Page_shown := _, F_Page_shown := fun_mk (st := s_Page_shown) l_Page_shown c_Page_shown k_Page_shown, b_Page_shown := (fun_mk (st := s_Page_shown) l_Page_shown c_Page_shown k_Page_shown).binds fun _ _ _ _ _ _ us hl => match us, hl with | [_], _ => rfl, p_Page_shown := p_Page_shown, P_Page_shown := ⟨a_Page_shown, ge_Page_shown, ta_Page_shown, ⟨_, re1_Page_shown⟩⟩, f_Page___getitem__ := f_Page___getitem__, d_Page___getitem__ := _, F_Page___getitem__ := fun_mk (st := s_Page___getitem__) l_Page___getitem__ c_Page___getitem__ k_Page___getitem__, b_Page___getitem__ := (fun_mk (st := s_Page___getitem__) l_Page___getitem__ c_Page___getitem__ k_Page___getitem__).binds fun _ _ _ _ _ _ us hl => match us, hl with | [_, _], _ => rfl, a_Page___getitem__ := a_Page___getitem__, i_Page___getitem__ := i_Page___getitem__, n_Page___getitem__ := n_Page___getitem__, f_Page___contains__ := f_Page___contains__, d_Page___contains__ := _, F_Page___contains__ := fun_mk (st := s_Page___contains__) l_Page___contains__ c_Page___contains__ k_Page___contains__, b_Page___contains__ := (fun_mk (st := s_Page___contains__) l_Page___contains__ c_Page___contains__ k_Page___contains__).binds fun _ _ _ _ _ _ us hl => match us, hl with | [_, _], _ => rfl, a_Page___contains__ := a_Page___contains__, i_Page___contains__ := i_Page___contains__, n_Page___contains__ := n_Page___contains__, f_Page___iter__ := f_Page___iter__, d_Page___iter__ := _, F_Page___iter__ := fun_mk (st := s_Page___iter__) l_Page___iter__ c_Page___iter__ k_Page___iter__, b_Page___iter__ := (fun_mk (st := s_Page___iter__) l_Page___iter__ c_Page___iter__ k_Page___iter__).binds fun _ _ _ _ _ _ us hl => match us, hl with | [_], _ => rfl, a_Page___iter__ := a_Page___iter__, i_Page___iter__ := i_Page___iter__, n_Page___iter__ := n_Page___iter__, f_Page___eq__ := f_Page___eq__, d_Page___eq__ := _, F_Page___eq__ := fun_mk (st := s_Page___eq__) l_Page___eq__ c_Page___eq__ k_Page___eq__, b_Page___eq__ := (fun_mk (st := s_Page___eq__) l_Page___eq__ c_Page___eq__ k_Page___eq__).binds fun _ _ _ _ _ _ us hl => match us, hl with | [_, _], _ => rfl, a_Page___eq__ := a_Page___eq__, i_Page___eq__ := i_Page___eq__, n_Page___eq__ := n_Page___eq__, f_Page_parent := f_Page_parent, d_Page_parent := _, F_Page_parent := fun_mk (st := s_Page_parent) l_Page_parent c_Page_parent k_Page_parent, b_Page_parent := (fun_mk (st := s_Page_parent) l_Page_parent c_Page_parent k_Page_parent).binds fun _ _ _ _ _ _ us hl => match us, hl with | [_, _], _ => rfl, a_Page_parent := a_Page_parent, i_Page_parent := i_Page_parent, n_Page_parent := n_Page_parent, li_Page := ⟨a_Page___iter__, i_Page___iter__, nl_Page, nh_Page⟩, C_ScreenError := C_ScreenError, g_ScreenError := PySem.W.mg_of X G aC_ScreenError, hd_ScreenError := hd_ScreenError, ty_ScreenError := ty_ScreenError, be_ScreenError := be_ScreenError, vb_ScreenError := vb_ScreenError, C_TooMany := C_TooMany, g_TooMany := PySem.W.mg_of X G aC_TooMany, hd_TooMany := hd_TooMany, ty_TooMany := ty_TooMany, be_TooMany := be_TooMany, vb_TooMany := vb_TooMany, ox_TooMany := ⟨⟨_, _, _, _, _, _, _, _, _, _, _, _, _, _, _, lx_TooMany, rv_TooMany⟩, sa_TooMany, be_TooMany, ty_TooMany, kc_TooMany⟩, xf_TooMany := ⟨ga_TooMany, gg_TooMany, be_TooMany, hd_TooMany⟩, is_TooMany := ⟨ga_TooMany, gg_TooMany, be_TooMany, hd_TooMany, ca_TooMany, cg_TooMany, ck_TooMany, mo_TooMany⟩, f_TooMany___init__ := f_TooMany___init__, d_TooMany___init__ := _, F_TooMany___init__ := fun_mk (st := s_TooMany___init__) l_TooMany___init__ c_TooMany___init__ k_TooMany___init__, b_TooMany___init__ := (fun_mk (st := s_TooMany___init__) l_TooMany___init__ c_TooMany___init__ k_TooMany___init__).binds fun _ _ _ _ _ _ us hl => match us, hl with | [_, _], _ => rfl, iC_TooMany := iC_TooMany, tI_TooMany := tI_TooMany, nf_TooMany_count := nf_TooMany_count, C_TwiceMarked := C_TwiceMarked, g_TwiceMarked := PySem.W.mg_of X G aC_TwiceMarked, hd_TwiceMarked := hd_TwiceMarked, ty_TwiceMarked := ty_TwiceMarked, be_TwiceMarked := be_TwiceMarked, vb_TwiceMarked := vb_TwiceMarked, ox_TwiceMarked := ⟨⟨_, _, _, _, _, _, _, _, _, _, _, _, _, _, _, lx_TwiceMarked, rv_TwiceMarked⟩, sa_TwiceMarked, be_TwiceMarked, ty_TwiceMarked, kc_TwiceMarked⟩, xf_TwiceMarked := ⟨ga_TwiceMarked, gg_TwiceMarked, be_TwiceMarked, hd_TwiceMarked⟩, is_TwiceMarked := ⟨ga_TwiceMarked, gg_TwiceMarked, be_TwiceMarked, hd_TwiceMarked, ca_TwiceMarked, cg_TwiceMarked, ck_TwiceMarked, mo_TwiceMarked⟩, f_TwiceMarked___init__ := f_TwiceMarked___init__, d_TwiceMarked___init__ := _, F_TwiceMarked___init__ := fun_mk (st := s_TwiceMarked___init__) l_TwiceMarked___init__ c_TwiceMarked___init__ k_TwiceMarked___init__, b_TwiceMarked___init__ := (fun_mk (st := s_TwiceMarked___init__) l_TwiceMarked___init__ c_TwiceMarked___init__ k_TwiceMarked___init__).binds fun _ _ _ _ _ _ us hl => match us, hl with | [_, _], _ => rfl, iC_TwiceMarked := iC_TwiceMarked, tI_TwiceMarked := tI_TwiceMarked, nf_TwiceMarked_mark := nf_TwiceMarked_mark, C_NoNode := C_NoNode, g_NoNode := PySem.W.mg_of X G aC_NoNode, hd_NoNode := hd_NoNode, ty_NoNode := ty_NoNode, be_NoNode := be_NoNode, vb_NoNode := vb_NoNode, ox_NoNode := ⟨⟨_, _, _, _, _, _, _, _, _, _, _, _, _, _, _, lx_NoNode, rv_NoNode⟩, sa_NoNode, be_NoNode, ty_NoNode, kc_NoNode⟩, xf_NoNode := ⟨ga_NoNode, gg_NoNode, be_NoNode, hd_NoNode⟩, is_NoNode := ⟨ga_NoNode, gg_NoNode, be_NoNode, hd_NoNode, ca_NoNode, cg_NoNode, ck_NoNode, mo_NoNode⟩, f_NoNode___init__ := f_NoNode___init__, d_NoNode___init__ := _, F_NoNode___init__ := fun_mk (st := s_NoNode___init__) l_NoNode___init__ c_NoNode___init__ k_NoNode___init__, b_NoNode___init__ := (fun_mk (st := s_NoNode___init__) l_NoNode___init__ c_NoNode___init__ k_NoNode___init__).binds fun _ _ _ _ _ _ us hl => match us, hl with | [_, _], _ => rfl, iC_NoNode := iC_NoNode, tI_NoNode := tI_NoNode, nf_NoNode_mark := nf_NoNode_mark, ne_TooMany_ScreenError := ne_TooMany_ScreenError, s_TooMany_ScreenError := s_TooMany_ScreenError, ne_TooMany_TwiceMarked := ne_TooMany_TwiceMarked, s_TooMany_TwiceMarked := s_TooMany_TwiceMarked, ne_TooMany_NoNode := ne_TooMany_NoNode, s_TooMany_NoNode := s_TooMany_NoNode, ne_TwiceMarked_ScreenError := ne_TwiceMarked_ScreenError, s_TwiceMarked_ScreenError := s_TwiceMarked_ScreenError, ne_TwiceMarked_TooMany := ne_TwiceMarked_TooMany, s_TwiceMarked_TooMany := s_TwiceMarked_TooMany, ne_TwiceMarked_NoNode := ne_TwiceMarked_NoNode, s_TwiceMarked_NoNode := s_TwiceMarked_NoNode, ne_NoNode_ScreenError := ne_NoNode_ScreenError, s_NoNode_ScreenError := s_NoNode_ScreenError, ne_NoNode_TooMany := ne_NoNode_TooMany, s_NoNode_TooMany := s_NoNode_TooMany, ne_NoNode_TwiceMarked := ne_NoNode_TwiceMarked, s_NoNode_TwiceMarked := s_NoNode_TwiceMarked, t_MOST_NODES := _, c_MOST_NODES := PySem.W.mg_of X G z_MOST_NODES, m_ValueError := PySem.W.mg_none_of X G z_ValueError, m_abs := PySem.W.mg_none_of X G z_abs, m_enumerate := PySem.W.mg_none_of X G z_enumerate, m_int := PySem.W.mg_none_of X G z_int, m_isinstance := PySem.W.mg_none_of X G z_isinstance, m_iter := PySem.W.mg_none_of X G z_iter, m_len := PySem.W.mg_none_of X G z_len, m_max := PySem.W.mg_none_of X G z_max, m_range := PySem.W.mg_none_of X G z_range, m_set := PySem.W.mg_none_of X G z_set, m_str := PySem.W.mg_none_of X G z_str, m_sum := PySem.W.mg_none_of X G z_sum, m_tuple := PySem.W.mg_none_of X G z_tuple }
  exact ⟨_, fun s v => .of_eq rfl, fun base _ _ => ok_law (base := base) T⟩
end D
open PySem PySem.W PyProof.Rows
set_option maxHeartbeats 0 in
theorem PySem.Challenge.cw_drawnanew_k18_whole_points_holds : PySem.Challenge.rw_drawnanew_k18_whole_points.Holds := by
  w_on; o_law; k_head; (case hw => w_witness2)
  k_fill
  refine L2.walk_of (l := PySem.Challenge.rw_drawnanew_k18_whole_points) (n := 63) (k := 72) (x := "_law_script") (CX := fun _ => L2.CX0) (sp := fun w => D.sp_law _) rfl (by decide) rfl ⟨rfl, by decide, by decide⟩ (fun w h Y => PySem.W.kIn_of Y) ?F (fun _ _ a ns hl _ hS => ⟨a, ns, rfl, hS, hl, fun _ => rfl⟩) (fun _ _ _ _ _ h => h)
  case F =>
    intro w mg fa h KX G hmg
    refine' D.all_mk KX G hmg ?a__wall ?l__wall ?c__wall ?k__wall ?a_measure ?l_measure ?c_measure ?k_measure ?a__measured ?l__measured ?c__measured ?k__measured ?a__rectangles ?l__rectangles ?c__rectangles ?k__rectangles ?a__holds ?l__holds ?c__holds ?k__holds ?a_nodes_in ?l_nodes_in ?c_nodes_in ?k_nodes_in ?a_first_twice ?l_first_twice ?c_first_twice ?k_first_twice ?a__law_mixed ?l__law_mixed ?c__law_mixed ?k__law_mixed ?a__law_bag ?l__law_bag ?c__law_bag ?k__law_bag ?a__law_pick ?l__law_pick ?c__law_pick ?k__law_pick ?a__law_choice ?l__law_choice ?c__law_choice ?k__law_choice ?a__law_text ?l__law_text ?c__law_text ?k__law_text ?a__law_label ?l__law_label ?c__law_label ?k__law_label ?a__law_marks ?l__law_marks ?c__law_marks ?k__law_marks ?a__law_flat ?l__law_flat ?c__law_flat ?k__law_flat ?a__law_grown ?l__law_grown ?c__law_grown ?k__law_grown ?a__law_picture ?l__law_picture ?c__law_picture ?k__law_picture ?a__law_lines_of ?l__law_lines_of ?c__law_lines_of ?k__law_lines_of ?a__law_tree ?l__law_tree ?c__law_tree ?k__law_tree ?a__law_holds ?l__law_holds ?c__law_holds ?k__law_holds ?a_law ?l_law ?c_law ?k_law ?aC_Laid ?pg_Laid ?hd_Laid ?po_Laid ?sa_Laid ?mk_Laid ?kc_Laid ?nf_Laid ?ih_Laid ?ig_Laid ?it_Laid ?io_Laid ?ik_Laid ?ns_Laid ?nl_Laid ?nh_Laid ?nA_Laid__page ?nA_Laid__places ?nA_Laid__told ?a_Laid___init__ ?i_Laid___init__ ?n_Laid___init__ ?l_Laid___init__ ?c_Laid___init__ ?k_Laid___init__ ?a_Laid__keep ?i_Laid__keep ?n_Laid__keep ?l_Laid__keep ?c_Laid__keep ?k_Laid__keep ?a_Laid_page ?ge_Laid_page ?ta_Laid_page ?re1_Laid_page ?l_Laid_page ?c_Laid_page ?k_Laid_page ?a_Laid_size ?ge_Laid_size ?ta_Laid_size ?re1_Laid_size ?l_Laid_size ?c_Laid_size ?k_Laid_size ?a_Laid___getitem__ ?i_Laid___getitem__ ?n_Laid___getitem__ ?l_Laid___getitem__ ?c_Laid___getitem__ ?k_Laid___getitem__ ?a_Laid___iter__ ?i_Laid___iter__ ?n_Laid___iter__ ?l_Laid___iter__ ?c_Laid___iter__ ?k_Laid___iter__ ?a_Laid_hit ?i_Laid_hit ?n_Laid_hit ?l_Laid_hit ?c_Laid_hit ?k_Laid_hit ?a_Laid_take ?i_Laid_take ?n_Laid_take ?l_Laid_take ?c_Laid_take ?k_Laid_take ?aC_Page ?pg_Page ?hd_Page ?po_Page ?sa_Page ?mk_Page ?kc_Page ?nf_Page ?ih_Page ?ig_Page ?it_Page ?io_Page ?ik_Page ?ns_Page ?nl_Page ?nh_Page ?nA_Page__nodes ?nA_Page__parents ?nA_Page__root ?a_Page___init__ ?i_Page___init__ ?n_Page___init__ ?l_Page___init__ ?c_Page___init__ ?k_Page___init__ ?a_Page_top ?ge_Page_top ?ta_Page_top ?re1_Page_top ?l_Page_top ?c_Page_top ?k_Page_top ?a_Page_shown ?ge_Page_shown ?ta_Page_shown ?re1_Page_shown ?l_Page_shown ?c_Page_shown ?k_Page_shown ?a_Page___getitem__ ?i_Page___getitem__ ?n_Page___getitem__ ?l_Page___getitem__ ?c_Page___getitem__ ?k_Page___getitem__ ?a_Page___contains__ ?i_Page___contains__ ?n_Page___contains__ ?l_Page___contains__ ?c_Page___contains__ ?k_Page___contains__ ?a_Page___iter__ ?i_Page___iter__ ?n_Page___iter__ ?l_Page___iter__ ?c_Page___iter__ ?k_Page___iter__ ?a_Page___eq__ ?i_Page___eq__ ?n_Page___eq__ ?l_Page___eq__ ?c_Page___eq__ ?k_Page___eq__ ?a_Page_parent ?i_Page_parent ?n_Page_parent ?l_Page_parent ?c_Page_parent ?k_Page_parent ?aC_ScreenError ?hd_ScreenError ?ty_ScreenError ?be_ScreenError ?vb_ScreenError ?aC_TooMany ?hd_TooMany ?ty_TooMany ?be_TooMany ?vb_TooMany ?lx_TooMany ?rv_TooMany ?sa_TooMany ?kc_TooMany ?ga_TooMany ?gg_TooMany ?ca_TooMany ?cg_TooMany ?ck_TooMany ?mo_TooMany ?iC_TooMany ?tI_TooMany ?l_TooMany___init__ ?c_TooMany___init__ ?k_TooMany___init__ ?nf_TooMany_count ?aC_TwiceMarked ?hd_TwiceMarked ?ty_TwiceMarked ?be_TwiceMarked ?vb_TwiceMarked ?lx_TwiceMarked ?rv_TwiceMarked ?sa_TwiceMarked ?kc_TwiceMarked ?ga_TwiceMarked ?gg_TwiceMarked ?ca_TwiceMarked ?cg_TwiceMarked ?ck_TwiceMarked ?mo_TwiceMarked ?iC_TwiceMarked ?tI_TwiceMarked ?l_TwiceMarked___init__ ?c_TwiceMarked___init__ ?k_TwiceMarked___init__ ?nf_TwiceMarked_mark ?aC_NoNode ?hd_NoNode ?ty_NoNode ?be_NoNode ?vb_NoNode ?lx_NoNode ?rv_NoNode ?sa_NoNode ?kc_NoNode ?ga_NoNode ?gg_NoNode ?ca_NoNode ?cg_NoNode ?ck_NoNode ?mo_NoNode ?iC_NoNode ?tI_NoNode ?l_NoNode___init__ ?c_NoNode___init__ ?k_NoNode___init__ ?nf_NoNode_mark ?ne_TooMany_ScreenError ?s_TooMany_ScreenError ?ne_TooMany_TwiceMarked ?s_TooMany_TwiceMarked ?ne_TooMany_NoNode ?s_TooMany_NoNode ?ne_TwiceMarked_ScreenError ?s_TwiceMarked_ScreenError ?ne_TwiceMarked_TooMany ?s_TwiceMarked_TooMany ?ne_TwiceMarked_NoNode ?s_TwiceMarked_NoNode ?ne_NoNode_ScreenError ?s_NoNode_ScreenError ?ne_NoNode_TooMany ?s_NoNode_TooMany ?ne_NoNode_TwiceMarked ?s_NoNode_TwiceMarked ?z_MOST_NODES ?z_ValueError ?z_abs ?z_enumerate ?z_int ?z_isinstance ?z_iter ?z_len ?z_max ?z_range ?z_set ?z_str ?z_sum ?z_tuple
    (case a__wall => k_is); (case l__wall => k_is); (case c__wall => k_is); (case k__wall => k_is); (case a_measure => k_is); (case l_measure => k_is); (case c_measure => k_is); (case k_measure => k_is); (case a__measured => k_is); (case l__measured => k_is); (case c__measured => k_is); (case k__measured => k_is); (case a__rectangles => k_is); (case l__rectangles => k_is); (case c__rectangles => k_is); (case k__rectangles => k_is); (case a__holds => k_is); (case l__holds => k_is); (case c__holds => k_is); (case k__holds => k_is); (case a_nodes_in => k_is); (case l_nodes_in => k_is); (case c_nodes_in => k_is); (case k_nodes_in => k_is); (case a_first_twice => k_is); (case l_first_twice => k_is); (case c_first_twice => k_is); (case k_first_twice => k_is); (case a__law_mixed => k_is); (case l__law_mixed => k_is); (case c__law_mixed => k_is); (case k__law_mixed => k_is); (case a__law_bag => k_is); (case l__law_bag => k_is); (case c__law_bag => k_is); (case k__law_bag => k_is); (case a__law_pick => k_is); (case l__law_pick => k_is); (case c__law_pick => k_is); (case k__law_pick => k_is); (case a__law_choice => k_is); (case l__law_choice => k_is); (case c__law_choice => k_is); (case k__law_choice => k_is); (case a__law_text => k_is); (case l__law_text => k_is); (case c__law_text => k_is); (case k__law_text => k_is); (case a__law_label => k_is); (case l__law_label => k_is); (case c__law_label => k_is); (case k__law_label => k_is); (case a__law_marks => k_is); (case l__law_marks => k_is); (case c__law_marks => k_is); (case k__law_marks => k_is); (case a__law_flat => k_is); (case l__law_flat => k_is); (case c__law_flat => k_is); (case k__law_flat => k_is); (case a__law_grown => k_is); (case l__law_grown => k_is); (case c__law_grown => k_is); (case k__law_grown => k_is); (case a__law_picture => k_is); (case l__law_picture => k_is); (case c__law_picture => k_is); (case k__law_picture => k_is); (case a__law_lines_of => k_is); (case l__law_lines_of => k_is); (case c__law_lines_of => k_is); (case k__law_lines_of => k_is); (case a__law_tree => k_is); (case l__law_tree => k_is); (case c__law_tree => k_is); (case k__law_tree => k_is); (case a__law_holds => k_is); (case l__law_holds => k_is); (case c__law_holds => k_is); (case k__law_holds => k_is); (case a_law => k_is); (case l_law => k_is); (case c_law => k_is); (case k_law => k_is); (case aC_Laid => k_is); (case pg_Laid => k_is); (case hd_Laid => k_is); (case po_Laid => k_is); (case sa_Laid => k_is); (case mk_Laid => k_is); (case kc_Laid => k_is); (case nf_Laid => k_is); (case ih_Laid => k_is); (case ig_Laid => k_is); (case it_Laid => k_is); (case io_Laid => k_is); (case ik_Laid => first | exact rfl | decide +kernel | k_is); (case ns_Laid => k_is); (case nl_Laid => k_is); (case nh_Laid => k_is); (case nA_Laid__page => k_is); (case nA_Laid__places => k_is); (case nA_Laid__told => k_is); (case a_Laid___init__ => k_is); (case i_Laid___init__ => k_is); (case n_Laid___init__ => k_is); (case l_Laid___init__ => k_is); (case c_Laid___init__ => k_is); (case k_Laid___init__ => k_is); (case a_Laid__keep => k_is); (case i_Laid__keep => k_is); (case n_Laid__keep => k_is); (case l_Laid__keep => k_is); (case c_Laid__keep => k_is); (case k_Laid__keep => k_is); (case a_Laid_page => k_is); (case ge_Laid_page => k_is); (case ta_Laid_page => k_is); (case re1_Laid_page => k_is); (case l_Laid_page => k_is); (case c_Laid_page => k_is); (case k_Laid_page => k_is); (case a_Laid_size => k_is); (case ge_Laid_size => k_is); (case ta_Laid_size => k_is); (case re1_Laid_size => k_is); (case l_Laid_size => k_is); (case c_Laid_size => k_is); (case k_Laid_size => k_is); (case a_Laid___getitem__ => k_is); (case i_Laid___getitem__ => k_is); (case n_Laid___getitem__ => k_is); (case l_Laid___getitem__ => k_is); (case c_Laid___getitem__ => k_is); (case k_Laid___getitem__ => k_is); (case a_Laid___iter__ => k_is); (case i_Laid___iter__ => k_is); (case n_Laid___iter__ => k_is); (case l_Laid___iter__ => k_is); (case c_Laid___iter__ => k_is); (case k_Laid___iter__ => k_is); (case a_Laid_hit => k_is); (case i_Laid_hit => k_is); (case n_Laid_hit => k_is); (case l_Laid_hit => k_is); (case c_Laid_hit => k_is); (case k_Laid_hit => k_is); (case a_Laid_take => k_is); (case i_Laid_take => k_is); (case n_Laid_take => k_is); (case l_Laid_take => k_is); (case c_Laid_take => k_is); (case k_Laid_take => k_is); (case aC_Page => k_is); (case pg_Page => k_is); (case hd_Page => k_is); (case po_Page => k_is); (case sa_Page => k_is); (case mk_Page => k_is); (case kc_Page => k_is); (case nf_Page => k_is); (case ih_Page => k_is); (case ig_Page => k_is); (case it_Page => k_is); (case io_Page => k_is); (case ik_Page => first | exact rfl | decide +kernel | k_is); (case ns_Page => k_is); (case nl_Page => k_is); (case nh_Page => k_is); (case nA_Page__nodes => k_is); (case nA_Page__parents => k_is); (case nA_Page__root => k_is); (case a_Page___init__ => k_is); (case i_Page___init__ => k_is); (case n_Page___init__ => k_is); (case l_Page___init__ => k_is); (case c_Page___init__ => k_is); (case k_Page___init__ => k_is); (case a_Page_top => k_is); (case ge_Page_top => k_is); (case ta_Page_top => k_is); (case re1_Page_top => k_is); (case l_Page_top => k_is); (case c_Page_top => k_is); (case k_Page_top => k_is); (case a_Page_shown => k_is); (case ge_Page_shown => k_is); (case ta_Page_shown => k_is); (case re1_Page_shown => k_is); (case l_Page_shown => k_is); (case c_Page_shown => k_is); (case k_Page_shown => k_is); (case a_Page___getitem__ => k_is); (case i_Page___getitem__ => k_is); (case n_Page___getitem__ => k_is); (case l_Page___getitem__ => k_is); (case c_Page___getitem__ => k_is); (case k_Page___getitem__ => k_is); (case a_Page___contains__ => k_is); (case i_Page___contains__ => k_is); (case n_Page___contains__ => k_is); (case l_Page___contains__ => k_is); (case c_Page___contains__ => k_is); (case k_Page___contains__ => k_is); (case a_Page___iter__ => k_is); (case i_Page___iter__ => k_is); (case n_Page___iter__ => k_is); (case l_Page___iter__ => k_is); (case c_Page___iter__ => k_is); (case k_Page___iter__ => k_is); (case a_Page___eq__ => k_is); (case i_Page___eq__ => k_is); (case n_Page___eq__ => k_is); (case l_Page___eq__ => k_is); (case c_Page___eq__ => k_is); (case k_Page___eq__ => k_is); (case a_Page_parent => k_is); (case i_Page_parent => k_is); (case n_Page_parent => k_is); (case l_Page_parent => k_is); (case c_Page_parent => k_is); (case k_Page_parent => k_is); (case aC_ScreenError => k_is); (case hd_ScreenError => k_is); (case ty_ScreenError => k_is); (case be_ScreenError => k_is); (case vb_ScreenError => k_is); (case aC_TooMany => k_is); (case hd_TooMany => k_is); (case ty_TooMany => k_is); (case be_TooMany => k_is); (case vb_TooMany => k_is); (case lx_TooMany => k_is); (case rv_TooMany => decide +kernel); (case sa_TooMany => k_is); (case kc_TooMany => k_is); (case ga_TooMany => k_is); (case gg_TooMany => k_is); (case ca_TooMany => k_is); (case cg_TooMany => k_is); (case ck_TooMany => k_is); (case mo_TooMany => k_is); (case iC_TooMany => k_is); (case tI_TooMany => k_is); (case l_TooMany___init__ => k_is); (case c_TooMany___init__ => k_is); (case k_TooMany___init__ => k_is); (case nf_TooMany_count => k_is); (case aC_TwiceMarked => k_is); (case hd_TwiceMarked => k_is); (case ty_TwiceMarked => k_is); (case be_TwiceMarked => k_is); (case vb_TwiceMarked => k_is); (case lx_TwiceMarked => k_is); (case rv_TwiceMarked => decide +kernel); (case sa_TwiceMarked => k_is); (case kc_TwiceMarked => k_is); (case ga_TwiceMarked => k_is); (case gg_TwiceMarked => k_is); (case ca_TwiceMarked => k_is); (case cg_TwiceMarked => k_is); (case ck_TwiceMarked => k_is); (case mo_TwiceMarked => k_is); (case iC_TwiceMarked => k_is); (case tI_TwiceMarked => k_is); (case l_TwiceMarked___init__ => k_is); (case c_TwiceMarked___init__ => k_is); (case k_TwiceMarked___init__ => k_is); (case nf_TwiceMarked_mark => k_is); (case aC_NoNode => k_is); (case hd_NoNode => k_is); (case ty_NoNode => k_is); (case be_NoNode => k_is); (case vb_NoNode => k_is); (case lx_NoNode => k_is); (case rv_NoNode => decide +kernel); (case sa_NoNode => k_is); (case kc_NoNode => k_is); (case ga_NoNode => k_is); (case gg_NoNode => k_is); (case ca_NoNode => k_is); (case cg_NoNode => k_is); (case ck_NoNode => k_is); (case mo_NoNode => k_is); (case iC_NoNode => k_is); (case tI_NoNode => k_is); (case l_NoNode___init__ => k_is); (case c_NoNode___init__ => k_is); (case k_NoNode___init__ => k_is); (case nf_NoNode_mark => k_is); (case ne_TooMany_ScreenError => decide +kernel); (case s_TooMany_ScreenError => k_is); (case ne_TooMany_TwiceMarked => decide +kernel); (case s_TooMany_TwiceMarked => k_is); (case ne_TooMany_NoNode => decide +kernel); (case s_TooMany_NoNode => k_is); (case ne_TwiceMarked_ScreenError => decide +kernel); (case s_TwiceMarked_ScreenError => k_is); (case ne_TwiceMarked_TooMany => decide +kernel); (case s_TwiceMarked_TooMany => k_is); (case ne_TwiceMarked_NoNode => decide +kernel); (case s_TwiceMarked_NoNode => k_is); (case ne_NoNode_ScreenError => decide +kernel); (case s_NoNode_ScreenError => k_is); (case ne_NoNode_TooMany => decide +kernel); (case s_NoNode_TooMany => k_is); (case ne_NoNode_TwiceMarked => decide +kernel); (case s_NoNode_TwiceMarked => k_is); (case z_MOST_NODES => k_is); (case z_ValueError => k_is); (case z_abs => k_is); (case z_enumerate => k_is); (case z_int => k_is); (case z_isinstance => k_is); (case z_iter => k_is); (case z_len => k_is); (case z_max => k_is); (case z_range => k_is); (case z_set => k_is); (case z_str => k_is); (case z_sum => k_is); (case z_tuple => k_is)

