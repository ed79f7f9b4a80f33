import PyProof.Rows.All
import Wide.All
import OpenK.AllK
import Wide.FinOn
import PyProof.Rows.IntBool
import HandS.ForMost
import HandS.IsInst
import HandS.TupAny
import HandS.Conv
import HandS.More
import HandS.Style
import HandS.Property
import HandS.Star
import HandS.DictComp
import HandS.RaiseMore
import HandS.SetFor
import HandS.SlotsOwn
import HandS.Codes
import KE.GoesEnum
import HandS.Deep
import HandS.Strs
import HandS.ReCall
import HandS.Zip
import HandS.Flow
import HandS.ForExc
import HandS.ExcInit
import HandS.ExcField
import HandS.ExcIs
import KE.KExcIs
import HandS.OwnIter
import HandS.IterNext
import HandS.HotCalls
import HandS.ExcInitHot
import HandS.WordsExc
import PyProof.ReprRoads
import PyProof.ReprBulk
import PyProof.P3Eq
import HandS.IterVal
import HandS.SetKeys
import HandS.Defaults
import OpenK.KMore
import HandS.TryOnly
import HandS.MakeKw
import PyProof.InstEq
import HandS.New0
import PySem.Challenge.RW_drawnanew_k45_fences_let
set_option Elab.async false
set_option linter.all false
set_option maxRecDepth 100000
set_option maxHeartbeats 4000000
namespace D
open PySem PySem.Spec PyProof.Rows L2

/-! ### rules that the layer lacks -/
def bI (b : Bool) : Int := if b = true then 1 else 0
theorem op_mul_ib {X : Cx} : OpR X (binaryOp .Mult) (fun x y H Q => ∃ i k, x = .int i ∧ y = .bl k ∧ Q (.int (i * bI k)) H) := by
  intro pins s σ H x y v u Q I rx ry h
  obtain ⟨i, k, rfl, rfl, q⟩ := h
  obtain ⟨t, rfl⟩ := rx
  cases ry
  exact PySem.IntBool.mul_int_bool ⟨.int (i * bI k), H, I.tok _, ⟨_, rfl⟩, q⟩

/-! ### heaps: M the addresses that may be written -/
abbrev Ms := Addr → Prop
def Sx (M : Ms) (H H' : Hp) : Prop := ∀ a o, ¬ M a → H a = some o → H' a = some o
def one (b : Addr) : Ms := fun a => a = b
def also (M : Ms) (b : Addr) : Ms := fun a => M a ∨ a = b
/-- what may be written stands -/
def Mk (M : Ms) (H : Hp) : Prop := ∀ a, M a → H a ≠ none
theorem Sx.refl {M : Ms} {H : Hp} : Sx M H H := fun _ _ _ h => h
theorem Sx.trans {M : Ms} {H H1 H2 : Hp} (a : Sx M H H1) (b : Sx M H1 H2) : Sx M H H2 := fun c o n h => b c o n (a c o n h)
theorem Sx.le {M N : Ms} {H H' : Hp} (s : Sx M H H') (h : ∀ a, M a → N a) : Sx N H H' := fun a o n e => s a o (fun m => n (h a m)) e
theorem Sx.same {M : Ms} {H H' : Hp} (s : Same H H') : Sx M H H' := fun a o _ e => s a o e
theorem Sx.new {M : Ms} {H : Hp} {p : Addr} {o : HO} (h : H p = none) : Sx M H (upd H p o) := fun a u _ e => by
  rw [upd_ne (ne_of_none e h)]
  exact e
theorem Sx.put {M : Ms} {H : Hp} {p : Addr} {o : HO} (h : M p) : Sx M H (upd H p o) := fun a u n e => by
  rw [upd_ne (fun z => n (by rw [z]; exact h))]
  exact e
theorem same_new {H : Hp} {p : Addr} {o : HO} (h : H p = none) : Same H (upd H p o) := fun a u e => by
  rw [upd_ne (ne_of_none e h)]
  exact e
theorem Mk.step {M : Ms} {H H' : Hp} (m : Mk M H) (h : ∀ a, H a ≠ none → H' a ≠ none) : Mk M H' := fun a z => h a (m a z)
theorem there_new {H : Hp} {p a : Addr} {o : HO} (h : H a ≠ none) : upd H p o a ≠ none := by
  by_cases e : a = p
  · subst e
    rw [upd_same]
    exact fun z => nomatch z
  · rw [upd_ne e]
    exact h
/-- nothing goes -/
def Gr (H H' : Hp) : Prop := ∀ a, H a ≠ none → H' a ≠ none
theorem Gr.refl {H : Hp} : Gr H H := fun _ h => h
theorem Gr.trans {H H1 H2 : Hp} (a : Gr H H1) (b : Gr H1 H2) : Gr H H2 := fun c h => b c (a c h)
theorem Gr.upd {H : Hp} {p : Addr} {o : HO} : Gr H (upd H p o) := fun _ h => there_new h
theorem Gr.same {H H' : Hp} (s : Same H H') : Gr H H' := fun a h => by
  cases e : H a with
  | none => exact absurd e h
  | some o =>
    rw [s a o e]
    exact fun z => nomatch z
theorem Mk.gr {M : Ms} {H H' : Hp} (m : Mk M H) (g : Gr H H') : Mk M H' := fun a z => g a (m a z)
theorem Mk.out {M : Ms} {H : Hp} {p : Addr} (m : Mk M H) (h : H p = none) : ¬ M p := fun z => m p z h
theorem Mk.also {M : Ms} {H : Hp} {p : Addr} (m : Mk M H) (h : H p ≠ none) : Mk (also M p) H := fun a z => by
  rcases z with z | rfl
  · exact m a z
  · exact h
theorem ne_none {H : Hp} {p : Addr} {o : HO} (h : H p = some o) : H p ≠ none := by
  rw [h]
  exact fun z => nomatch z
theorem upd_there {H : Hp} {p : Addr} {o : HO} : upd H p o p ≠ none := by
  rw [upd_same]
  exact fun z => nomatch z

/-! ### lists and tuples that are read -/
theorem sx_rd {M : Ms} {H H' : Hp} {a : Addr} {u : HO} (s : Sx M H H') (n : ¬ M a) (h : Rd H a u) : Rd H' a u := by
  rcases h with h | ⟨o, h⟩
  · exact .inl (s a _ n h)
  · exact .inr ⟨o, s a _ n h⟩
theorem sx_l {K : PySem.W.Frag} {M : Ms} {H H' : Hp} {a : Addr} {xs : List V} (s : Sx M H H') (n : ¬ M a) (h : SqL K H a xs) : SqL K H' a xs := by
  rcases h with h | h
  · exact .inl (sx_rd s n h)
  · exact .inr h
theorem sx_t {K : PySem.W.Frag} {M : Ms} {H H' : Hp} {a : Addr} {xs : List V} (s : Sx M H H') (n : ¬ M a) (h : SqT K H a xs) : SqT K H' a xs := by
  rcases h with h | h
  · exact .inl (sx_rd s n h)
  · exact .inr h

/-! ### data -/
/-- a tuple that stands -/
inductive RdT (H : Hp) (a : Addr) (xs : List V) : Prop
  | inl (h : H a = some (.tup xs))
theorem RdT.rd {H : Hp} {a : Addr} {xs : List V} (h : RdT H a xs) : Rd H a (.tup xs) := h.casesOn fun h => .inl h
theorem RdT.at {H : Hp} {a : Addr} {xs : List V} (h : RdT H a xs) : H a = some (.tup xs) := h.casesOn fun h => h
theorem sx_rt {M : Ms} {H H' : Hp} {a : Addr} {u : List V} (s : Sx M H H') (n : ¬ M a) (h : RdT H a u) : RdT H' a u := .inl (s a _ n h.at)
mutual
inductive Rp (M : Ms) (H : Hp) : V → PyData → Prop
  | non : Rp M H .non .none
  | bl (b : Bool) : Rp M H (.bl b) (.bool b)
  | int (i : Int) : Rp M H (.int i) (.int i)
  | str (x : Str) : Rp M H (.str x) (.str x)
  | lst {a : Addr} {xs : List V} {ds : List PyData} : ¬ M a → Rd H a (.lst xs) → RpAll M H xs ds → Rp M H (.ref a) (.list ds)
  | tup {a : Addr} {xs : List V} {ds : List PyData} : ¬ M a → RdT H a xs → RpAll M H xs ds → Rp M H (.ref a) (.tuple ds)
inductive RpAll (M : Ms) (H : Hp) : List V → List PyData → Prop
  | nil : RpAll M H [] []
  | cons {v : V} {vs : List V} {d : PyData} {ds : List PyData} : Rp M H v d → RpAll M H vs ds → RpAll M H (v :: vs) (d :: ds)
end
section
variable {K : PySem.W.Frag} {M N : Ms} {H H' : Hp}
mutual
theorem Rp.imp (f : ∀ a u, ¬ M a → Rd H a u → ¬ N a) (fl : ∀ a u, ¬ M a → Rd H a u → Rd H' a u) (ft : ∀ a xs, ¬ M a → RdT H a xs → RdT H' a xs) : ∀ (d : PyData) (v : V), Rp M H v d → Rp N H' v d
  | .none, _, h => by cases h; exact .non
  | .bool b, _, h => by cases h; exact .bl b
  | .int i, _, h => by cases h; exact .int i
  | .str x, _, h => by cases h; exact .str x
  | .list ds, _, h => by
    cases h with
    | lst n s r => exact .lst (f _ _ n s) (fl _ _ n s) (RpAll.imp f fl ft ds _ r)
  | .tuple ds, _, h => by
    cases h with
    | tup n s r => exact .tup (f _ _ n s.rd) (ft _ _ n s) (RpAll.imp f fl ft ds _ r)
  | .dict _, _, h => by cases h
theorem RpAll.imp (f : ∀ a u, ¬ M a → Rd H a u → ¬ N a) (fl : ∀ a u, ¬ M a → Rd H a u → Rd H' a u) (ft : ∀ a xs, ¬ M a → RdT H a xs → RdT H' a xs) : ∀ (ds : List PyData) (vs : List V), RpAll M H vs ds → RpAll N H' vs ds
  | [], _, h => by cases h; exact .nil
  | d :: ds, _, h => by
    cases h with
    | cons h1 h2 => exact .cons (Rp.imp f fl ft d _ h1) (RpAll.imp f fl ft ds _ h2)
end
theorem Rp.sx {v : V} {d : PyData} (s : Sx M H H') (h : Rp M H v d) : Rp M H' v d := Rp.imp (fun _ _ n _ => n) (fun _ _ n q => sx_rd s n q) (fun _ _ n q => sx_rt s n q) d v h
theorem RpAll.sx {vs : List V} {ds : List PyData} (s : Sx M H H') (h : RpAll M H vs ds) : RpAll M H' vs ds := RpAll.imp (fun _ _ n _ => n) (fun _ _ n q => sx_rd s n q) (fun _ _ n q => sx_rt s n q) ds vs h
/-- fewer that may be written -/
theorem Rp.less {v : V} {d : PyData} (f : ∀ a, N a → M a) (h : Rp M H v d) : Rp N H v d := Rp.imp (fun a _ n _ m => n (f a m)) (fun _ _ _ q => q) (fun _ _ _ q => q) d v h
theorem RpAll.less {vs : List V} {ds : List PyData} (f : ∀ a, N a → M a) (h : RpAll M H vs ds) : RpAll N H vs ds := RpAll.imp (fun a _ n _ m => n (f a m)) (fun _ _ _ q => q) (fun _ _ _ q => q) ds vs h

/-- an address that no datum reads: nothing stands there -/
theorem sql_kept {a p : Addr} {xs : List V} {o : HO} (h : SqL K H a xs) (n : H p = none) : SqL K (upd H p o) a xs := sx_l (M := fun _ => False) (Sx.new n) (fun z => z) h
theorem sqt_kept {a p : Addr} {xs : List V} {o : HO} (h : SqT K H a xs) (n : H p = none) : SqT K (upd H p o) a xs := sx_t (M := fun _ => False) (Sx.new n) (fun z => z) h

mutual
theorem Rp.dp : ∀ (d : PyData) (v : V), Rp M H v d → Dp K H v d
  | .none, _, h => by cases h; exact .non
  | .bool b, _, h => by cases h; exact .bl b
  | .int i, _, h => by cases h; exact .int i
  | .str x, _, h => by cases h; exact .str x
  | .list ds, _, h => by
    cases h with
    | lst n s r => exact .lst (.inl s) (RpAll.dp ds _ r)
  | .tuple ds, _, h => by
    cases h with
    | tup n s r => exact .tup (.inl s.rd) (RpAll.dp ds _ r)
  | .dict _, _, h => by cases h
theorem RpAll.dp : ∀ (ds : List PyData) (vs : List V), RpAll M H vs ds → DpAll K H vs ds
  | [], _, h => by cases h; exact .nil
  | d :: ds, _, h => by
    cases h with
    | cons h1 h2 => exact .cons (Rp.dp d _ h1) (RpAll.dp ds _ h2)
end
theorem RpAll.length : ∀ {ds : List PyData} {vs : List V}, RpAll M H vs ds → vs.length = ds.length
  | [], _, h => by cases h; rfl
  | d :: ds, _, h => by
    cases h with
    | cons _ h2 =>
      rw [List.length_cons, List.length_cons, RpAll.length h2]
theorem RpAll.get : ∀ {ds : List PyData} {vs : List V} {i : Nat} {v : V}, RpAll M H vs ds → vs[i]? = some v → ∃ d, ds[i]? = some d ∧ Rp M H v d
  | [], _, i, v, h, e => by cases h; simp at e
  | d :: ds, _, 0, v, h, e => by
    cases h with
    | cons h1 _ =>
      have e1 := Option.some.inj e
      subst e1
      exact ⟨d, rfl, h1⟩
  | d :: ds, _, i + 1, v, h, e => by
    cases h with
    | cons _ h2 => exact RpAll.get (i := i) h2 e
theorem RpAll.getD : ∀ {ds : List PyData} {vs : List V} {i : Nat} {d : PyData}, RpAll M H vs ds → ds[i]? = some d → ∃ v, vs[i]? = some v ∧ Rp M H v d
  | [], _, i, v, h, e => by simp at e
  | d :: ds, _, 0, v, h, e => by
    cases h with
    | cons h1 _ =>
      have e1 := Option.some.inj e
      subst e1
      exact ⟨_, rfl, h1⟩
  | d :: ds, _, i + 1, v, h, e => by
    cases h with
    | cons _ h2 => exact RpAll.getD (i := i) h2 e
theorem RpAll.append : ∀ {ds es : List PyData} {vs us : List V}, RpAll M H vs ds → RpAll M H us es → RpAll M H (vs ++ us) (ds ++ es)
  | [], _, _, _, h, g => by cases h; exact g
  | d :: ds, _, _, _, h, g => by
    cases h with
    | cons h1 h2 => exact .cons h1 (RpAll.append h2 g)
theorem RpAll.take : ∀ (n : Nat) {ds : List PyData} {vs : List V}, RpAll M H vs ds → RpAll M H (vs.take n) (ds.take n)
  | 0, _, _, _ => .nil
  | n + 1, [], _, h => by cases h; exact .nil
  | n + 1, d :: ds, _, h => by
    cases h with
    | cons h1 h2 => exact .cons h1 (RpAll.take n h2)
theorem RpAll.drop : ∀ (n : Nat) {ds : List PyData} {vs : List V}, RpAll M H vs ds → RpAll M H (vs.drop n) (ds.drop n)
  | 0, _, _, h => h
  | n + 1, [], _, h => by cases h; exact .nil
  | n + 1, d :: ds, _, h => by
    cases h with
    | cons h1 h2 => exact RpAll.drop n h2
theorem RpAll.one {v : V} {d : PyData} (h : Rp M H v d) : RpAll M H [v] [d] := .cons h .nil
theorem RpAll.eraseIdx : ∀ (n : Nat) {ds : List PyData} {vs : List V}, RpAll M H vs ds → RpAll M H (vs.eraseIdx n) (ds.eraseIdx n)
  | _, [], _, h => by cases h; exact .nil
  | 0, d :: ds, _, h => by
    cases h with
    | cons h1 h2 => exact h2
  | n + 1, d :: ds, _, h => by
    cases h with
    | cons h1 h2 => exact .cons h1 (RpAll.eraseIdx n h2)
theorem RpAll.ints : ∀ (ns : List Int), RpAll M H (ns.map V.int) (ns.map PyData.int)
  | [] => .nil
  | n :: r => .cons (.int n) (RpAll.ints r)
theorem RpAll.ofInts : ∀ {ns : List Int} {vs : List V}, RpAll M H vs (ns.map PyData.int) → vs = ns.map V.int
  | [], _, h => by cases h; rfl
  | n :: r, _, h => by
    cases h with
    | cons h1 h2 =>
      cases h1
      rw [RpAll.ofInts h2]
      rfl
end

/-- a fresh address may be written from now on -/
theorem rd_ne {H : Hp} {a p : Addr} {u : HO} (h : Rd H a u) (n : H p = none) : a ≠ p := fun e => by
  subst e
  rcases h with h | ⟨o, h⟩ <;> rw [n] at h <;> cases h
theorem Rp.fresh {M : Ms} {H : Hp} {p : Addr} (hp : H p = none) : ∀ {d : PyData} {v : V}, Rp M H v d → Rp (also M p) H v d := fun {d v} h => Rp.imp (fun a u n r z => z.elim n fun e => rd_ne r hp e) (fun _ _ _ q => q) (fun _ _ _ q => q) d v h
theorem RpAll.fresh {M : Ms} {H : Hp} {p : Addr} (hp : H p = none) {ds : List PyData} {vs : List V} (h : RpAll M H vs ds) : RpAll (also M p) H vs ds := RpAll.imp (fun a u n r z => z.elim n fun e => rd_ne r hp e) (fun _ _ _ q => q) (fun _ _ _ q => q) ds vs h
theorem also_le {M : Ms} {p : Addr} : ∀ a, M a → also M p a := fun _ h => .inl h

/-! ### the bag of a script's numbers -/
structure Bag (K : PySem.W.Frag) (M : Ms) (H : Hp) (b : Addr) : Prop where
  w : M b
  h : ∃ (n : Addr) (ns : List Int) (p r t s : Int), H b = some (.lst [.ref n, .int p, .int r, .int t, .int s]) ∧ ¬ M n ∧ Rd H n (.lst (ns.map V.int)) ∧ 0 ≤ p ∧ 0 ≤ r
/-- only the object at b has changed -/
def At (b : Addr) (H H' : Hp) : Prop := ∀ a, a ≠ b → H' a = H a
theorem At.upd {b : Addr} {H : Hp} {o : HO} : At b H (upd H b o) := fun _ n => upd_ne n
theorem At.sx {b : Addr} {H H' : Hp} (h : At b H H') : Sx (one b) H H' := fun a o n e => (h a n).trans e
theorem Bag.there {K : PySem.W.Frag} {M : Ms} {H : Hp} {b : Addr} (h : Bag K M H b) : H b ≠ none := by
  obtain ⟨_, n, ns, p, r, t, s, e, _⟩ := h
  exact ne_none e
/-- other things are written, new ones made -/
theorem Bag.keep {K : PySem.W.Frag} {M N : Ms} {H H' : Hp} {b : Addr} (h : Bag K M H b) (s : Sx N H H') (nb : ¬ N b) (le : ∀ a, N a → M a) : Bag K M H' b := by
  obtain ⟨w, n, ns, p, r, t, sd, e, hn, rd, q⟩ := h
  exact ⟨w, n, ns, p, r, t, sd, s _ _ nb e, hn, sx_rd s (fun z => hn (le _ z)) rd, q⟩
theorem Bag.more {K : PySem.W.Frag} {M : Ms} {H : Hp} {b p : Addr} (h : Bag K M H b) (hp : H p = none) : Bag K (also M p) H b := by
  obtain ⟨w, n, ns, q, r, t, sd, e, hn, rd, z⟩ := h
  exact ⟨.inl w, n, ns, q, r, t, sd, e, fun m => m.elim hn fun e => rd_ne rd hp e, rd, z⟩
theorem Bag.less {K : PySem.W.Frag} {M N : Ms} {H : Hp} {b : Addr} (h : Bag K M H b) (w : N b) (f : ∀ a, N a → M a) : Bag K N H b := by
  obtain ⟨_, n, ns, q, r, t, sd, e, hn, rd, z⟩ := h
  exact ⟨w, n, ns, q, r, t, sd, e, fun m => hn (f _ m), rd, z⟩
theorem one_le {M : Ms} {b : Addr} (w : M b) : ∀ a, one b a → M a := fun a e => by
  have e' : a = b := e
  rw [e']
  exact w
/-- a draw: behind it the bag stands, all else too -/
def Dr (K : PySem.W.Frag) (M : Ms) (b : Addr) (H : Hp) (R : PyData → Prop) (Q : VK) : Prop := ∀ v H' d, Sx (one b) H H' → Gr H H' → Bag K M H' b → Rp M H' v d → R d → Q v H'
/-- a def that writes nothing -/
def Pu (M : Ms) (H : Hp) (R : PyData → Prop) (Q : VK) : Prop := ∀ v H' d, Same H H' → Rp M H' v d → R d → Q v H'

/-! ### loops that the layer has no short rule for -/
theorem for_enum {K : PySem.W.Frag} {a : Addr} {xs : List V} {g : TG} {tb : TS} {D : Ends} {σ : L2.St} {H : Hp} (Pv : Nat → L2.St → Hp → Prop) (h0 : Pv 0 σ H) (hl : ∀ i σ H, i ≤ xs.length → Pv i σ H → SqL K H a xs)
    (hs : ∀ i x T σ H, xs[i]? = some x → H T = none → Pv i σ H → g (.ref T) σ (upd H T (.tup [.int (i : Nat), x])) fun σ2 H2 => tb { D with nx := Pv (i + 1), ct := Pv (i + 1), bk := D.nx } σ2 H2) (hd : ∀ σ H, Pv xs.length σ H → D.nx σ H) :
    ∃ W : Nat → Nat → L2.St → Hp → Prop, (∃ m, W 0 m σ H) ∧ ∀ i m σ H, W i m σ H →
      ((Ite K a).stop i H ∧ D.nx σ H) ∨ ((Ite K a).go i H ∧ ∃ N : L2.St → Hp → Prop, (∀ σ' H', N σ' H' → ∃ m', m' < m ∧ W (i + 1) m' σ' H') ∧ ∀ x H', (Ite K a).yld i H x H' → g x σ H' fun σ2 H2 => tb { D with nx := N, ct := N, bk := D.nx } σ2 H2) := by
  refine ⟨fun i m σ H => m = xs.length - i ∧ i ≤ xs.length ∧ Pv i σ H, ⟨xs.length, by simp, Nat.zero_le _, h0⟩, ?_⟩
  rintro i m σ H ⟨rfl, hi, p⟩
  have q := hl i σ H hi p
  by_cases hlt : i < xs.length
  · refine .inr ⟨⟨xs, xs[i], q, by simp [hlt]⟩, Pv (i + 1), fun σ' H' p' => ⟨xs.length - (i + 1), by omega, rfl, hlt, p'⟩, fun x H' y => ?_⟩
    obtain ⟨T, z, rfl, hT, rfl, hz⟩ := y
    exact hs i z T σ _ (hz xs q) hT p
  · have e : i = xs.length := by omega
    subst e
    exact .inl ⟨⟨xs, q, Nat.le_refl _⟩, hd σ H p⟩

theorem seqIx {j n : Nat} (h : j < n) : seqIndex? (j : Int) n = some j := by
  unfold seqIndex?
  have h1 : ¬ ((j : Int) < 0) := by omega
  have h2 : (0 : Int) ≤ (j : Int) := by omega
  have h3 : (j : Int) < (n : Int) := by omega
  simp only [if_neg h1, decide_eq_true h2, decide_eq_true h3, Bool.and_self, if_true, Int.toNat_natCast]
theorem small1000000 {n : Nat} (h : n ≤ 1000000) : n < sizeLine := Nat.lt_of_le_of_lt h (by decide)
theorem At.gr {b : Addr} {H H' : Hp} (h : At b H H') (hb : H' b ≠ none) : Gr H H' := fun a n => by
  by_cases e : a = b
  · rw [e]
    exact hb
  · rw [h a e]
    exact n

/-- what did not stand needs no leave -/
theorem Sx.cut {M : Ms} {H H' : Hp} {p : Addr} (s : Sx (also M p) H H') (n : H p = none) : Sx M H H' := fun a o m e => s a o (fun z => z.elim m fun z => by
  rw [z, n] at e
  cases e) e

theorem str_len (x y : Str) : (x ++ y).length = x.length + y.length := by
  show (x.cps ++ y.cps).size = _
  rw [Array.size_append]
  rfl

theorem log2_10 {v : Int} (h0 : 0 ≤ v) (h1 : v < 10) : v.natAbs.log2 < 1920 := Nat.lt_of_le_of_lt (Nat.log2_le_self _) (by omega)
theorem dig_len {v : Int} (h0 : 0 ≤ v) (h1 : v < 10) : (Str.ofString (toString v)).length = 1 := by
  have h : v = 0 ∨ v = 1 ∨ v = 2 ∨ v = 3 ∨ v = 4 ∨ v = 5 ∨ v = 6 ∨ v = 7 ∨ v = 8 ∨ v = 9 := by omega
  rcases h with rfl | rfl | rfl | rfl | rfl | rfl | rfl | rfl | rfl | rfl <;> decide +kernel
def isLab : V → Bool
  | .str z => decide (z.length ≤ 30)
  | _ => false
theorem lab_all (xs : List V) (h : xs.all isLab = true) : ∀ v ∈ xs, ∃ z : Str, v = V.str z ∧ z.length ≤ 30 := fun v hv => by
  have h1 := List.all_eq_true.mp h v hv
  cases v with
  | str z => exact ⟨z, rfl, of_decide_eq_true h1⟩
  | _ => cases h1

theorem sz2 {x y : V} : [x, y].length ≤ sizeLine := by show 2 ≤ sizeLine; decide
/-! ### sizes of nodes -/
def mx (ns : List Int) : Int := ns.foldl (fun a b => if a < b then b else a) 0
theorem foldmx : ∀ (ns : List Int) (a : Int), a ≤ ns.foldl (fun a b => if a < b then b else a) a ∧ (∀ n ∈ ns, n ≤ ns.foldl (fun a b => if a < b then b else a) a) ∧ (ns.foldl (fun a b => if a < b then b else a) a = a ∨ ns.foldl (fun a b => if a < b then b else a) a ∈ ns)
  | [], a => ⟨Int.le_refl _, (fun _ h => nomatch h), .inl rfl⟩
  | n :: r, a => by
    have ih := foldmx r (if a < n then n else a)
    simp only [List.foldl_cons]
    obtain ⟨h1, h2, h3⟩ := ih
    refine ⟨?_, fun m hm => ?_, ?_⟩
    · split at h1 <;> split <;> omega
    · rcases List.mem_cons.mp hm with rfl | hm
      · split at h1 <;> split <;> omega
      · exact h2 m hm
    · rcases h3 with h3 | h3
      · by_cases c : a < n
        · right
          rw [if_pos c] at h3 ⊢
          rw [h3]
          exact List.mem_cons_self
        · left
          rw [if_neg c] at h3 ⊢
          exact h3
      · exact .inr (List.mem_cons_of_mem _ h3)
theorem mx_of {ns : List Int} {m : Int} (h0 : ∀ n ∈ ns, 0 ≤ n) (hm : m ∈ ns) (hle : ∀ y, y ∈ ns → y ≤ m) : m = mx ns := by
  obtain ⟨h1, h2, h3⟩ := foldmx ns 0
  have a := h2 m hm
  have b := h0 m hm
  unfold mx
  rcases h3 with h3 | h3
  · omega
  · have c := hle _ h3
    omega
theorem mx_take {ns : List Int} {i : Nat} {z : Int} (h : ns[i]? = some z) : mx (ns.take (i + 1)) = if mx (ns.take i) < z then z else mx (ns.take i) := by
  unfold mx
  rw [List.take_add_one, h, List.foldl_append]
  rfl
def sRow : Str := "row"
def sCol : Str := "col"
def szf (z : Str) (ps : List (Int × Int)) : Int × Int :=
  if ps = [] then (if z = sRow ∨ z = sCol then (0, 0) else ((z.length : Int), 1))
  else if z = sRow then ((ps.map (·.1)).sum, mx (ps.map (·.2))) else (mx (ps.map (·.1)), (ps.map (·.2)).sum)
/-- pairs -/
def pD (p : Int × Int) : PyData := .tuple [.int p.1, .int p.2]
theorem Rp.pair {M : Ms} {H : Hp} {v : V} {p : Int × Int} (h : Rp M H v (pD p)) : ∃ t, v = .ref t ∧ Rd H t (.tup [.int p.1, .int p.2]) := by
  cases h with
  | @tup a xs _ n s r =>
    cases r with
    | cons h1 h2 =>
      cases h2 with
      | cons h3 h4 =>
        cases h1
        cases h3
        cases h4
        exact ⟨a, rfl, s.rd⟩
theorem RpAll.pair {M : Ms} {H : Hp} {vs : List V} {ps : List (Int × Int)} {i : Nat} {v : V} (h : RpAll M H vs (ps.map pD)) (hv : vs[i]? = some v) : ∃ p t, ps[i]? = some p ∧ v = .ref t ∧ Rd H t (.tup [.int p.1, .int p.2]) := by
  obtain ⟨d, hd, hr⟩ := h.get hv
  rw [List.getElem?_map] at hd
  obtain ⟨p, hp, rfl⟩ := Option.map_eq_some_iff.mp hd
  obtain ⟨t, e, r⟩ := hr.pair
  exact ⟨p, t, hp, e, r⟩
theorem same_rd {H H' : Hp} {a : Addr} {u : HO} (s : Same H H') (h : Rd H a u) : Rd H' a u := sx_rd (M := fun _ => False) (Sx.same s) (fun z => z) h

/-! ### the layer's rules with the written part named, for comprehensions -/
section
variable {X : Cx} {K : PySem.W.Frag}
theorem ix_listK (h : X.K = K) : IxR X (rIxL K) := by subst h; exact ix_list
theorem ix_tupK (h : X.K = K) : IxR X (rIxT K) := by subst h; exact ix_tup
theorem sl_listK (h : X.K = K) : SlR X (rSlL K) := by subst h; exact sl_list
theorem sl_tupK (h : X.K = K) : SlR X (rSlA K) := by subst h; exact sl_tupA
theorem op_in_seqK (h : X.K = K) : OpR X (compareOp .In) (rIn K false) := by subst h; exact op_in_seq
theorem op_notIn_seqK (h : X.K = K) : OpR X (compareOp .NotIn) (rIn K true) := by subst h; exact op_notIn_seq
theorem op_catAK (h : X.K = K) : OpR X (binaryOp .Add) (rCatA K) := by subst h; exact op_catA
theorem op_eqDK (h : X.K = K) (hu : X.A.units + 64 < cLine) : OpR X (compareOp .Eq) (rEqD K) := by subst h; exact op_eqD hu
theorem op_neDK (h : X.K = K) (hu : X.A.units + 64 < cLine) : OpR X (compareOp .NotEq) (rNeD K) := by subst h; exact op_neD hu
def rLenS (K : PySem.W.Frag) : List V → Hp → VK → Prop := fun xs H Q => ∃ p ys, xs = [.ref p] ∧ (SqL K H p ys ∨ SqT K H p ys) ∧ Q (.int ys.length) H
theorem call_lenK (h : X.K = K) : CallR X (.builtin "len") (rLenS K) := by subst h; exact call_len_seq
def rListS (K : PySem.W.Frag) : List V → Hp → VK → Prop := fun xs H Q => ∃ p ys, xs = [.ref p] ∧ (SqL K H p ys ∨ SqT K H p ys) ∧ ∀ l, H l = none → Q (.ref l) (upd H l (.lst ys))
theorem call_listK (h : X.K = K) : CallR X (.type "list") (rListS K) := by subst h; exact call_list_of
def rTupS (K : PySem.W.Frag) : List V → Hp → VK → Prop := fun xs H Q => ∃ p ys, xs = [.ref p] ∧ ((SqL K H p ys ∧ ∀ l, H l = none → Q (.ref l) (upd H l (.tup ys))) ∨ (SqT K H p ys ∧ Q (.ref p) H))
theorem call_tupleK (h : X.K = K) : CallR X (.type "tuple") (rTupS K) := by subst h; exact call_tuple_of
theorem cr_sumK (h : X.K = K) (hc : X.calm = true) : CallR X (.builtin "sum") (rSum K) := by subst h; exact cr_sum hc
theorem cr_maxK (h : X.K = K) (hc : X.calm = true) : CallR X (.builtin "max") (rMax K) := by subst h; exact cr_max hc
theorem cr_minK (h : X.K = K) (hc : X.calm = true) : CallR X (.builtin "min") (rMin K) := by subst h; exact cr_min hc
theorem cr_anyK (h : X.K = K) (hc : X.calm = true) : CallR X (.builtin "any") (rAny K) := by subst h; exact cr_any hc
theorem cr_allK (h : X.K = K) (hc : X.calm = true) : CallR X (.builtin "all") (rAll K) := by subst h; exact cr_all hc
theorem call_isi1K (h : X.K = K) : CallR X (.builtin "isinstance") (rIsi K) := by subst h; exact call_isi
theorem call_isiTK (h : X.K = K) : CallR X (.builtin "isinstance") (rIsiT K) := by subst h; exact call_isiT
def tTruth (K : PySem.W.Frag) (ta : TE) : TT := fun σ H Q => ta σ H fun x H' => ∃ k, TruV K x H' k ∧ Q k H'
theorem pt_truthK {a : Expr} {ta : TE} (h : X.K = K) (ha : PE X a ta) (he : ∀ whole, isTrue a X.env whole = (do let v ← whole; standAt a.pos; holding [v] (truthy v))) : PT X a (tTruth K ta) := by subst h; exact pt_truth ha he
theorem pe_fldK {e : Expr} {f : Str} {pos : Pos} {ta : TE} (h : X.K = K) (he : PE X e ta) (hb : attributeBase e f X.env (eval e X.env) = eval e X.env) : PE X (.Attribute e f pos) (tFld K ta f) := by subst h; exact pe_fld he hb
theorem pi_listK {tg l : Expr} {tl : TE} (h : X.K = K) (hl : PE X l tl) : PI X tg l (iList K tl) := by subst h; exact pi_list hl
theorem pi_tupK {tg l : Expr} {tl : TE} (h : X.K = K) (hl : PE X l tl) : PI X tg l (iTup K tl) := by subst h; exact pi_tup hl
theorem pg_tupK {es : List Expr} {k : Nat} {t : TGs} {n : Nat} {pos : Pos} (hK : X.K = K) (hc : X.calm = true) (h : PGs X es t)
    (hn : (assignEach es X.env).length = n := by rfl) (hst : (assignEach es X.env).findIdx? (·.1) = none := by rfl) : PG X (.Tuple es k pos) (gTup K n t) := by subst hK; exact pg_tup hc h hn hst
theorem pi_enumK {e : Expr} {ta : TA} {p pos tpos : Pos} {elts : List Expr} {kk : Nat} (hK : X.K = K) (hg : Gl X "enumerate") (hm : X.mg "enumerate" = none) (ha : PA X [e] ta) (hs : starEach [e] X.env = [(false, eval e X.env)] := by rfl) :
    PI X (.Tuple elts kk tpos) (.Call (.Name "enumerate" p) [e] [] pos) (iEnum K ta) := by subst hK; exact pi_enum hg hm ha hs
theorem pi_zipK {e e2 : Expr} {ta : TA} {p pos tpos : Pos} {elts : List Expr} {kk : Nat} (hK : X.K = K) (hg : Gl X "zip") (hm : X.mg "zip" = none) (ha : PA X [e, e2] ta)
    (hs : starEach [e, e2] X.env = (false, eval e X.env) :: starEach [e2] X.env := by rfl) (hpl : (backTo pos (starEach [e2] X.env)).any (·.1) = false := by rfl) :
    PI X (.Tuple elts kk tpos) (.Call (.Name "zip" p) [e, e2] [] pos) (iZip K ta) := by subst hK; exact pi_zip hg hm ha hs hpl
end

/-- a comprehension over a list whose elements make nothing -/
theorem lc_vals {K : PySem.W.Frag} {a : Addr} {xs ys : List V} {g : TG} {tt : TT} {te : TE} {vs : List Nat} {σ : L2.St} {H : Hp} {D : Addr} {Qd : Hp → Prop} (hD : H D = none) (hS : SqL K H a xs) (hn : ys.length = xs.length) (hz : xs.length ≤ 1000000)
    (hs : ∀ (i : Nat) (x y : V) (H' : Hp) (C : VK) (N : Hp → Prop), xs[i]? = some x → ys[i]? = some y → Same H H' → C y H' → g x (wipe σ vs) H' fun σ2 H2 => wipe σ2 vs = wipe σ vs ∧ tt σ2 H2 fun b H3 => if b = true then te σ2 H3 C else N H3)
    (hd : ∀ H', Same H H' → H' D = some (.lst ys) → Qd H') :
    ∃ W : Nat → Nat → Hp → Prop, (∃ m, W 0 m (upd H D (.lst []))) ∧ ∀ i m H, W i m H →
      ((Itl K a).stop i H ∧ Qd H) ∨ ((Itl K a).go i H ∧ ∃ Nx : Hp → Prop, (∀ H', Nx H' → ∃ m', m' < m ∧ W (i + 1) m' H') ∧ ∀ x H', (Itl K a).yld i H x H' → g x (wipe σ vs) H' fun σ2 H2 => wipe σ2 vs = wipe σ vs ∧ tt σ2 H2 fun b H3 =>
        if b = true then te σ2 H3 fun y H4 => ∃ acc, H4 D = some (.lst acc) ∧ acc.length < sizeLine ∧ Nx (upd H4 D (.lst (acc ++ [y]))) else Nx H3) := by
  refine lc_list (K := K) (a := a) (xs := xs) (fun i H' => Same H H' ∧ H' D = some (.lst (ys.take i))) ⟨same_new hD, by rw [upd_same]; rfl⟩ (fun i H' _ p => p.1.seq hS) (fun i x H' hx p => ?_) (fun H' p => ?_)
  · have hi : i < ys.length := by
      rw [hn]
      exact (List.getElem?_eq_some_iff.mp hx).1
    refine hs i x ys[i] H' _ _ hx (List.getElem?_eq_getElem hi) p.1 ⟨_, p.2, ?_, fun c o e => ?_, ?_⟩
    · rw [List.length_take]
      exact small1000000 (by omega)
    · rw [upd_ne (ne_of_none e hD)]
      exact p.1 c o e
    · rw [upd_same, List.take_add_one, List.getElem?_eq_getElem hi]
      rfl
  · refine hd H' p.1 ?_
    have e := p.2
    rw [← hn, List.take_length] at e
    exact e
theorem same_sqt {K : PySem.W.Frag} {H H' : Hp} {a : Addr} {xs : List V} (s : Same H H') (h : SqT K H a xs) : SqT K H' a xs := sx_t (M := fun _ => False) (Sx.same s) (fun z => z) h
/-- a comprehension over a tuple whose elements make nothing -/
theorem lc_valsT {K : PySem.W.Frag} {a : Addr} {xs ys : List V} {g : TG} {tt : TT} {te : TE} {vs : List Nat} {σ : L2.St} {H : Hp} {D : Addr} {Qd : Hp → Prop} (hD : H D = none) (hS : SqT K H a xs) (hn : ys.length = xs.length) (hz : xs.length ≤ 1000000)
    (hs : ∀ (i : Nat) (x y : V) (H' : Hp) (C : VK) (N : Hp → Prop), xs[i]? = some x → ys[i]? = some y → Same H H' → C y H' → g x (wipe σ vs) H' fun σ2 H2 => wipe σ2 vs = wipe σ vs ∧ tt σ2 H2 fun b H3 => if b = true then te σ2 H3 C else N H3)
    (hd : ∀ H', Same H H' → H' D = some (.lst ys) → Qd H') :
    ∃ W : Nat → Nat → Hp → Prop, (∃ m, W 0 m (upd H D (.lst []))) ∧ ∀ i m H, W i m H →
      ((Itt K a).stop i H ∧ Qd H) ∨ ((Itt K a).go i H ∧ ∃ Nx : Hp → Prop, (∀ H', Nx H' → ∃ m', m' < m ∧ W (i + 1) m' H') ∧ ∀ x H', (Itt K a).yld i H x H' → g x (wipe σ vs) H' fun σ2 H2 => wipe σ2 vs = wipe σ vs ∧ tt σ2 H2 fun b H3 =>
        if b = true then te σ2 H3 fun y H4 => ∃ acc, H4 D = some (.lst acc) ∧ acc.length < sizeLine ∧ Nx (upd H4 D (.lst (acc ++ [y]))) else Nx H3) := by
  refine lc_tup (K := K) (a := a) (xs := xs) (fun i H' => Same H H' ∧ H' D = some (.lst (ys.take i))) ⟨same_new hD, by rw [upd_same]; rfl⟩ (fun i H' _ p => same_sqt p.1 hS) (fun i x H' hx p => ?_) (fun H' p => ?_)
  · have hi : i < ys.length := by
      rw [hn]
      exact (List.getElem?_eq_some_iff.mp hx).1
    refine hs i x ys[i] H' _ _ hx (List.getElem?_eq_getElem hi) p.1 ⟨_, p.2, ?_, fun c o e => ?_, ?_⟩
    · rw [List.length_take]
      exact small1000000 (by omega)
    · rw [upd_ne (ne_of_none e hD)]
      exact p.1 c o e
    · rw [upd_same, List.take_add_one, List.getElem?_eq_getElem hi]
      rfl
  · refine hd H' p.1 ?_
    have e := p.2
    rw [← hn, List.take_length] at e
    exact e

/-- two ways meet behind an if without else -/
theorem join2 {b : Bool} {A : Prop} {N : L2.St → Hp → Prop} {σ : L2.St} {H : Hp} (Pv : L2.St → Hp → Prop) (h1 : b = true → (∀ σ H, Pv σ H → N σ H) → A) (h2 : b = false → Pv σ H) (hN : ∀ σ H, Pv σ H → N σ H) : if b = true then A else N σ H := by
  cases b with
  | true =>
    rw [if_pos rfl]
    exact h1 rfl hN
  | false =>
    rw [if_neg Bool.false_ne_true]
    exact hN _ _ (h2 rfl)


theorem RpAll.rep {M : Ms} {H : Hp} {xs : List V} {ds : List PyData} (h : RpAll M H xs ds) : ∀ n : Nat, RpAll M H (List.replicate n xs).flatten (List.replicate n ds).flatten
  | 0 => .nil
  | n + 1 => by
    rw [List.replicate_succ, List.replicate_succ, List.flatten_cons, List.flatten_cons]
    exact h.append (RpAll.rep h n)
theorem Bag.same {K : PySem.W.Frag} {M : Ms} {H H' : Hp} {b : Addr} (h : Bag K M H b) (s : Same H H') : Bag K M H' b := h.keep (N := fun _ => False) (Sx.same s) (fun z => z) (fun _ z => z.elim)
/-- a list of data that may still be written -/
def Ld (M : Ms) (H : Hp) (a : Addr) (ds : List PyData) : Prop := ¬ M a ∧ ∃ xs, H a = some (.lst xs) ∧ RpAll M H xs ds
theorem Ld.rp {M : Ms} {H : Hp} {a : Addr} {ds : List PyData} (h : Ld M H a ds) : Rp M H (.ref a) (.list ds) := by
  obtain ⟨n, xs, e, r⟩ := h
  exact .lst n (.inl e) r
theorem Ld.sx {M : Ms} {H H' : Hp} {a : Addr} {ds : List PyData} (h : Ld M H a ds) (s : Sx M H H') : Ld M H' a ds := by
  obtain ⟨n, xs, e, r⟩ := h
  exact ⟨n, xs, s _ _ n e, r.sx s⟩
theorem Ld.new {M : Ms} {H : Hp} {a : Addr} {xs : List V} {ds : List PyData} (m : Mk M H) (h : H a = none) (r : RpAll M H xs ds) : Ld M (upd H a (.lst xs)) a ds := ⟨m.out h, xs, upd_same, r.sx (Sx.new h)⟩
/-- a comprehension over a list: each element a datum, made on the way -/
theorem lc_data {K : PySem.W.Frag} {a : Addr} {xs : List V} {ys : List PyData} {g : TG} {tt : TT} {te : TE} {vs : List Nat} {σ : L2.St} {H : Hp} {D : Addr} {Qd : Hp → Prop} (M : Ms) (hM : Mk M H) (hD : H D = none) (hS : SqL K H a xs) (hn : ys.length = xs.length) (hz : xs.length ≤ 1000000)
    (hs : ∀ (i : Nat) (x : V) (y : PyData) (H' : Hp) (C : VK) (N : Hp → Prop), xs[i]? = some x → ys[i]? = some y → Same H H' → Mk (also M D) H' → (∀ v H2, Same H' H2 → Rp (also M D) H2 v y → C v H2) → g x (wipe σ vs) H' fun σ2 H2 => wipe σ2 vs = wipe σ vs ∧ tt σ2 H2 fun b H3 => if b = true then te σ2 H3 C else N H3)
    (hd : ∀ H', Same H H' → Ld M H' D ys → Qd H') :
    ∃ W : Nat → Nat → Hp → Prop, (∃ m, W 0 m (upd H D (.lst []))) ∧ ∀ i m H, W i m H →
      ((Itl K a).stop i H ∧ Qd H) ∨ ((Itl K a).go i H ∧ ∃ Nx : Hp → Prop, (∀ H', Nx H' → ∃ m', m' < m ∧ W (i + 1) m' H') ∧ ∀ x H', (Itl K a).yld i H x H' → g x (wipe σ vs) H' fun σ2 H2 => wipe σ2 vs = wipe σ vs ∧ tt σ2 H2 fun b H3 =>
        if b = true then te σ2 H3 fun y H4 => ∃ acc, H4 D = some (.lst acc) ∧ acc.length < sizeLine ∧ Nx (upd H4 D (.lst (acc ++ [y]))) else Nx H3) := by
  refine lc_list (K := K) (a := a) (xs := xs) (fun i H' => Same H H' ∧ ∃ acc, H' D = some (.lst acc) ∧ RpAll (also M D) H' acc (ys.take i)) ⟨same_new hD, [], upd_same, by rw [List.take_zero]; exact .nil⟩ (fun i H' _ p => p.1.seq hS) (fun i x H' hx p => ?_) (fun H' p => ?_)
  · obtain ⟨s, acc, e, r⟩ := p
    have hi : i < ys.length := by
      rw [hn]
      exact (List.getElem?_eq_some_iff.mp hx).1
    have hl := r.length
    rw [List.length_take] at hl
    refine hs i x ys[i] H' _ _ hx (List.getElem?_eq_getElem hi) s ((hM.gr (Gr.same s)).also (ne_none e)) fun v H2 s2 rv => ?_
    refine ⟨acc, s2 _ _ e, small1000000 (by omega), fun c o q => ?_, acc ++ [v], upd_same, ?_⟩
    · rw [upd_ne (ne_of_none q hD)]
      exact s2 _ _ (s c o q)
    · rw [List.take_add_one, List.getElem?_eq_getElem hi]
      exact ((r.sx (Sx.same s2)).append (.one rv)).sx (Sx.put (.inr rfl))
  · obtain ⟨s, acc, e, r⟩ := p
    rw [← hn, List.take_length] at r
    exact hd H' s ⟨hM.out hD, acc, e, r.less also_le⟩

theorem cut_hi (xs : List V) (n : Nat) : cutV xs none (some (n : Int)) = xs.take n := by
  unfold cutV
  rw [show HT.sIx xs.length 0 none = 0 from HT.sIx_none .., show HT.sIx xs.length xs.length (some (n : Int)) = min n xs.length from HT.sIx_nat _ _ n, List.drop_zero, Nat.sub_zero]
  rw [List.take_eq_take_iff]
  omega

theorem szK {n : Nat} (h : Nat.ble n 1000 = true) : n ≤ sizeLine := Nat.le_of_lt (small1000 (Nat.le_of_ble_eq_true h))

/-- what holds behind a statement, said once for all its ways -/
theorem seq_join {t u : TS} {D : Ends} {σ : L2.St} {H : Hp} (Pv : L2.St → Hp → Prop) (h : (∀ σ H, Pv σ H → u D σ H) → t { D with nx := u D } σ H) (hN : ∀ σ H, Pv σ H → u D σ H) : tSeq t u D σ H := h hN

theorem lc_str {z : Str} {g : TG} {tt : TT} {te : TE} {vs : List Nat} {σ : L2.St} {H1 : Hp} {D : Addr} {Qd : Hp → Prop} (Pv : Nat → Hp → Prop) (h0 : Pv 0 (upd H1 D (.lst [])))
    (hs : ∀ i c H, z.cps[i]? = some c → Pv i H → g (.str ⟨#[c]⟩) (wipe σ vs) H fun σ2 H2 => wipe σ2 vs = wipe σ vs ∧ tt σ2 H2 fun b H3 =>
      if b = true then te σ2 H3 fun y H4 => ∃ acc, H4 D = some (.lst acc) ∧ acc.length < sizeLine ∧ Pv (i + 1) (upd H4 D (.lst (acc ++ [y]))) else Pv (i + 1) H3) (hd : ∀ H, Pv z.cps.size H → Qd H) :
    ∃ W : Nat → Nat → Hp → Prop, (∃ m, W 0 m (upd H1 D (.lst []))) ∧ ∀ i m H, W i m H →
      ((Its z).stop i H ∧ Qd H) ∨ ((Its z).go i H ∧ ∃ Nx : Hp → Prop, (∀ H', Nx H' → ∃ m', m' < m ∧ W (i + 1) m' H') ∧ ∀ x H', (Its z).yld i H x H' → g x (wipe σ vs) H' fun σ2 H2 => wipe σ2 vs = wipe σ vs ∧ tt σ2 H2 fun b H3 =>
        if b = true then te σ2 H3 fun y H4 => ∃ acc, H4 D = some (.lst acc) ∧ acc.length < sizeLine ∧ Nx (upd H4 D (.lst (acc ++ [y]))) else Nx H3) := by
  refine ⟨fun i m H => m = z.cps.size - i ∧ i ≤ z.cps.size ∧ Pv i H, ⟨_, rfl, Nat.zero_le _, h0⟩, ?_⟩
  rintro i m H ⟨rfl, hi, p⟩
  by_cases hlt : i < z.cps.size
  · refine .inr ⟨hlt, Pv (i + 1), fun H' p' => ⟨z.cps.size - (i + 1), by omega, rfl, hlt, p'⟩, fun x H' y => ?_⟩
    obtain ⟨e, c, hc, rfl⟩ := y
    subst e
    exact hs i c _ hc p
  · have e : i = z.cps.size := by omega
    subst e
    exact .inl ⟨Nat.le_refl _, hd H p⟩
/-- a comprehension over a text whose elements make nothing -/
theorem lc_valsS {z : Str} {ys : List V} {g : TG} {tt : TT} {te : TE} {vs : List Nat} {σ : L2.St} {H : Hp} {D : Addr} {Qd : Hp → Prop} (hD : H D = none) (hn : ys.length = z.cps.size) (hz : z.cps.size ≤ 1000000)
    (hs : ∀ (i : Nat) (c : Nat) (y : V) (H' : Hp) (C : VK) (N : Hp → Prop), z.cps[i]? = some c → ys[i]? = some y → Same H H' → C y H' → g (.str ⟨#[c]⟩) (wipe σ vs) H' fun σ2 H2 => wipe σ2 vs = wipe σ vs ∧ tt σ2 H2 fun b H3 => if b = true then te σ2 H3 C else N H3)
    (hd : ∀ H', Same H H' → H' D = some (.lst ys) → Qd H') :
    ∃ W : Nat → Nat → Hp → Prop, (∃ m, W 0 m (upd H D (.lst []))) ∧ ∀ i m H, W i m H →
      ((Its z).stop i H ∧ Qd H) ∨ ((Its z).go i H ∧ ∃ Nx : Hp → Prop, (∀ H', Nx H' → ∃ m', m' < m ∧ W (i + 1) m' H') ∧ ∀ x H', (Its z).yld i H x H' → g x (wipe σ vs) H' fun σ2 H2 => wipe σ2 vs = wipe σ vs ∧ tt σ2 H2 fun b H3 =>
        if b = true then te σ2 H3 fun y H4 => ∃ acc, H4 D = some (.lst acc) ∧ acc.length < sizeLine ∧ Nx (upd H4 D (.lst (acc ++ [y]))) else Nx H3) := by
  refine lc_str (z := z) (fun i H' => Same H H' ∧ H' D = some (.lst (ys.take i))) ⟨same_new hD, by rw [upd_same]; rfl⟩ (fun i c H' hc p => ?_) (fun H' p => ?_)
  · have hi : i < ys.length := by
      rw [hn]
      exact (Array.getElem?_eq_some_iff.mp hc).1
    refine hs i c ys[i] H' _ _ hc (List.getElem?_eq_getElem hi) p.1 ⟨_, p.2, ?_, fun c o e => ?_, ?_⟩
    · rw [List.length_take]
      exact small1000000 (by omega)
    · rw [upd_ne (ne_of_none e hD)]
      exact p.1 c o e
    · rw [upd_same, List.take_add_one, List.getElem?_eq_getElem hi]
      rfl
  · refine hd H' p.1 ?_
    have e := p.2
    rw [← hn, List.take_length] at e
    exact e

theorem cut1 (y : V) (r : List V) : cutV (y :: r) (some 1) none = r := by
  unfold cutV
  rw [show HT.sIx (y :: r).length 0 (some 1) = min 1 (y :: r).length from HT.sIx_nat (y :: r).length 0 1, HT.sIx_none]
  rw [show min 1 (y :: r).length = 1 by
      rw [List.length_cons]
      omega]
  show List.take ((y :: r).length - 1) r = r
  rw [List.length_cons, Nat.add_sub_cancel]
  exact List.take_length

theorem rd_ty {K : PySem.W.Frag} {H : Hp} {a : Addr} {xs : List V} (h : Rd H a (.tup xs)) : TyX K H (.ref a) (.type "tuple") := by
  rcases h with h | ⟨o, h⟩
  · exact .base (.tup h)
  · exact .fTuple h
/-- a comprehension over a tuple: each element a datum, made on the way -/
theorem lc_dataT {K : PySem.W.Frag} {a : Addr} {xs : List V} {ys : List PyData} {g : TG} {tt : TT} {te : TE} {vs : List Nat} {σ : L2.St} {H : Hp} {D : Addr} {Qd : Hp → Prop} (M : Ms) (hM : Mk M H) (hD : H D = none) (hS : SqT K H a xs) (hn : ys.length = xs.length) (hz : xs.length ≤ 1000000)
    (hs : ∀ (i : Nat) (x : V) (y : PyData) (H' : Hp) (C : VK) (N : Hp → Prop), xs[i]? = some x → ys[i]? = some y → Same H H' → Mk (also M D) H' → (∀ v H2, Same H' H2 → Rp (also M D) H2 v y → C v H2) → g x (wipe σ vs) H' fun σ2 H2 => wipe σ2 vs = wipe σ vs ∧ tt σ2 H2 fun b H3 => if b = true then te σ2 H3 C else N H3)
    (hd : ∀ H', Same H H' → Ld M H' D ys → Qd H') :
    ∃ W : Nat → Nat → Hp → Prop, (∃ m, W 0 m (upd H D (.lst []))) ∧ ∀ i m H, W i m H →
      ((Itt K a).stop i H ∧ Qd H) ∨ ((Itt K a).go i H ∧ ∃ Nx : Hp → Prop, (∀ H', Nx H' → ∃ m', m' < m ∧ W (i + 1) m' H') ∧ ∀ x H', (Itt K a).yld i H x H' → g x (wipe σ vs) H' fun σ2 H2 => wipe σ2 vs = wipe σ vs ∧ tt σ2 H2 fun b H3 =>
        if b = true then te σ2 H3 fun y H4 => ∃ acc, H4 D = some (.lst acc) ∧ acc.length < sizeLine ∧ Nx (upd H4 D (.lst (acc ++ [y]))) else Nx H3) := by
  refine lc_tup (K := K) (a := a) (xs := xs) (fun i H' => Same H H' ∧ ∃ acc, H' D = some (.lst acc) ∧ RpAll (also M D) H' acc (ys.take i)) ⟨same_new hD, [], upd_same, by rw [List.take_zero]; exact .nil⟩ (fun i H' _ p => same_sqt p.1 hS) (fun i x H' hx p => ?_) (fun H' p => ?_)
  · obtain ⟨s, acc, e, r⟩ := p
    have hi : i < ys.length := by
      rw [hn]
      exact (List.getElem?_eq_some_iff.mp hx).1
    have hl := r.length
    rw [List.length_take] at hl
    refine hs i x ys[i] H' _ _ hx (List.getElem?_eq_getElem hi) s ((hM.gr (Gr.same s)).also (ne_none e)) fun v H2 s2 rv => ?_
    refine ⟨acc, s2 _ _ e, small1000000 (by omega), fun c o q => ?_, acc ++ [v], upd_same, ?_⟩
    · rw [upd_ne (ne_of_none q hD)]
      exact s2 _ _ (s c o q)
    · rw [List.take_add_one, List.getElem?_eq_getElem hi]
      exact ((r.sx (Sx.same s2)).append (.one rv)).sx (Sx.put (.inr rfl))
  · obtain ⟨s, acc, e, r⟩ := p
    rw [← hn, List.take_length] at r
    exact hd H' s ⟨hM.out hD, acc, e, r.less also_le⟩


/-- a list that is made beside stays away -/
theorem same_put {H H' : Hp} {p : Addr} {o : HO} (s : Same H H') (h : H p = none) : Same H (upd H' p o) := fun a u e => by
  rw [upd_ne (ne_of_none e h)]
  exact s a u e
end D

namespace D
open PySem PySem.Spec PyProof.Rows L2
/-! ### forms -/
inductive Fm where
  | is (n : Int) | get (x : Str) | sum (f g : Fm) | same (f g : Fm) | pick (f g h : Fm)
def sIs : Str := "is"
def sGet : Str := "get"
def sSum : Str := "sum"
def sSame : Str := "same"
def sPick : Str := "pick"
namespace Fm
def word : Fm → Str
  | .is _ => sIs | .get _ => sGet | .sum _ _ => sSum | .same _ _ => sSame | .pick _ _ _ => sPick
def enc : Fm → PyData
  | .is n => .tuple [.str sIs, .int n]
  | .get x => .tuple [.str sGet, .str x]
  | .sum f g => .tuple [.str sSum, f.enc, g.enc]
  | .same f g => .tuple [.str sSame, f.enc, g.enc]
  | .pick f g h => .tuple [.str sPick, f.enc, g.enc, h.enc]
def subs : Fm → List Fm
  | .is _ => [] | .get _ => [] | .sum f g => [f, g] | .same f g => [f, g] | .pick f g h => [f, g, h]
def dep : Fm → Nat
  | .is _ => 1 | .get _ => 1
  | .sum f g => max f.dep g.dep + 1 | .same f g => max f.dep g.dep + 1
  | .pick f g h => max f.dep (max g.dep h.dep) + 1
def size : Fm → Nat
  | .is _ => 1 | .get _ => 1
  | .sum f g => f.size + g.size + 1 | .same f g => f.size + g.size + 1
  | .pick f g h => f.size + g.size + h.size + 1
def val (ρ : Str → Int) : Fm → Int
  | .is n => n | .get x => ρ x
  | .sum f g => (f.val ρ + g.val ρ) % 10
  | .same f g => if f.val ρ = g.val ρ then 1 else 0
  | .pick f g h => if f.val ρ = 0 then h.val ρ else g.val ρ
def ok (nm : Str → Prop) : Fm → Prop
  | .is n => 0 ≤ n ∧ n ≤ 9 | .get x => nm x
  | .sum f g => f.ok nm ∧ g.ok nm | .same f g => f.ok nm ∧ g.ok nm
  | .pick f g h => f.ok nm ∧ g.ok nm ∧ h.ok nm
theorem dep_pos : ∀ f : Fm, 1 ≤ f.dep
  | .is _ => Nat.le_refl _ | .get _ => Nat.le_refl _
  | .sum f g => by show 1 ≤ max f.dep g.dep + 1; omega
  | .same f g => by show 1 ≤ max f.dep g.dep + 1; omega
  | .pick f g h => by show 1 ≤ max f.dep (max g.dep h.dep) + 1; omega
theorem val_range {ρ : Str → Int} {nm : Str → Prop} (h : ∀ x, nm x → 0 ≤ ρ x ∧ ρ x ≤ 9) : ∀ f : Fm, f.ok nm → 0 ≤ f.val ρ ∧ f.val ρ ≤ 9
  | .is n, o => o
  | .get x, o => h x o
  | .sum f g, o => by
    show 0 ≤ (f.val ρ + g.val ρ) % 10 ∧ (f.val ρ + g.val ρ) % 10 ≤ 9
    omega
  | .same f g, o => by
    show 0 ≤ (if f.val ρ = g.val ρ then (1 : Int) else 0) ∧ (if f.val ρ = g.val ρ then (1 : Int) else 0) ≤ 9
    split <;> decide
  | .pick f g k, o => by
    show 0 ≤ (if f.val ρ = 0 then k.val ρ else g.val ρ) ∧ (if f.val ρ = 0 then k.val ρ else g.val ρ) ≤ 9
    split
    · exact val_range h k o.2.2
    · exact val_range h g o.2.1
end Fm
section
variable {M : Ms} {H : Hp} {v : V}
theorem Rp.tupN {ds : List PyData} (h : Rp M H v (.tuple ds)) : ∃ a xs, v = .ref a ∧ ¬ M a ∧ Rd H a (.tup xs) ∧ RpAll M H xs ds := by
  cases h with
  | @tup a xs _ n s r => exact ⟨a, xs, rfl, n, s.rd, r⟩
theorem Rp.tupX {ds : List PyData} (h : Rp M H v (.tuple ds)) : ∃ a xs, v = .ref a ∧ ¬ M a ∧ H a = some (.tup xs) ∧ RpAll M H xs ds := by
  cases h with
  | @tup a xs _ n s r => exact ⟨a, xs, rfl, n, s.at, r⟩
theorem Rp.lstN {ds : List PyData} (h : Rp M H v (.list ds)) : ∃ a xs, v = .ref a ∧ ¬ M a ∧ Rd H a (.lst xs) ∧ RpAll M H xs ds := by
  cases h with
  | @lst a xs _ n s r => exact ⟨a, xs, rfl, n, s, r⟩
theorem Rp.int_inv {i : Int} (h : Rp M H v (.int i)) : v = .int i := by cases h; rfl
theorem Rp.str_inv {x : Str} (h : Rp M H v (.str x)) : v = .str x := by cases h; rfl
theorem RpAll.inv1 {xs : List V} {d1 : PyData} (h : RpAll M H xs [d1]) : ∃ v1, xs = [v1] ∧ Rp M H v1 d1 := by
  cases h with | cons h1 h2 => cases h2; exact ⟨_, rfl, h1⟩
theorem RpAll.inv2 {xs : List V} {d1 d2 : PyData} (h : RpAll M H xs [d1, d2]) : ∃ v1 v2, xs = [v1, v2] ∧ Rp M H v1 d1 ∧ Rp M H v2 d2 := by
  cases h with | cons h1 h2 => obtain ⟨v2, rfl, r2⟩ := h2.inv1; exact ⟨_, _, rfl, h1, r2⟩
theorem RpAll.inv3 {xs : List V} {d1 d2 d3 : PyData} (h : RpAll M H xs [d1, d2, d3]) : ∃ v1 v2 v3, xs = [v1, v2, v3] ∧ Rp M H v1 d1 ∧ Rp M H v2 d2 ∧ Rp M H v3 d3 := by
  cases h with | cons h1 h2 => obtain ⟨v2, v3, rfl, r2, r3⟩ := h2.inv2; exact ⟨_, _, _, rfl, h1, r2, r3⟩
theorem RpAll.inv4 {xs : List V} {d1 d2 d3 d4 : PyData} (h : RpAll M H xs [d1, d2, d3, d4]) : ∃ v1 v2 v3 v4, xs = [v1, v2, v3, v4] ∧ Rp M H v1 d1 ∧ Rp M H v2 d2 ∧ Rp M H v3 d3 ∧ Rp M H v4 d4 := by
  cases h with | cons h1 h2 => obtain ⟨v2, v3, v4, rfl, r2, r3, r4⟩ := h2.inv3; exact ⟨_, _, _, _, rfl, h1, r2, r3, r4⟩
/-- what stands of a form -/
inductive FmAt (M : Ms) (H : Hp) : Fm → List V → Prop
  | is (n : Int) : FmAt M H (.is n) [.str sIs, .int n]
  | get (x : Str) : FmAt M H (.get x) [.str sGet, .str x]
  | sum {f g : Fm} {u w : V} (a : Rp M H u f.enc) (b : Rp M H w g.enc) : FmAt M H (.sum f g) [.str sSum, u, w]
  | same {f g : Fm} {u w : V} (a : Rp M H u f.enc) (b : Rp M H w g.enc) : FmAt M H (.same f g) [.str sSame, u, w]
  | pick {f g h : Fm} {u w z : V} (a : Rp M H u f.enc) (b : Rp M H w g.enc) (c : Rp M H z h.enc) : FmAt M H (.pick f g h) [.str sPick, u, w, z]
theorem Rp.form {f : Fm} (h : Rp M H v f.enc) : ∃ a xs, v = .ref a ∧ ¬ M a ∧ Rd H a (.tup xs) ∧ FmAt M H f xs := by
  cases f with
  | is n =>
    obtain ⟨a, xs, rfl, n, s, r⟩ := Rp.tupN h
    obtain ⟨v1, v2, rfl, r1, r2⟩ := r.inv2
    cases r1; cases r2
    exact ⟨a, _, rfl, n, s, .is _⟩
  | get x =>
    obtain ⟨a, xs, rfl, n, s, r⟩ := Rp.tupN h
    obtain ⟨v1, v2, rfl, r1, r2⟩ := r.inv2
    cases r1; cases r2
    exact ⟨a, _, rfl, n, s, .get _⟩
  | sum f g =>
    obtain ⟨a, xs, rfl, n, s, r⟩ := Rp.tupN h
    obtain ⟨v1, v2, v3, rfl, r1, r2, r3⟩ := r.inv3
    cases r1
    exact ⟨a, _, rfl, n, s, .sum r2 r3⟩
  | same f g =>
    obtain ⟨a, xs, rfl, n, s, r⟩ := Rp.tupN h
    obtain ⟨v1, v2, v3, rfl, r1, r2, r3⟩ := r.inv3
    cases r1
    exact ⟨a, _, rfl, n, s, .same r2 r3⟩
  | pick f g k =>
    obtain ⟨a, xs, rfl, n, s, r⟩ := Rp.tupN h
    obtain ⟨v1, v2, v3, v4, rfl, r1, r2, r3, r4⟩ := r.inv4
    cases r1
    exact ⟨a, _, rfl, n, s, .pick r2 r3 r4⟩
theorem FmAt.rp {f : Fm} {xs : List V} {a : Addr} (h : FmAt M H f xs) (n : ¬ M a) (s : RdT H a xs) : Rp M H (.ref a) f.enc := by
  cases h with
  | is k => exact .tup n s (.cons (.str _) (.one (.int _)))
  | get x => exact .tup n s (.cons (.str _) (.one (.str _)))
  | sum a b => exact .tup n s (.cons (.str _) (.cons a (.one b)))
  | same a b => exact .tup n s (.cons (.str _) (.cons a (.one b)))
  | pick a b c => exact .tup n s (.cons (.str _) (.cons a (.cons b (.one c))))
end

/-! ### names -/
def isNm (x : Str) : Prop := 1 ≤ x.length ∧ x.length ≤ 8 ∧ ∀ c ∈ x.cps.toList, 97 ≤ c ∧ c ≤ 122
def addN (acc : List Str) (n : Str) : List Str := if n ∈ acc then acc else acc ++ [n]
def Fm.names : Fm → List Str
  | .is _ => [] | .get x => [x]
  | .sum f g => g.names.foldl addN (f.names.foldl addN [])
  | .same f g => g.names.foldl addN (f.names.foldl addN [])
  | .pick f g h => h.names.foldl addN (g.names.foldl addN (f.names.foldl addN []))
theorem addN_mem {acc : List Str} {n x : Str} (h : x ∈ addN acc n) : x ∈ acc ∨ x = n := by
  unfold addN at h
  split at h
  · exact .inl h
  · rcases List.mem_append.mp h with h | h
    · exact .inl h
    · exact .inr (List.mem_singleton.mp h)
theorem addsN_mem : ∀ (ns acc : List Str) (x : Str), x ∈ ns.foldl addN acc → x ∈ acc ∨ x ∈ ns
  | [], acc, x, h => .inl h
  | n :: r, acc, x, h => by
    rcases addsN_mem r (addN acc n) x h with h | h
    · rcases addN_mem h with h | h
      · exact .inl h
      · exact .inr (by rw [h]; exact List.mem_cons_self)
    · exact .inr (List.mem_cons_of_mem _ h)
theorem Fm.names_ok {nm : Str → Prop} : ∀ f : Fm, f.ok nm → ∀ x ∈ f.names, nm x
  | .is _, _, x, h => nomatch h
  | .get y, o, x, h => by rw [List.mem_singleton.mp h]; exact o
  | .sum f g, o, x, h => by
    rcases addsN_mem _ _ _ h with h | h
    · rcases addsN_mem _ _ _ h with h | h
      · exact nomatch h
      · exact f.names_ok o.1 x h
    · exact g.names_ok o.2 x h
  | .same f g, o, x, h => by
    rcases addsN_mem _ _ _ h with h | h
    · rcases addsN_mem _ _ _ h with h | h
      · exact nomatch h
      · exact f.names_ok o.1 x h
    · exact g.names_ok o.2 x h
  | .pick f g k, o, x, h => by
    rcases addsN_mem _ _ _ h with h | h
    · rcases addsN_mem _ _ _ h with h | h
      · rcases addsN_mem _ _ _ h with h | h
        · exact nomatch h
        · exact f.names_ok o.1 x h
      · exact g.names_ok o.2.1 x h
    · exact k.names_ok o.2.2 x h
theorem addN_len (acc : List Str) (n : Str) : (addN acc n).length ≤ acc.length + 1 := by
  unfold addN
  split
  · omega
  · rw [List.length_append]
    exact Nat.le_refl _
theorem addsN_len : ∀ (ns acc : List Str), (ns.foldl addN acc).length ≤ acc.length + ns.length
  | [], acc => Nat.le_refl _
  | n :: r, acc => by
    have h1 := addsN_len r (addN acc n)
    have h2 := addN_len acc n
    show (r.foldl addN (addN acc n)).length ≤ acc.length + (r.length + 1)
    omega
theorem Fm.names_len : ∀ f : Fm, f.names.length ≤ f.size
  | .is _ => Nat.zero_le _
  | .get _ => Nat.le_refl _
  | .sum f g => by
    have h1 := f.names_len; have h2 := g.names_len; have h3 := addsN_len f.names []; have h4 := addsN_len g.names (f.names.foldl addN [])
    show (g.names.foldl addN (f.names.foldl addN [])).length ≤ f.size + g.size + 1
    rw [List.length_nil] at h3
    omega
  | .same f g => by
    have h1 := f.names_len; have h2 := g.names_len; have h3 := addsN_len f.names []; have h4 := addsN_len g.names (f.names.foldl addN [])
    show (g.names.foldl addN (f.names.foldl addN [])).length ≤ f.size + g.size + 1
    rw [List.length_nil] at h3
    omega
  | .pick f g k => by
    have h1 := f.names_len; have h2 := g.names_len; have h3 := addsN_len f.names []; have h4 := addsN_len g.names (f.names.foldl addN [])
    have h5 := k.names_len; have h6 := addsN_len k.names (g.names.foldl addN (f.names.foldl addN []))
    show (k.names.foldl addN (g.names.foldl addN (f.names.foldl addN []))).length ≤ f.size + g.size + k.size + 1
    rw [List.length_nil] at h3
    omega
theorem Fm.size_le : ∀ (d : Nat) (f : Fm), f.dep ≤ d → f.size ≤ 4 ^ d
  | 0, f, h => absurd f.dep_pos (by omega)
  | d + 1, .is _, _ => Nat.pow_pos (by decide)
  | d + 1, .get _, _ => Nat.pow_pos (by decide)
  | d + 1, .sum f g, h => by
    have h0 : max f.dep g.dep + 1 ≤ d + 1 := h
    have h1 := Fm.size_le d f (by omega)
    have h2 := Fm.size_le d g (by omega)
    have h3 : 1 ≤ 4 ^ d := Nat.pow_pos (by decide)
    show f.size + g.size + 1 ≤ 4 ^ d * 4
    omega
  | d + 1, .same f g, h => by
    have h0 : max f.dep g.dep + 1 ≤ d + 1 := h
    have h1 := Fm.size_le d f (by omega)
    have h2 := Fm.size_le d g (by omega)
    have h3 : 1 ≤ 4 ^ d := Nat.pow_pos (by decide)
    show f.size + g.size + 1 ≤ 4 ^ d * 4
    omega
  | d + 1, .pick f g k, h => by
    have h0 : max f.dep (max g.dep k.dep) + 1 ≤ d + 1 := h
    have h1 := Fm.size_le d f (by omega)
    have h2 := Fm.size_le d g (by omega)
    have h4 := Fm.size_le d k (by omega)
    have h3 : 1 ≤ 4 ^ d := Nat.pow_pos (by decide)
    show f.size + g.size + k.size + 1 ≤ 4 ^ d * 4
    omega
theorem in_strs (n : Str) (acc : List Str) : inV (.str n) (acc.map V.str) = decide (n ∈ acc) := by
  unfold inV
  rw [List.any_map, Bool.eq_iff_iff, List.any_eq_true, decide_eq_true_iff]
  constructor
  · rintro ⟨x, hx, e⟩
    have e' : (x == n) = true := e
    rw [beq_iff_eq] at e'
    rw [← e']
    exact hx
  · intro h
    exact ⟨n, h, by show (n == n) = true; exact beq_self_eq_true n⟩
theorem flat_strs (acc : List Str) : (acc.map V.str).all flatV = true := by
  rw [List.all_map, List.all_eq_true]
  intro x _
  rfl
theorem RpAll.strs {M : Ms} {H : Hp} : ∀ (ns : List Str), RpAll M H (ns.map V.str) (ns.map PyData.str)
  | [] => .nil
  | n :: r => .cons (.str n) (RpAll.strs r)
theorem RpAll.ofStrs {M : Ms} {H : Hp} : ∀ {ns : List Str} {vs : List V}, RpAll M H vs (ns.map PyData.str) → vs = ns.map V.str
  | [], _, h => by cases h; rfl
  | n :: r, _, h => by
    cases h with
    | cons h1 h2 =>
      cases h1
      rw [RpAll.ofStrs h2]
      rfl

theorem sign_lo {c : Nat} (h : 97 ≤ c) : decide (({ cps := #[c] } : Str).cps.toList < (Str.ofString "a").cps.toList) = false := by
  rw [show (Str.ofString "a").cps.toList = [97] by decide +kernel, decide_eq_false_iff_not]
  show ¬ [c] < [97]
  rw [List.cons_lt_cons_iff]
  rintro (h1 | ⟨_, h1⟩)
  · omega
  · exact absurd h1 (by decide)
theorem sign_hi {c : Nat} (h : c ≤ 122) : decide ((Str.ofString "z").cps.toList < ({ cps := #[c] } : Str).cps.toList) = false := by
  rw [show (Str.ofString "z").cps.toList = [122] by decide +kernel, decide_eq_false_iff_not]
  show ¬ [122] < [c]
  rw [List.cons_lt_cons_iff]
  rintro (h1 | ⟨_, h1⟩)
  · omega
  · exact absurd h1 (by decide)

/-- a form with its level -/
def lvD (p : Fm × Nat) : PyData := .tuple [p.1.enc, .int (p.2 : Int)]
def szs (ps : List (Fm × Nat)) : Nat := (ps.map fun p => p.1.size).sum
theorem szs_app (ps qs : List (Fm × Nat)) : szs (ps ++ qs) = szs ps + szs qs := by
  unfold szs
  rw [List.map_append, List.sum_append_nat]
theorem szs_rev (ps : List (Fm × Nat)) : szs ps.reverse = szs ps := by
  unfold szs
  rw [List.map_reverse, List.sum_reverse]
theorem subs_size (f : Fm) (n : Nat) : szs (f.subs.map fun g => (g, n)) + 1 = f.size := by
  cases f <;> simp [szs, Fm.subs, Fm.size] <;> omega
theorem subs_ok {nm : Str → Prop} {f g : Fm} (h : f.ok nm) (hg : g ∈ f.subs) : g.ok nm := by
  cases f <;> simp [Fm.subs] at hg <;> simp [Fm.ok] at h
  all_goals (first | (rcases hg with rfl | rfl | rfl <;> simp_all) | (rcases hg with rfl | rfl <;> simp_all))
theorem subs_dep {f g : Fm} (hg : g ∈ f.subs) : g.dep + 1 ≤ f.dep := by
  cases f <;> simp [Fm.subs] at hg <;> simp [Fm.dep]
  all_goals (first | (rcases hg with rfl | rfl | rfl <;> omega) | (rcases hg with rfl | rfl <;> omega))
theorem subs_len (f : Fm) : f.subs.length ≤ 3 := by cases f <;> simp [Fm.subs]
theorem RpAll.reverse {M : Ms} {H : Hp} : ∀ {vs : List V} {ds : List PyData}, RpAll M H vs ds → RpAll M H vs.reverse ds.reverse
  | _, [], h => by cases h; exact .nil
  | _, d :: ds, h => by
    cases h with
    | cons h1 h2 =>
      rw [List.reverse_cons, List.reverse_cons]
      exact (RpAll.reverse h2).append (.one h1)
theorem RpAll.last {M : Ms} {H : Hp} {vs : List V} {ds : List PyData} {d : PyData} (h : RpAll M H vs (ds ++ [d])) : ∃ us v, vs = us ++ [v] ∧ RpAll M H us ds ∧ Rp M H v d := by
  have h1 := h.reverse
  rw [List.reverse_append] at h1
  generalize hv : vs.reverse = ws at h1
  cases h1 with
  | @cons v us _ _ a b =>
    have e : vs = us.reverse ++ [v] := by
      rw [← List.reverse_reverse vs, hv, List.reverse_cons]
    refine ⟨us.reverse, v, e, ?_, a⟩
    have b' : RpAll M H us ds.reverse := b
    have := b'.reverse
    rw [List.reverse_reverse] at this
    exact this

theorem Fm.size_pos : ∀ f : Fm, 1 ≤ f.size
  | .is _ => Nat.le_refl _ | .get _ => Nat.le_refl _
  | .sum f g => by show 1 ≤ f.size + g.size + 1; omega
  | .same f g => by show 1 ≤ f.size + g.size + 1; omega
  | .pick f g h => by show 1 ≤ f.size + g.size + h.size + 1; omega
theorem szs_len : ∀ ps : List (Fm × Nat), ps.length ≤ szs ps
  | [] => Nat.le_refl _
  | p :: r => by
    have h1 := szs_len r
    have h2 := p.1.size_pos
    show r.length + 1 ≤ ((p :: r).map fun p => p.1.size).sum
    rw [List.map_cons, List.sum_cons]
    unfold szs at h1
    omega

def stepN (acc : List Str) (s : Fm) : List Str := s.names.foldl addN acc
theorem names_fold (f : Fm) (h : ∀ x, f ≠ .get x) : f.names = f.subs.foldl stepN [] := by
  cases f with
  | get x => exact absurd rfl (h x)
  | _ => rfl
theorem fold_take {α β : Type} (g : β → α → β) (b : β) (l : List α) (i : Nat) (x : α) (h : l[i]? = some x) : (l.take (i + 1)).foldl g b = g ((l.take i).foldl g b) x := by
  rw [List.take_add_one, h, List.foldl_append]
  rfl
end D

namespace D
open PySem PySem.Spec PyProof.Rows L2
theorem sub_len {α : Type} [DecidableEq α] : ∀ (l2 l1 : List α), l1.Nodup → (∀ x ∈ l1, x ∈ l2) → l1.length ≤ l2.length ∧ (l1.length = l2.length → l2.Nodup)
  | [], l1, _, h => by
    cases l1 with
    | nil => exact ⟨Nat.le_refl _, fun _ => .nil⟩
    | cons x r => exact nomatch h x List.mem_cons_self
  | y :: r, l1, nd, h => by
    by_cases hy : y ∈ l1
    · have nd1 : (l1.erase y).Nodup := nd.erase y
      have h1 : ∀ x ∈ l1.erase y, x ∈ r := fun x hx => by
        have hx' := (nd.mem_erase_iff).mp hx
        rcases List.mem_cons.mp (h x hx'.2) with e | e
        · exact absurd e hx'.1
        · exact e
      obtain ⟨a, b⟩ := sub_len r (l1.erase y) nd1 h1
      have le := List.length_erase_of_mem hy
      have pos : 0 < l1.length := List.length_pos_of_mem hy
      refine ⟨by rw [List.length_cons]; omega, fun e => ?_⟩
      rw [List.length_cons] at e
      refine List.nodup_cons.mpr ⟨fun hr => ?_, b (by omega)⟩
      have h2 : ∀ x ∈ l1, x ∈ r := fun x hx => by
        rcases List.mem_cons.mp (h x hx) with e | e
        · rw [e]; exact hr
        · exact e
      have := (sub_len r l1 nd h2).1
      omega
    · have h2 : ∀ x ∈ l1, x ∈ r := fun x hx => by
        rcases List.mem_cons.mp (h x hx) with e | e
        · rw [e] at hx; exact absurd hx hy
        · exact e
      have := (sub_len r l1 nd h2).1
      refine ⟨by rw [List.length_cons]; omega, fun e => ?_⟩
      rw [List.length_cons] at e
      omega
section
variable {X : Cx}
def tLenSetT (K : PySem.W.Frag) (ta : TE) : TE := fun σ H Q => ta σ H fun x H1 => ∃ (l : Addr) (ns : List Int), x = V.ref l ∧ SqT K H1 l (ns.map V.int) ∧ ns.length ≤ 1000 ∧ ∀ c : Nat, (c = ns.length ↔ ns.Nodup) → Q (.int c) H1
theorem pe_lenSetT {K : PySem.W.Frag} {a : Expr} {ta : TE} {p p2 q pos : Pos} (hK : X.K = K) (hc : X.calm = true) (hg : Gl X "len") (hm : X.mg "len" = none) (hg2 : Gl X "set") (hm2 : X.mg "set" = none) (ha : PE X a ta)
    (na : starEach [a] X.env = (false, eval a X.env) :: starEach [] X.env := by rfl) : PE X (.Call (.Name "len" p) [.Call (.Name "set" p2) [a] [] q] [] pos) (tLenSetT K ta) := by
  subst hK
  refine ⟨fun pins s σ H Q I h => ?_⟩
  refine Call_ (ld_blt I hg hm PySem.boot_len ?_)
  refine PyProof.Rows.callWith_builtin1 (PyProof.Rows.args_cons ?_ rfl) rfl rfl
  refine Call_ (ld_blt I hg2 hm2 PyProof.Rows.boot_set ?_)
  refine PyProof.Rows.callWith_type1 (PyProof.Rows.args_cons (thn (ha.run pins s σ H _ I h) fun v s1 ⟨x, H1, I1, r1, q1⟩ => PyProof.Rows.args_nil ?_) na) na rfl
  obtain ⟨l, ns, rfl, hq, h1, q1⟩ := q1
  cases r1
  obtain ⟨its, rv, pt, hz⟩ := I1.tuple hq
  have hi : IntsAre its.toArray.toList ns := ints_of_vals rv
  refine call_set_tupI ns (I1.ok.hd hc) (show s1.heap.IsTuple l its.toArray from pt) hi (by unfold scanBound; omega) fun h' tk c R1 hcn k => ?_
  obtain ⟨o, es, ep, t, ho, hex, hdt, g, nd, hm2, hb, hf, hn, hr, hl2⟩ := R1
  refine PyProof.Rows.args_nil ?_
  have I2 : Inv X pins σ H1 { s1 with heap := h', toks := tk } := I1.kept k
  have hsub : ∀ x ∈ es.toList.map keyOf, x ∈ ns := fun x hx => of_decide_eq_true ((hm2 x).mpr hx)
  have hsup : ∀ x ∈ ns, x ∈ es.toList.map keyOf := fun x hx => (hm2 x).mp (decide_eq_true hx)
  have hlen : (es.toList.map keyOf).length = es.size := by rw [List.length_map, Array.length_toList]
  have hc2 : es.size = ns.length ↔ ns.Nodup := by
    obtain ⟨a1, a2⟩ := sub_len ns _ nd hsub
    refine ⟨fun e => a2 (by rw [hlen, e]), fun hnd => ?_⟩
    have b1 := (sub_len (es.toList.map keyOf) ns hnd hsup).1
    omega
  exact call_len_set ho hex hdt hf (by unfold scanBound at hb; omega) ⟨.int es.size, H1, I2.tok _, ⟨_, rfl⟩, q1 es.size hc2⟩
end
end D

namespace D
open PySem PySem.Spec PyProof.Rows L2
section
variable {X : Cx} {C g : Addr} {n : Nat} {CX : CXT} {sp : Sp} {E : XK} {fd : FuncData} {ps : List Str}
/-- x op y, two instances of one class with its own def for op -/
def rOwnI (C : Addr) (sp : Sp) (E : XK) : R2 := fun x y H Q => ∃ a dx fs b dy gs, x = .ref a ∧ y = .ref b ∧ H a = some (.ins C dx fs) ∧ H b = some (.ins C dy gs) ∧ sp [x, y] H Q E
theorem op_ownI {op : CmpOp} (hop : ∀ a b, compareOp op a b = richCompare op a b) (hs : PySem.W.findIn X.K (.ref C) (cmpInfo op).2.1 = some (some (.ref g))) (hf : PySem.W.isFn X.K (.ref g) = true) (hn : PySem.W.notFirst X.K C (.ref C) = true)
    (F : FnOk X.prog X.w X.K X.mg X.base CX n g fd ps sp) (hb : Binds X.K fd ps []) (hr : Room n X.A) (hx : Passes CX X E) : OpR X (compareOp op) (rOwnI C sp E) := by
  intro pins s σ H x y v u Q I rx ry h
  obtain ⟨a, dx, fs, b, dy, gs, rfl, rfl, ha, hb2, q⟩ := h
  cases (show v = Value.ref a from rx)
  cases (show u = Value.ref b from ry)
  obtain ⟨mA, O, _⟩ := ins_get I.hok ha
  obtain ⟨od, J, _⟩ := O.look
  obtain ⟨mA', O', _⟩ := ins_get I.hok hb2
  obtain ⟨od', J', _⟩ := O'.look
  obtain ⟨m, hF⟩ := I.fr
  rw [hop]
  refine PySem.W.cmp_K (op := op) (tb := .ref C) hr.units0 hF I.ok.mod.kin J J'.type hn hs hf ?_
  refine wpAny_mono (run_fn (us := [.ref a, .ref b]) (vs := [.ref a, .ref b]) F hr hb .nil hx I (.cons rfl (.cons rfl .nil)) q) (fun w s' z => ?_) fun _ _ x => x
  obtain ⟨z', H', I', rz, qz⟩ := z
  exact SlX.cmpback rz ⟨z', H', I', rz, qz⟩
/-- an instance is called -/
def tCallOI (C : Addr) (sp : Sp) (E : XK) (tf : TE) (t : TA) : TE := fun σ H Q => tf σ H fun y H1 => ∃ a dx fs, y = V.ref a ∧ t σ H1 fun vs H2 => H2 a = some (.ins C dx fs) ∧ sp (V.ref a :: vs) H2 Q E
theorem pe_callOI {fe e : Expr} {es : List Expr} {pos : Pos} {tf : TE} {t : TA} (c : StX.CallO X.K C g) (F : FnOk X.prog X.w X.K X.mg X.base CX n g fd ps sp) (hb : Binds X.K fd ps []) (hr : Room n X.A) (hx : Passes CX X E) (hf : PE X fe tf) (ha : PA X (e :: es) t)
    (ht : eval (.Call fe (e :: es) [] pos) X.env = (do callWith pos (← eval fe X.env) [] (backTo pos (starEach (e :: es) X.env)) (backToKw pos (keywordEach [] X.env))) := by rfl)
    (he : starEach (e :: es) X.env = (false, eval e X.env) :: starEach es X.env := by rfl) (hpl : (backTo pos (starEach es X.env)).any (·.1) = false := by rfl) : PE X (.Call fe (e :: es) [] pos) (tCallOI C sp E tf t) := by
  refine ⟨fun pins s σ H Q I h => ?_⟩
  refine Call_ (thn (hf.run pins s σ H _ I h) fun u s1 ⟨y, H1, I1, ry, a, dx, fs, ey, q⟩ => ?_) ht
  subst ey
  cases (show u = Value.ref a from ry)
  refine StX.callO_with (thn (ha.run pos pins s1 σ H1 _ I1 q) fun us s2 ⟨vs, H2, I2, r, hi, q2⟩ => ?_) he hpl
  obtain ⟨ox, od, J, hd⟩ := StX.insC_at I2 (.inr ⟨dx, fs, hi⟩)
  exact ⟨⟨C, ox, od, J, hd⟩, StX.run_callO c (F.raw hb .nil) hr hx I2 (.inr ⟨dx, fs, hi⟩) r (by rw [List.append_nil]; exact q2)⟩
/-- isinstance of an own class -/
def rIsC (C : Addr) : List V → Hp → VK → Prop := fun xs H Q => ∃ a dx fs, xs = [.ref a, .ref C] ∧ H a = some (.ins C dx fs) ∧ Q (.bl true) H
theorem call_isCK (c : C8.InsC X.K C) : CallR X (.builtin "isinstance") (rIsC C) := C8.call_isC c
end
end D

namespace PySem
theorem meets_enumerate_newT (l : Addr) (items : Array Value) :
    Meets (Builtin.«enumerate.__new__» ⟨[.type "enumerate", .ref l], []⟩) (fun _ R s => s.heap.IsTuple l items ∧
      R (.ok (.ret (.ref (s.heap.push { cls := .type "tuple_iterator", data := .fields #[.ref l, .int 0 0] }).objs.size)))
        { s with heap := (s.heap.push { cls := .type "tuple_iterator", data := .fields #[.ref l, .int 0 0] }).push { cls := .type "enumerate", data := .fields #[.none, .bool false, .ref s.heap.objs.size, rawInt 0, .none, .none] } }) :=
  .of_wp fun prog w A R s h => by
    obtain ⟨hp, g, d, tk, os⟩ := s; obtain ⟨hL, h⟩ := h
    have hsub := sub_enumerate
    wp_walk
    refine wpAny_stack_any fun st => wpAny_pure ?_
    split
    · rename_i c _ _ _ _ _
      cases (c == Value.type "enumerate")
      · wp_walk using wpAny_pyIter_tuple hL
        exact ⟨_, rfl, h⟩
      · wp_walk using wpAny_pyIter_tuple hL
        exact ⟨_, rfl, h⟩
    · wp_walk using wpAny_pyIter_tuple hL
      exact ⟨_, rfl, h⟩
section
variable {prog : Program} {w : World} {A : Around} {E : Value → Shared → Prop} {s : Shared}
theorem call_enumerate_tuple {l : Addr} {items : Array Value} {Q : Value → Shared → Prop} (hL : s.heap.IsTuple l items)
    (h : ∀ h', IsEnum h' (s.heap.objs.size + 1) s.heap.objs.size 0 .none → h'.IsTupleIter s.heap.objs.size l 0 → h'.objs.size = s.heap.objs.size + 2 →
      (∀ b o, s.heap.get? b = some o → h'.get? b = some o) → Q (.ref (s.heap.objs.size + 1)) { s with heap := h' }) :
    wpAny (model prog w) A (call (.type "enumerate") [.ref l]) Q E s := by
  refine callType_new F.called_enumerate (by decide) (F.typeCall_enumerate_1 _) (F.newCall_enumerate_1 _) (fun obj => F.args_object_init_2 obj _) F.entry_enumerate_new
    (meets_enumerate_newT l items) ⟨hL, ?_⟩
  have hz : (s.heap.push { cls := .type "tuple_iterator", data := .fields #[.ref l, .int 0 0] }).objs.size = s.heap.objs.size + 1 := Heap.size_push ..
  show _ ∧ _
  rw [hz]
  have he : IsEnum ((s.heap.push { cls := .type "tuple_iterator", data := .fields #[.ref l, .int 0 0] }).push
      { cls := .type "enumerate", data := .fields #[.none, .bool false, .ref s.heap.objs.size, rawInt 0, .none, .none] }) (s.heap.objs.size + 1) s.heap.objs.size 0 .none := by
    have := Heap.get?_push_size (s.heap.push { cls := .type "tuple_iterator", data := .fields #[.ref l, .int 0 0] })
      (o := { cls := .type "enumerate", data := .fields #[.none, .bool false, .ref s.heap.objs.size, rawInt 0, .none, .none] }) rfl
    rw [hz] at this; exact this
  refine ⟨⟨_, he, rfl⟩, h _ he ⟨_, Heap.get?_push_of_some _ (Heap.get?_push_size _ rfl), rfl, rfl⟩ (by rw [Heap.size_push, hz]) fun b o x => Heap.get?_push_of_some _ (Heap.get?_push_of_some _ x)⟩
end
end PySem
namespace D
open PySem PySem.Spec PyProof.Rows L2
/-- the tuple at a, each item in a new pair with its place -/
def Itet (K : PySem.W.Frag) (a : Addr) : It :=
  ⟨fun i H => ∃ (xs : List V) (x : V), SqT K H a xs ∧ xs[i]? = some x, fun i H v H' => ∃ T x, v = .ref T ∧ H T = none ∧ H' = upd H T (.tup [.int (i : Nat), x]) ∧ ∀ xs, SqT K H a xs → xs[i]? = some x, fun i H => ∃ xs : List V, SqT K H a xs ∧ xs.length = i⟩
theorem turn_enumT {P : Program} {w : World} {K : PySem.W.Frag} {elts : List Expr} {kk : Nat} {tpos : Pos} (a e it : Addr) :
    Turn P w K (.Tuple elts kk tpos) (Itet K a) [e, it] e (fun i h => (∃ old, IsEnum h e it ((i : Nat) : Int) old) ∧ h.IsTupleIter it a i ∧ e ≠ it) where
  mem := by simp
  obj := fun i h st b hb => by
    obtain ⟨⟨old, he⟩, ⟨o, ho, hc, hd⟩, _⟩ := st
    have e' : b = e ∨ b = it := by simpa using hb
    rcases e' with z | z
    · rw [z]; exact ⟨_, he, fun v q => nomatch q⟩
    · rw [z]; exact ⟨o, ho, fun v q => by rw [hd] at q; cases q⟩
  keep := fun i h h' st k => let ⟨⟨old, he⟩, hi, hne⟩ := st; ⟨⟨old, k e (by simp) _ he⟩, hi.at fun o q => k it (by simp) o q, hne⟩
  item := by
    intro X hP hw hK hc i pins s σ H E I hf st hg
    subst hP hw hK
    obtain ⟨⟨old, he⟩, hit, hne⟩ := st
    obtain ⟨xs, x, hq, hx⟩ := hg
    obtain ⟨its, rv, p, hz⟩ := I.tuple hq
    have p2 : s.heap.IsTuple a its.toArray := p
    obtain ⟨u, hu, ru⟩ := rv.get hx
    have hel : e < s.heap.objs.size := Heap.lt_size he
    have hil : it < s.heap.objs.size := by obtain ⟨_, q, _⟩ := hit; exact Heap.lt_size q
    have hai : a ≠ it := fun z => by
      obtain ⟨o1, q1, c1, _⟩ := hit
      obtain ⟨o2, q2, c2, _⟩ := p2
      rw [z, q1] at q2
      cases q2
      rw [c1] at c2
      exact absurd c2 (by decide)
    have hea : e ≠ a := fun z => by
      obtain ⟨o2, q2, c2, _⟩ := p2
      rw [← z, he] at q2
      cases q2
      exact absurd (show Value.type "enumerate" = Value.type "tuple" from c2) (by decide)
    have hlt : i < its.toArray.size := by
      have := (List.getElem?_eq_some_iff.mp hu).1
      simpa using this
    refine wpAny_pyNext_enum_itemD (Draws.tuple (A := X.A.in1) (I.ok.hd hc) it a hai its.toArray) he ⟨hit, p2⟩ hlt hne (fun z => by
      rcases List.mem_cons.mp z with z | z
      · exact hne z
      · exact hea (List.mem_singleton.mp z)) fun x' h' tk hP ho hst' hT hsz hk => ?_
    obtain rfl : x' = u := by
      have h1 : its.toArray[i]? = some x' := hP
      rw [List.getElem?_toArray, hu] at h1
      exact (Option.some.inj h1).symm
    refine ⟨_, rfl, wpAny_letOwnedTupleGo_enum (s := { s with heap := h', toks := tk + 1 }) ho fun h'' he' sb => ?_⟩
    have hT2 : h''.get? s.heap.objs.size = some { cls := .type "tuple", data := .seq #[.int i tk, x'] } := (sb.2 _ (Nat.ne_of_gt hel)).trans hT
    have new : ObjOk X.prog X.w (upd H s.heap.objs.size (.tup [.int (i : Nat), x])) h'' s.heap.objs.size (.tup [.int (i : Nat), x]) :=
      ⟨by show 2 ≤ sizeLine; decide, [.int i tk, x'], .cons ⟨_, rfl⟩ (.cons ru .nil), ⟨_, hT2, rfl, _, rfl⟩⟩
    have I1 : Inv X pins σ (upd H s.heap.objs.size (.tup [.int (i : Nat), x])) { s with heap := h'', toks := tk + 1 } :=
      I.turnedNew (ch := [e, it]) (fun b ob hb q => (sb.2 b (fun z => hb (by simp [z]))).trans (hk b ob (fun z => hb (by simp [z])) (fun z => hb (by simp [z])) q)) hf (Nat.le_refl _) new
    refine ⟨.ref s.heap.objs.size, _, I1, rfl, ⟨_, x, rfl, I.hok.fresh (Nat.le_refl _), rfl, fun ys hy => by rw [I.tuple_inj hy hq]; exact hx⟩, ⟨⟨x', ?_⟩, hst'.1.at fun o q => (sb.2 it (Ne.symm hne)).trans q, hne⟩, fun b hb => ?_⟩
    · have e1 : ((i + 1 : Nat) : Int) = (i : Int) + 1 := by omega
      rw [e1]; exact he'
    · have hb' : b < s.heap.objs.size := by
        have e' : b = e ∨ b = it := by simpa using hb
        rcases e' with z | z
        · rw [z]; exact hel
        · rw [z]; exact hil
      rw [upd_ne (Nat.ne_of_lt hb')]
      exact (hf b hb).1
  done := by
    intro X hP hw hK hc i pins s σ H E I hf st hg
    subst hP hw hK
    obtain ⟨⟨old, he⟩, hit, hne⟩ := st
    obtain ⟨xs, hq, hx⟩ := hg
    obtain ⟨its, rv, p, hz⟩ := I.tuple hq
    have p2 : s.heap.IsTuple a its.toArray := p
    obtain ⟨f0, f1, f2, f3, f4, f5⟩ := hf it (by simp)
    have hl := rv.length
    have hai : a ≠ it := fun z => by
      obtain ⟨o1, q1, c1, _⟩ := hit
      obtain ⟨o2, q2, c2, _⟩ := p2
      rw [z, q1] at q2
      cases q2
      rw [c1] at c2
      exact absurd c2 (by decide)
    have en : i = its.toArray.size := by
      rw [List.size_toArray]
      omega
    exact wpAny_pyNext_enum_endD (Draws.tuple (A := X.A.in1) (I.ok.hd hc) it a hai its.toArray) he (show _ ∧ _ from ⟨by rw [← en]; exact hit, p2⟩) fun h' eb => ⟨rfl, I.turned (t' := s.toks) (fun b o hb q => eb b o hb q) f0 f1 f3 f4 f5⟩
  self := fun A i s Q E st h => let ⟨⟨_, he⟩, _⟩ := st; wpAny_pyIter_enum he h
def iEnumT (K : PySem.W.Frag) (ta : TA) : TI := fun σ H R => ta σ H fun vs H1 => ∃ a xs, vs = [.ref a] ∧ SqT K H1 a xs ∧ R (Itet K a) H1
theorem pi_enumTK {K : PySem.W.Frag} {X : Cx} {e : Expr} {ta : TA} {p pos tpos : Pos} {elts : List Expr} {kk : Nat} (hK : X.K = K) (hg : Gl X "enumerate") (hm : X.mg "enumerate" = none) (ha : PA X [e] ta) (hs : starEach [e] X.env = [(false, eval e X.env)] := by rfl) :
    PI X (.Tuple elts kk tpos) (.Call (.Name "enumerate" p) [e] [] pos) (iEnumT K ta) := by
  subst hK
  refine ⟨fun pins s σ H R I h => ?_⟩
  refine Call_ (ld_blt I hg hm boot_enumerate (PyProof.Rows.callWith_type1 (thn (ha.run pos pins s σ H _ I h) fun us s1 ⟨vs, H1, I1, r1, q1⟩ => ?_) hs rfl))
  obtain ⟨a, xs, ex, hq, q⟩ := q1
  subst ex
  cases r1 with
  | cons r rr =>
    cases rr
    cases r
    obtain ⟨its, rv, p', hz⟩ := I1.tuple hq
    refine call_enumerate_tuple (show s1.heap.IsTuple a its.toArray from p') fun h' he hit hsz hk => wpAny_pyIter_enum he ?_
    have I2 : Inv X pins σ H1 { s1 with heap := h' } := I1.kept (t' := s1.toks) hk
    refine ⟨s1.heap.objs.size + 1, [s1.heap.objs.size + 1, s1.heap.objs.size], _, _, H1, rfl, I2, turn_enumT a (s1.heap.objs.size + 1) s1.heap.objs.size, ⟨⟨.none, he⟩, hit, Nat.succ_ne_self _⟩, fun b hb => ?_, q⟩
    have e' : b = s1.heap.objs.size + 1 ∨ b = s1.heap.objs.size := by simpa using hb
    have hle : s1.heap.objs.size ≤ b := by
      rcases e' with z | z
      · rw [z]; exact Nat.le_add_right _ _
      · rw [z]; exact Nat.le_refl _
    exact I1.fpOk hle (I1.hok.fresh hle)
theorem for_enumT {K : PySem.W.Frag} {a : Addr} {xs : List V} {g : TG} {tb : TS} {D : Ends} {σ : L2.St} {H : Hp} (Pv : Nat → L2.St → Hp → Prop) (h0 : Pv 0 σ H) (hl : ∀ i σ H, i ≤ xs.length → Pv i σ H → SqT K H a xs)
    (hs : ∀ i x T σ H, xs[i]? = some x → H T = none → Pv i σ H → g (.ref T) σ (upd H T (.tup [.int (i : Nat), x])) fun σ2 H2 => tb { D with nx := Pv (i + 1), ct := Pv (i + 1), bk := D.nx } σ2 H2) (hd : ∀ σ H, Pv xs.length σ H → D.nx σ H) :
    ∃ W : Nat → Nat → L2.St → Hp → Prop, (∃ m, W 0 m σ H) ∧ ∀ i m σ H, W i m σ H →
      ((Itet K a).stop i H ∧ D.nx σ H) ∨ ((Itet K a).go i H ∧ ∃ N : L2.St → Hp → Prop, (∀ σ' H', N σ' H' → ∃ m', m' < m ∧ W (i + 1) m' σ' H') ∧ ∀ x H', (Itet K a).yld i H x H' → g x σ H' fun σ2 H2 => tb { D with nx := N, ct := N, bk := D.nx } σ2 H2) := by
  refine ⟨fun i m σ H => m = xs.length - i ∧ i ≤ xs.length ∧ Pv i σ H, ⟨xs.length, by simp, Nat.zero_le _, h0⟩, ?_⟩
  rintro i m σ H ⟨rfl, hi, p⟩
  have q := hl i σ H hi p
  by_cases hlt : i < xs.length
  · refine .inr ⟨⟨xs, xs[i], q, by simp [hlt]⟩, Pv (i + 1), fun σ' H' p' => ⟨xs.length - (i + 1), by omega, rfl, hlt, p'⟩, fun x H' y => ?_⟩
    obtain ⟨T, z, rfl, hT, rfl, hz⟩ := y
    exact hs i z T σ _ (hz xs q) hT p
  · have e : i = xs.length := by omega
    subst e
    exact .inl ⟨⟨xs, q, rfl⟩, hd σ H p⟩
/-- comprehensions over enumerate -/
theorem lc_enum {K : PySem.W.Frag} {a : Addr} {xs : List V} {g : TG} {tt : TT} {te : TE} {vs : List Nat} {σ : L2.St} {H1 : Hp} {D : Addr} {Qd : Hp → Prop} (Pv : Nat → Hp → Prop) (h0 : Pv 0 (upd H1 D (.lst []))) (hl : ∀ i H, i ≤ xs.length → Pv i H → SqL K H a xs)
    (hs : ∀ i x T H, xs[i]? = some x → H T = none → Pv i H → g (.ref T) (wipe σ vs) (upd H T (.tup [.int (i : Nat), x])) fun σ2 H2 => wipe σ2 vs = wipe σ vs ∧ tt σ2 H2 fun b H3 =>
      if b = true then te σ2 H3 fun y H4 => ∃ acc, H4 D = some (.lst acc) ∧ acc.length < sizeLine ∧ Pv (i + 1) (upd H4 D (.lst (acc ++ [y]))) else Pv (i + 1) H3) (hd : ∀ H, Pv xs.length H → Qd H) :
    ∃ W : Nat → Nat → Hp → Prop, (∃ m, W 0 m (upd H1 D (.lst []))) ∧ ∀ i m H, W i m H →
      ((Ite K a).stop i H ∧ Qd H) ∨ ((Ite K a).go i H ∧ ∃ Nx : Hp → Prop, (∀ H', Nx H' → ∃ m', m' < m ∧ W (i + 1) m' H') ∧ ∀ x H', (Ite K a).yld i H x H' → g x (wipe σ vs) H' fun σ2 H2 => wipe σ2 vs = wipe σ vs ∧ tt σ2 H2 fun b H3 =>
        if b = true then te σ2 H3 fun y H4 => ∃ acc, H4 D = some (.lst acc) ∧ acc.length < sizeLine ∧ Nx (upd H4 D (.lst (acc ++ [y]))) else Nx H3) := by
  refine ⟨fun i m H => m = xs.length - i ∧ i ≤ xs.length ∧ Pv i H, ⟨xs.length, by simp, Nat.zero_le _, h0⟩, ?_⟩
  rintro i m H ⟨rfl, hi, p⟩
  have q := hl i H hi p
  by_cases hlt : i < xs.length
  · refine .inr ⟨⟨xs, xs[i], q, by simp [hlt]⟩, Pv (i + 1), fun H' p' => ⟨xs.length - (i + 1), by omega, rfl, hlt, p'⟩, fun x H' y => ?_⟩
    obtain ⟨T, z, rfl, hT, rfl, hz⟩ := y
    exact hs i z T _ (hz xs q) hT p
  · have e : i = xs.length := by omega
    subst e
    exact .inl ⟨⟨xs, q, Nat.le_refl _⟩, hd H p⟩
theorem lc_enumT {K : PySem.W.Frag} {a : Addr} {xs : List V} {g : TG} {tt : TT} {te : TE} {vs : List Nat} {σ : L2.St} {H1 : Hp} {D : Addr} {Qd : Hp → Prop} (Pv : Nat → Hp → Prop) (h0 : Pv 0 (upd H1 D (.lst []))) (hl : ∀ i H, i ≤ xs.length → Pv i H → SqT K H a xs)
    (hs : ∀ i x T H, xs[i]? = some x → H T = none → Pv i H → g (.ref T) (wipe σ vs) (upd H T (.tup [.int (i : Nat), x])) fun σ2 H2 => wipe σ2 vs = wipe σ vs ∧ tt σ2 H2 fun b H3 =>
      if b = true then te σ2 H3 fun y H4 => ∃ acc, H4 D = some (.lst acc) ∧ acc.length < sizeLine ∧ Pv (i + 1) (upd H4 D (.lst (acc ++ [y]))) else Pv (i + 1) H3) (hd : ∀ H, Pv xs.length H → Qd H) :
    ∃ W : Nat → Nat → Hp → Prop, (∃ m, W 0 m (upd H1 D (.lst []))) ∧ ∀ i m H, W i m H →
      ((Itet K a).stop i H ∧ Qd H) ∨ ((Itet K a).go i H ∧ ∃ Nx : Hp → Prop, (∀ H', Nx H' → ∃ m', m' < m ∧ W (i + 1) m' H') ∧ ∀ x H', (Itet K a).yld i H x H' → g x (wipe σ vs) H' fun σ2 H2 => wipe σ2 vs = wipe σ vs ∧ tt σ2 H2 fun b H3 =>
        if b = true then te σ2 H3 fun y H4 => ∃ acc, H4 D = some (.lst acc) ∧ acc.length < sizeLine ∧ Nx (upd H4 D (.lst (acc ++ [y]))) else Nx H3) := by
  refine ⟨fun i m H => m = xs.length - i ∧ i ≤ xs.length ∧ Pv i H, ⟨xs.length, by simp, Nat.zero_le _, h0⟩, ?_⟩
  rintro i m H ⟨rfl, hi, p⟩
  have q := hl i H hi p
  by_cases hlt : i < xs.length
  · refine .inr ⟨⟨xs, xs[i], q, by simp [hlt]⟩, Pv (i + 1), fun H' p' => ⟨xs.length - (i + 1), by omega, rfl, hlt, p'⟩, fun x H' y => ?_⟩
    obtain ⟨T, z, rfl, hT, rfl, hz⟩ := y
    exact hs i z T _ (hz xs q) hT p
  · have e : i = xs.length := by omega
    subst e
    exact .inl ⟨⟨xs, q, rfl⟩, hd H p⟩
/-- the same where each element is a value that is known: new things may be made on the way -/
theorem lc_enumV {K : PySem.W.Frag} {a : Addr} {xs ys : List V} {g : TG} {tt : TT} {te : TE} {vs : List Nat} {σ : L2.St} {H : Hp} {D : Addr} {Qd : Hp → Prop} (hD : H D = none) (hS : SqL K H a xs) (hn : ys.length = xs.length) (hz : xs.length ≤ 1000000)
    (hs : ∀ (i : Nat) (x y : V) (T : Addr) (H' : Hp) (C : VK) (N : Hp → Prop), xs[i]? = some x → ys[i]? = some y → H' T = none → Same H H' → H' D ≠ none → (∀ H2, Same (upd H' T (.tup [.int (i : Nat), x])) H2 → C y H2) → g (.ref T) (wipe σ vs) (upd H' T (.tup [.int (i : Nat), x])) fun σ2 H2 => wipe σ2 vs = wipe σ vs ∧ tt σ2 H2 fun b H3 => if b = true then te σ2 H3 C else N H3)
    (hd : ∀ H', Same H H' → H' D = some (.lst ys) → Qd H') :
    ∃ W : Nat → Nat → Hp → Prop, (∃ m, W 0 m (upd H D (.lst []))) ∧ ∀ i m H, W i m H →
      ((Ite K a).stop i H ∧ Qd H) ∨ ((Ite K a).go i H ∧ ∃ Nx : Hp → Prop, (∀ H', Nx H' → ∃ m', m' < m ∧ W (i + 1) m' H') ∧ ∀ x H', (Ite K a).yld i H x H' → g x (wipe σ vs) H' fun σ2 H2 => wipe σ2 vs = wipe σ vs ∧ tt σ2 H2 fun b H3 =>
        if b = true then te σ2 H3 fun y H4 => ∃ acc, H4 D = some (.lst acc) ∧ acc.length < sizeLine ∧ Nx (upd H4 D (.lst (acc ++ [y]))) else Nx H3) := by
  refine lc_enum (K := K) (a := a) (xs := xs) (fun i H' => Same H H' ∧ H' D = some (.lst (ys.take i))) ⟨same_new hD, by rw [upd_same]; rfl⟩ (fun i H' _ p => p.1.seq hS) (fun i x T H' hx hT p => ?_) (fun H' p => ?_)
  · have hi : i < ys.length := by
      rw [hn]
      exact (List.getElem?_eq_some_iff.mp hx).1
    refine hs i x ys[i] T H' _ _ hx (List.getElem?_eq_getElem hi) hT p.1 (ne_none p.2) fun H2 s2 => ⟨_, s2 _ _ (same_new hT _ _ p.2), ?_, ?_, ?_⟩
    · rw [List.length_take]
      exact small1000000 (by omega)
    · exact same_put (p.1.trans ((same_new hT).trans s2)) hD
    · rw [upd_same, List.take_add_one, List.getElem?_eq_getElem hi]
      rfl
  · refine hd H' p.1 ?_
    have e := p.2
    rw [← hn, List.take_length] at e
    exact e
theorem lc_enumTV {K : PySem.W.Frag} {a : Addr} {xs ys : List V} {g : TG} {tt : TT} {te : TE} {vs : List Nat} {σ : L2.St} {H : Hp} {D : Addr} {Qd : Hp → Prop} (hD : H D = none) (hS : SqT K H a xs) (hn : ys.length = xs.length) (hz : xs.length ≤ 1000000)
    (hs : ∀ (i : Nat) (x y : V) (T : Addr) (H' : Hp) (C : VK) (N : Hp → Prop), xs[i]? = some x → ys[i]? = some y → H' T = none → Same H H' → H' D ≠ none → (∀ H2, Same (upd H' T (.tup [.int (i : Nat), x])) H2 → C y H2) → g (.ref T) (wipe σ vs) (upd H' T (.tup [.int (i : Nat), x])) fun σ2 H2 => wipe σ2 vs = wipe σ vs ∧ tt σ2 H2 fun b H3 => if b = true then te σ2 H3 C else N H3)
    (hd : ∀ H', Same H H' → H' D = some (.lst ys) → Qd H') :
    ∃ W : Nat → Nat → Hp → Prop, (∃ m, W 0 m (upd H D (.lst []))) ∧ ∀ i m H, W i m H →
      ((Itet K a).stop i H ∧ Qd H) ∨ ((Itet K a).go i H ∧ ∃ Nx : Hp → Prop, (∀ H', Nx H' → ∃ m', m' < m ∧ W (i + 1) m' H') ∧ ∀ x H', (Itet K a).yld i H x H' → g x (wipe σ vs) H' fun σ2 H2 => wipe σ2 vs = wipe σ vs ∧ tt σ2 H2 fun b H3 =>
        if b = true then te σ2 H3 fun y H4 => ∃ acc, H4 D = some (.lst acc) ∧ acc.length < sizeLine ∧ Nx (upd H4 D (.lst (acc ++ [y]))) else Nx H3) := by
  refine lc_enumT (K := K) (a := a) (xs := xs) (fun i H' => Same H H' ∧ H' D = some (.lst (ys.take i))) ⟨same_new hD, by rw [upd_same]; rfl⟩ (fun i H' _ p => same_sqt p.1 hS) (fun i x T H' hx hT p => ?_) (fun H' p => ?_)
  · have hi : i < ys.length := by
      rw [hn]
      exact (List.getElem?_eq_some_iff.mp hx).1
    refine hs i x ys[i] T H' _ _ hx (List.getElem?_eq_getElem hi) hT p.1 (ne_none p.2) fun H2 s2 => ⟨_, s2 _ _ (same_new hT _ _ p.2), ?_, ?_, ?_⟩
    · rw [List.length_take]
      exact small1000000 (by omega)
    · exact same_put (p.1.trans ((same_new hT).trans s2)) hD
    · rw [upd_same, List.take_add_one, List.getElem?_eq_getElem hi]
      rfl
  · refine hd H' p.1 ?_
    have e := p.2
    rw [← hn, List.take_length] at e
    exact e
/-- elements are data that are made on the way -/
theorem lc_enumD {K : PySem.W.Frag} {a : Addr} {xs : List V} {ys : List PyData} {g : TG} {tt : TT} {te : TE} {vs : List Nat} {σ : L2.St} {H : Hp} {D : Addr} {Qd : Hp → Prop} (M : Ms) (hM : Mk M H) (hD : H D = none) (hS : SqL K H a xs) (hn : ys.length = xs.length) (hz : xs.length ≤ 1000000)
    (hs : ∀ (i : Nat) (x : V) (y : PyData) (T : Addr) (H' : Hp) (C : VK) (N : Hp → Prop), xs[i]? = some x → ys[i]? = some y → H' T = none → Same H H' → Mk (also M D) (upd H' T (.tup [.int (i : Nat), x])) → (∀ v H2, Same (upd H' T (.tup [.int (i : Nat), x])) H2 → Rp (also M D) H2 v y → C v H2) → g (.ref T) (wipe σ vs) (upd H' T (.tup [.int (i : Nat), x])) fun σ2 H2 => wipe σ2 vs = wipe σ vs ∧ tt σ2 H2 fun b H3 => if b = true then te σ2 H3 C else N H3)
    (hd : ∀ H', Same H H' → Ld M H' D ys → Qd H') :
    ∃ W : Nat → Nat → Hp → Prop, (∃ m, W 0 m (upd H D (.lst []))) ∧ ∀ i m H, W i m H →
      ((Ite K a).stop i H ∧ Qd H) ∨ ((Ite K a).go i H ∧ ∃ Nx : Hp → Prop, (∀ H', Nx H' → ∃ m', m' < m ∧ W (i + 1) m' H') ∧ ∀ x H', (Ite K a).yld i H x H' → g x (wipe σ vs) H' fun σ2 H2 => wipe σ2 vs = wipe σ vs ∧ tt σ2 H2 fun b H3 =>
        if b = true then te σ2 H3 fun y H4 => ∃ acc, H4 D = some (.lst acc) ∧ acc.length < sizeLine ∧ Nx (upd H4 D (.lst (acc ++ [y]))) else Nx H3) := by
  refine lc_enum (K := K) (a := a) (xs := xs) (fun i H' => Same H H' ∧ ∃ acc, H' D = some (.lst acc) ∧ RpAll (also M D) H' acc (ys.take i)) ⟨same_new hD, [], upd_same, by rw [List.take_zero]; exact .nil⟩ (fun i H' _ p => p.1.seq hS) (fun i x T H' hx hT p => ?_) (fun H' p => ?_)
  · obtain ⟨s, acc, e, r⟩ := p
    have hi : i < ys.length := by
      rw [hn]
      exact (List.getElem?_eq_some_iff.mp hx).1
    have hl := r.length
    rw [List.length_take] at hl
    have s1 : Same H' (upd H' T (.tup [.int (i : Nat), x])) := same_new hT
    refine hs i x ys[i] T H' _ _ hx (List.getElem?_eq_getElem hi) hT s (((hM.gr (Gr.same s)).also (ne_none e)).gr (Gr.same s1)) fun v H2 s2 rv => ?_
    refine ⟨acc, s2 _ _ (s1 _ _ e), small1000000 (by omega), ?_, acc ++ [v], upd_same, ?_⟩
    · exact same_put (s.trans (s1.trans s2)) hD
    · rw [List.take_add_one, List.getElem?_eq_getElem hi]
      exact ((r.sx (Sx.same (s1.trans s2))).append (.one rv)).sx (Sx.put (.inr rfl))
  · obtain ⟨s, acc, e, r⟩ := p
    rw [← hn, List.take_length] at r
    exact hd H' s ⟨hM.out hD, acc, e, r.less also_le⟩
end D
namespace D
open PySem PySem.Spec PyProof.Rows L2
theorem mt_lcountK {K : PySem.W.Frag} {X : Cx} (hK : X.K = K) : MtR X "list.count" (rCntI K) := by subst hK; exact mt_lcount
end D
namespace D
open PySem PySem.Spec PyProof.Rows L2
section
variable {X : Cx} {K : PySem.W.Frag} {o e : Expr} {es : List Expr} {to : TE} {t : TA} {name : Str} {apos cpos : Pos} {T id : String} {r : V → List V → Hp → VK → Prop}
theorem pe_bm0K2 (hK : X.K = K) (pa : PlainAttrs T) (slot : Slot T name id) (hty : typeOf (.builtin id) = pure (.type "method_descriptor")) (hm : MtR X id r) (ho : PE X o to)
    (hbase : attributeBase o name X.env (eval o X.env) = eval o X.env := by rfl) (hline : (apos.endLine == cpos.line) = true := by rfl) : PE X (.Call (.Attribute o name apos) [] [] cpos) (tBM0 K T r to) := by
  subst hK
  exact pe_bm0 pa slot hty hm ho hbase hline
theorem pe_bmK2 (hK : X.K = K) (pa : PlainAttrs T) (slot : Slot T name id) (hty : typeOf (.builtin id) = pure (.type "method_descriptor")) (hm : MtR X id r) (ho : PE X o to) (ha : PA X (e :: es) t)
    (hbase : attributeBase o name X.env (eval o X.env) = eval o X.env := by rfl)
    (hfew : ((backTo cpos (starEach (e :: es) X.env)).all (fun x => !x.1) && (backToKw cpos (keywordEach [] X.env)).all (fun x => x.1.isSome)
      && decide ((e :: es).length + ([] : List Keyword).length + (if ([] : List Keyword).isEmpty then 0 else 1) < 30)) = true := by rfl)
    (hline : (apos.endLine == cpos.line) = true := by rfl) (hs : starEach (e :: es) X.env = (false, eval e X.env) :: starEach es X.env := by rfl) (hplain : (backTo cpos (starEach es X.env)).any (·.1) = false := by rfl) :
    PE X (.Call (.Attribute o name apos) (e :: es) [] cpos) (tBM K T r to t) := by
  subst hK
  exact pe_bm pa slot hty hm ho ha hbase hfew hline hs hplain
end
end D

namespace D
open PySem PySem.Spec PyProof.Rows L2
/-- comprehensions' loops, whatever their bodies -/
theorem rng_loop {n : Nat} {lo : Int} {Qd : Hp → Prop} {H0 : Hp} {B : V → Hp → (Hp → Prop) → Prop} (Pv : Nat → Hp → Prop) (h0 : Pv 0 H0) (hs : ∀ i H, i < n → Pv i H → B (.int (lo + (i : Nat))) H (Pv (i + 1))) (hd : ∀ H, Pv n H → Qd H) :
    ∃ W : Nat → Nat → Hp → Prop, (∃ m, W 0 m H0) ∧ ∀ i m H, W i m H → ((Itr lo n).stop i H ∧ Qd H) ∨ ((Itr lo n).go i H ∧ ∃ Nx : Hp → Prop, (∀ H', Nx H' → ∃ m', m' < m ∧ W (i + 1) m' H') ∧ ∀ x H', (Itr lo n).yld i H x H' → B x H' Nx) := by
  refine ⟨fun i m H => m = n - i ∧ i ≤ n ∧ Pv i H, ⟨_, rfl, Nat.zero_le _, h0⟩, ?_⟩
  rintro i m H ⟨rfl, hi, p⟩
  by_cases hlt : i < n
  · refine .inr ⟨hlt, Pv (i + 1), fun H' p' => ⟨n - (i + 1), by omega, rfl, hlt, p'⟩, fun x H' y => ?_⟩
    obtain ⟨rfl, rfl⟩ := y
    exact hs i _ hlt p
  · have e : i = n := by omega
    subst e
    exact .inl ⟨Nat.le_refl _, hd H p⟩
theorem list_loop {K : PySem.W.Frag} {a : Addr} {xs : List V} {Qd : Hp → Prop} {H0 : Hp} {B : V → Hp → (Hp → Prop) → Prop} (Pv : Nat → Hp → Prop) (h0 : Pv 0 H0) (hl : ∀ i H, i ≤ xs.length → Pv i H → SqL K H a xs) (hs : ∀ i x H, xs[i]? = some x → Pv i H → B x H (Pv (i + 1))) (hd : ∀ H, Pv xs.length H → Qd H) :
    ∃ W : Nat → Nat → Hp → Prop, (∃ m, W 0 m H0) ∧ ∀ i m H, W i m H → ((Itl K a).stop i H ∧ Qd H) ∨ ((Itl K a).go i H ∧ ∃ Nx : Hp → Prop, (∀ H', Nx H' → ∃ m', m' < m ∧ W (i + 1) m' H') ∧ ∀ x H', (Itl K a).yld i H x H' → B x H' Nx) := by
  refine ⟨fun i m H => m = xs.length - i ∧ i ≤ xs.length ∧ Pv i H, ⟨_, rfl, Nat.zero_le _, h0⟩, ?_⟩
  rintro i m H ⟨rfl, hi, p⟩
  have q := hl i H hi p
  by_cases hlt : i < xs.length
  · refine .inr ⟨⟨xs, xs[i], q, by simp [hlt]⟩, Pv (i + 1), fun H' p' => ⟨xs.length - (i + 1), by omega, rfl, hlt, p'⟩, fun x H' y => ?_⟩
    obtain ⟨e, y⟩ := y
    subst e
    exact hs i x _ (y xs q) p
  · have e : i = xs.length := by omega
    subst e
    exact .inl ⟨⟨xs, q, Nat.le_refl _⟩, hd H p⟩
theorem tup_loop {K : PySem.W.Frag} {a : Addr} {xs : List V} {Qd : Hp → Prop} {H0 : Hp} {B : V → Hp → (Hp → Prop) → Prop} (Pv : Nat → Hp → Prop) (h0 : Pv 0 H0) (hl : ∀ i H, i ≤ xs.length → Pv i H → SqT K H a xs) (hs : ∀ i x H, xs[i]? = some x → Pv i H → B x H (Pv (i + 1))) (hd : ∀ H, Pv xs.length H → Qd H) :
    ∃ W : Nat → Nat → Hp → Prop, (∃ m, W 0 m H0) ∧ ∀ i m H, W i m H → ((Itt K a).stop i H ∧ Qd H) ∨ ((Itt K a).go i H ∧ ∃ Nx : Hp → Prop, (∀ H', Nx H' → ∃ m', m' < m ∧ W (i + 1) m' H') ∧ ∀ x H', (Itt K a).yld i H x H' → B x H' Nx) := by
  refine ⟨fun i m H => m = xs.length - i ∧ i ≤ xs.length ∧ Pv i H, ⟨_, rfl, Nat.zero_le _, h0⟩, ?_⟩
  rintro i m H ⟨rfl, hi, p⟩
  have q := hl i H hi p
  by_cases hlt : i < xs.length
  · refine .inr ⟨⟨xs, xs[i], q, by simp [hlt]⟩, Pv (i + 1), fun H' p' => ⟨xs.length - (i + 1), by omega, rfl, hlt, p'⟩, fun x H' y => ?_⟩
    obtain ⟨e, y⟩ := y
    subst e
    exact hs i x _ (y xs q) p
  · have e : i = xs.length := by omega
    subst e
    exact .inl ⟨⟨xs, q, Nat.le_refl _⟩, hd H p⟩
/-- a dict made of pairs of whole numbers -/
def toldK (ps : List (Int × Int)) : List (Key × V) := ps.foldl (fun k p => putK k (.inl p.2) (.int p.1)) []
theorem putK_le (c : List (Key × V)) (k : Key) (x : V) : (putK c k x).length ≤ c.length + 1 := by
  unfold putK
  split
  · rw [List.length_map]; omega
  · rw [List.length_append]; exact Nat.le_refl _
theorem toldK_snoc (ps : List (Int × Int)) (p : Int × Int) : toldK (ps ++ [p]) = putK (toldK ps) (.inl p.2) (.int p.1) := by
  unfold toldK
  rw [List.foldl_append]
  rfl
theorem told_all (ps : List (Int × Int)) : ∀ qs : List (Int × Int), (∀ p ∈ qs, p ∈ ps) → ∀ s w, valV (toldK qs) (.inl s) = some w → ∃ v, w = .int v ∧ (v, s) ∈ ps := by
  suffices h : ∀ (qs : List (Int × Int)) (c : List (Key × V)), (∀ p ∈ qs, p ∈ ps) → (∀ s w, valV c (.inl s) = some w → ∃ v, w = .int v ∧ (v, s) ∈ ps) → ∀ s w, valV (qs.foldl (fun k p => putK k (.inl p.2) (.int p.1)) c) (.inl s) = some w → ∃ v, w = .int v ∧ (v, s) ∈ ps from fun qs hq => h qs [] hq (fun s w e => nomatch e)
  intro qs
  induction qs with
  | nil => intro c _ hc; exact hc
  | cons q r ih =>
    intro c hq hc
    refine ih _ (fun p hp => hq p (List.mem_cons_of_mem _ hp)) (fun s w e => ?_)
    rw [valV_put] at e
    split at e
    · rename_i e2
      cases e2
      cases e
      exact ⟨_, rfl, hq q List.mem_cons_self⟩
    · exact hc s w e
theorem told_mem : ∀ (qs : List (Int × Int)) (p : Int × Int), p ∈ qs → ∃ w, valV (toldK qs) (.inl p.2) = some w := by
  suffices h : ∀ (qs : List (Int × Int)) (c : List (Key × V)) (s : Int), ((∃ p ∈ qs, p.2 = s) ∨ ∃ w, valV c (.inl s) = some w) → ∃ w, valV (qs.foldl (fun k p => putK k (.inl p.2) (.int p.1)) c) (.inl s) = some w from fun qs p hp => h qs [] p.2 (.inl ⟨p, hp, rfl⟩)
  intro qs
  induction qs with
  | nil =>
    intro c s h
    rcases h with ⟨_, h, _⟩ | h
    · exact nomatch h
    · exact h
  | cons q r ih =>
    intro c s h
    refine ih _ s ?_
    rcases h with ⟨p, hp, e⟩ | ⟨w, e⟩
    · rcases List.mem_cons.mp hp with rfl | hp
      · exact .inr ⟨_, by rw [valV_put, if_pos (by rw [e])]⟩
      · exact .inl ⟨p, hp, e⟩
    · right
      rw [valV_put]
      split
      · exact ⟨_, rfl⟩
      · exact ⟨w, e⟩
/-- what such a dict tells of a pair -/
theorem told_get {ps : List (Int × Int)} {p : Int × Int} (h : p ∈ ps) : ∃ v, valV (toldK ps) (.inl p.2) = some (.int v) ∧ (v, p.2) ∈ ps := by
  obtain ⟨w, e⟩ := told_mem ps p h
  obtain ⟨v, rfl, hv⟩ := told_all ps ps (fun _ h => h) _ _ e
  exact ⟨v, e, hv⟩
end D

namespace D
open PySem PySem.Spec PyProof.Rows L2
/-! ### dict comprehensions whose keys are tuples (after the layer's own for ints and texts) -/
theorem d_dictSetT {X : Cx} {pins : List (Addr × Obj)} {σ : L2.St} {H : Hp} {s : Shared} {E : Value → Shared → Prop} {D : Addr} {kvs : List (List Key × V)} {k : List Key} {b : Addr} {v : V} {u r : Value} {Q : Unit → Shared → Prop} (hu : X.A.units + 1 < cLine) (I : Inv X pins σ H s) (hD : H D = some (.dT kvs)) (hz : kvs.length < sizeLine)
    (eb : H b = some (.tup (k.map kV))) (ry : RelV (.ref b) u) (rv : RelV v r) (h : ∀ s', Inv X pins σ (upd H D (.dT (putK kvs k v))) s' → Q () s') : wpAny (model X.prog X.w) X.A (dictSet D u r) Q E s := by
  cases (show u = Value.ref b from ry)
  obtain ⟨z, hd, xs, rel, dd⟩ := dt_of I.hok hD
  have hz' : xs.length ≤ sizeLine := by rw [← Paired.length rel]; exact z
  have hl : (putK kvs k v).length ≤ sizeLine := by have := length_putK kvs k v; omega
  refine wpAny_dictSet_heap (hsz := hz') (show (tupleKind (mixKind X.prog X.w)).room X.A from Nat.lt_of_succ_lt hu) (key_of I.hok eb) dd fun h' dd' hs => h _ ?_
  obtain ⟨q, es, ep, hq, h2, h3, h4, _, h5⟩ := dd'
  refine d_write I (by rw [hD]; exact True.intro) hs ⟨q, hq⟩ ⟨hl, hd, _, (rel.put k eb rv).keeps fun c ys ec => ?_, q, es, ep, hq, h2, h3, h4, h5⟩
  rw [upd_ne (ne_of ec hD (fun z => nomatch z))]
  exact ec
theorem key_rd {P : Program} {w : World} {H : Hp} {h : Heap} {a : Addr} {ks : List Key} (ok : HOk P w H h) (e : Rd H a (.tup (ks.map kV))) : (tupleKind (mixKind P w)).is h ks a := by
  obtain ⟨_, its, r, o, h1, h2, n, h3⟩ := (show ObjOk P w H h a (.tup (ks.map kV)) from rd_of ok e)
  exact ⟨o, its.toArray, n, h1, h2, h3, by simpa using items_are r⟩
section
variable {X : Cx}
/-- something holds of all contexts that a block may have -/
abbrev InBlk (X : Cx) (sc : Scope) (F : Cx → Prop) : Prop := ∀ (t : Shared) (G : Hp) (L : Addr) (cells : List (Str × Addr)) (feet : List Addr), F (X.blk t G sc (compEnvC sc cells L X.env) feet)
/-- what a comprehension does with a new dict at D: O what stands there, Put the storing of a pair -/
def tDcG (O : Addr → HO) (Put : Addr → (Hp → Prop) → V → V → Hp → Prop) (walk : TI) (g : TG) (tt : TT) (tk tv : TE) (own : List Nat) : TE := fun σ H Q => walk σ H fun J H1 => ∀ D, H1 D = none → ∃ W : Nat → Nat → Hp → Prop, (∃ m, W 0 m (upd H1 D (O D))) ∧ ∀ i m G, W i m G →
  (J.stop i G ∧ Q (.ref D) G) ∨ (J.go i G ∧ ∃ N : Hp → Prop, (∀ G', N G' → ∃ m', m' < m ∧ W (i + 1) m' G') ∧
    ∀ x G', J.yld i G x G' → g x (wipe σ own) G' fun σ2 G2 => wipe σ2 own = wipe σ own ∧ tt σ2 G2 fun b G3 => if b = true then tk σ2 G3 fun y G4 => tv σ2 G4 fun z G5 => Put D N y z G5 else N G3)
/-- the pair is put into the dict at D -/
def PutT (D : Addr) (N : Hp → Prop) (y z : V) (G : Hp) : Prop := ∃ kvs k b, y = .ref b ∧ G b = some (.tup (k.map kV)) ∧ G D = some (.dT kvs) ∧ kvs.length < sizeLine ∧ N (upd G D (.dT (putK kvs k z)))
/-- what a storing must be -/
def Stores (X : Cx) (Put : Addr → (Hp → Prop) → V → V → Hp → Prop) : Prop := ∀ (B : Cx) (pins : List (Addr × Obj)) (σ : L2.St) (G : Hp) (t : Shared) (D : Addr) (N : Hp → Prop) (y z : V) (u r : Value) (Q : Unit → Shared → Prop) (E : Value → Shared → Prop),
  B.prog = X.prog → B.w = X.w → B.A = X.A → B.K = X.K → Inv B pins σ G t → Put D N y z G → RelV y u → RelV z r → (∀ t' G', Inv B pins σ G' t' → N G' → Q () t') → wpAny (model B.prog B.w) B.A (dictSet D u r) Q E t
theorem pe_dcG {O : Addr → HO} {Put : Addr → (Hp → Prop) → V → V → Hp → Prop} {kx vx tgt it : Expr} {ifs : List Expr} {sc : Scope} {own : List (Str × Nat)} {pos : Pos} {walk : TI} {g : TG} {tt : TT} {tk tv : TE} (mk0 : ∀ (H : Hp) (h : Heap), sysModules < h.objs.size → ObjOk X.prog X.w H (h.push { cls := .type "dict", data := .dict #[] }) h.objs.size (O h.objs.size)) (store : Stores X Put) (calm : X.calm = true) (nod : X.N.Nodup)
    (pi : PI X tgt it walk) (bo : BlkOk X.N X.env.scope sc own) (pg : InBlk X sc fun B => PG B tgt g) (pt : InBlk X sc fun B => PTs B ifs tt) (pk : InBlk X sc fun B => PE B kx tk) (pv : InBlk X sc fun B => PE B vx tv)
    (plain : ∀ x, foldedSetIterable it X.env x = pure x := by intro _; rfl) : PE X (.DictComp kx vx [⟨tgt, it, ifs, 0⟩] sc pos) (tDcG O Put walk g tt tk tv (own.map (·.2))) := ⟨fun pins s σ H Q I h => by
  rw [arm_eval_DictComp]
  have free : ∀ y ∈ sc.names, y.2 = .free → ∃ c, X.env.cells.lookup y.1 = some c := fun y hy e => (bo.free y hy e).elim (fun k => I.ok.has _ (.inl k)) fun k => I.ok.has _ (.inr k)
  refine wpAny_comprehension_free (use := none) rfl plain (closure_ok free) bo.kind (fun y hy e => by rw [bo.uniq y hy, e]) ?_
  -- what is walked, then the empty dict
  refine thn (pi.run pins s σ H _ I h) fun xv s1 hx => thn hx ?_
  rintro itv s2 ⟨ad, feet, tn, J, H2, rfl, I2, T, at2, ft2, q⟩
  refine wpAny_newObj_type (newEnv_comp ?_)
  have fresh : H2 s2.heap.objs.size = none := I2.hok.fresh (Nat.le_refl _)
  obtain ⟨W, ⟨m0, w0⟩, turn⟩ := q _ fresh
  let s3 : Shared := { s2 with heap := s2.heap.push { cls := .type "dict", data := .dict #[] } }
  let D : Addr := s2.heap.objs.size
  let H3 : Hp := upd H2 D (O D)
  let L : Addr := s3.heap.objs.size
  let e3 : Env := compEnvC sc (cellsFrom (L + 1) sc.names (cloFrom X.env.cells sc.names [])) L X.env
  let s4 : Shared := { s3 with heap := pushCells (s3.heap.push { cls := .type "dict", data := .dict #[] }) sc.names }
  have I3 : Inv X pins σ H3 s3 := I2.laid (t' := s2.toks) (fun _ _ e => Heap.get?_push_of_some _ e) (Nat.le_refl _) (mk0 _ s2.heap I2.big)
  have grown : ∀ b o, s2.heap.get? b = some o → s3.heap.get? b = some o := fun _ _ e => Heap.get?_push_of_some _ e
  have low : ∀ b ∈ feet, b < s2.heap.objs.size := fun b hb => Heap.lt_size (T.obj _ _ at2 b hb).choose_spec.1
  have ft3 : ∀ b ∈ feet, FpOk X pins H3 b ∧ b < s3.heap.objs.size := fun b hb => ⟨⟨(upd_ne (Nat.ne_of_lt (low b hb))).trans (ft2 b hb).1, (ft2 b hb).2⟩, by show b < (s2.heap.push _).objs.size; rw [Heap.size_push]; exact Nat.lt_succ_of_lt (low b hb)⟩
  have at3 : tn 0 s3.heap := T.keep _ _ _ at2 fun b _ o e => grown b o e
  have I4 : Inv (X.blk s3 H3 sc e3 feet) [] (wipe σ (own.map (·.2))) H3 s4 := block_start I3 bo nod ft3
  have at4 : tn 0 s4.heap := T.keep _ _ _ at3 fun b _ o e => pushCells_keeps _ _ _ _ (Heap.get?_push_of_some _ e)
  -- the walker's own objects in the block's context
  have foot : ∀ {σ' : L2.St} {G : Hp} {t : Shared}, Inv (X.blk s3 H3 sc e3 feet) [] σ' G t → (∀ b ∈ feet, G b = none) → ∀ b ∈ feet, FpOk (X.blk s3 H3 sc e3 feet) [] G b := by
    intro σ' G t J' none b hb
    refine ⟨none b hb, (J'.ok.exf b hb).1, J'.ok.exfs b hb, .inl hb, fun x c e => (J'.ok.exf b hb).2 x c e, ?_⟩
    intro p hp
    exact nomatch (show p ∈ ([] : List (Addr × Obj)) from by simpa using hp)
  have loop : codeAny (model X.prog X.w) X.A (.compLoop (.DictComp kx vx [⟨tgt, it, ifs, 0⟩] sc pos) 0 (.ref ad) (.ref D) e3) (compPost (model X.prog X.w) X.A X.xe none (fun v t => ∃ x G, Inv X pins σ G t ∧ RelV x v ∧ Q x G) (.ref D) L) s4 := by
    refine compLoop_anyD (fun n t => ∃ i G, Inv (X.blk s3 H3 sc e3 feet) [] (wipe σ (own.map (·.2))) G t ∧ tn i t.heap ∧ (∀ b ∈ feet, G b = none) ∧ W i n G) ?_ m0 ⟨0, H3, I4, at4, fun b hb => (ft3 b hb).1.1, w0⟩
    rintro n t ⟨i, G, IG, atG, nG, wG⟩
    obtain ⟨stop, fin⟩ | ⟨go, N, less, step⟩ := turn i n G wG
    · refine thnF (T.done (X.blk s3 H3 sc e3 feet) rfl rfl rfl calm i [] t _ G (fun _ _ => False) IG (foot IG nG) atG stop) ?_
      rintro r t6 ⟨rfl, I6⟩
      have I7 : Inv X pins σ G t6 := I3.call' (ch := feet) I6.os I6.base I6.hok I6.bare fun b hb => let z := (ft3 b hb).1.2; ⟨z.2.2.1, z.1, z.2.2.2.1, z.2.2.2.2⟩
      obtain ⟨m, names, _⟩ := I6.loc
      obtain ⟨a0, a1, a2, a3, a4, a5⟩ := I3.fpOk (Nat.le_refl _) (show G L = none from I6.free)
      exact ⟨m, names, fun h'' kept => ⟨.ref D, G, I7.turned (t' := t6.toks) (fun b o hb e => (kept.2 b hb).trans e) a0 a1 a3 a4 a5, rfl, fin⟩⟩
    · refine thnF (T.item (X.blk s3 H3 sc e3 feet) rfl rfl rfl calm i [] t _ G (fun _ _ => False) IG (foot IG nG) atG go) ?_
      rintro r t6 ⟨u, rfl, h6⟩
      refine thnF h6 ?_
      rintro _ t7 ⟨x, G7, I7, r7, y7, at7, n7⟩
      refine thnF ((pg _ _ _ _ _).run _ t7 _ G7 x u _ (I7.pinned (foot I7 n7) (T.obj _ _ at7)) r7 (step x G7 y7)) ?_
      rintro _ t8 ⟨σ8, G8, I8, wp8, q8⟩
      refine thnF ((pt _ _ _ _ _).run _ t8 σ8 G8 _ I8 q8) ?_
      rintro b t9 ⟨G9, I9, q9⟩
      have back : ∀ {t' : Shared} {G' : Hp}, Inv (X.blk s3 H3 sc e3 feet) ([] ++ pinsAt feet t7.heap) σ8 G' t' → N G' → ∃ m, m < n ∧ ∃ i G, Inv (X.blk s3 H3 sc e3 feet) [] (wipe σ (own.map (·.2))) G t' ∧ tn i t'.heap ∧ (∀ b ∈ feet, G b = none) ∧ W i m G := by
        intro t' G' I' nx
        obtain ⟨m', lt, w'⟩ := less G' nx
        have held : ∀ b ∈ feet, ∀ o, t7.heap.get? b = some o → t'.heap.get? b = some o ∧ G' b = none := fun b hb o e => let z := I'.pin (b, o) (List.mem_append_right _ (List.mem_append_right _ (mem_pinsAt hb e))); ⟨z.1, z.2.1⟩
        refine ⟨m', lt, i + 1, G', I'.unpinned.weak (by rw [← wp8, wipe_length]) fun j v e => ?_, T.keep _ _ _ at7 fun b hb o e => (held b hb o e).1, fun b hb => ?_, w'⟩
        · exact (wipe_some (wp8 ▸ e)).1
        · obtain ⟨o, e, _⟩ := T.obj _ _ at7 b hb
          exact (held b hb o e).2
      by_cases yes : b = true
      · subst yes
        refine thnF ((pk _ _ _ _ _).run _ t9 σ8 G9 _ I9 q9) ?_
        rintro ku t10 ⟨ky, G10, I10, r10, q10⟩
        refine thnF ((pv _ _ _ _ _).run _ t10 σ8 G10 _ I10 q10) ?_
        rintro vu t11 ⟨vy, G11, I11, r11, putting⟩
        exact store (X.blk s3 H3 sc e3 feet) _ _ _ _ _ _ _ _ _ _ _ _ rfl rfl rfl rfl I11 putting r10 r11 fun t12 G12 I12 nx => back I12 nx
      · have no : b = false := by cases b with | true => exact absurd rfl yes | false => rfl
        subst no
        exact back I9 q9
  exact codeAny_compStart_dict loop (T.self X.A 0 _ _ _ at4 loop)⟩
/-- keys that are tuples of ints and texts -/
abbrev tDcT (walk : TI) (g : TG) (tt : TT) (tk tv : TE) (own : List Nat) : TE := tDcG (fun _ => .dT []) PutT walk g tt tk tv own
theorem stores_T (hu : X.A.units + 1 < cLine) : Stores X PutT := by
  rintro B pins σ G t D N y z u r Q E e1 e2 e3 e4 I ⟨kvs, k, kb, rfl, tup, dict, room, nx⟩ ry rz h
  exact d_dictSetT (by rw [e3]; exact hu) I dict room tup ry rz fun t' I' => h t' _ I' nx
theorem pe_dcT {kx vx tgt it : Expr} {ifs : List Expr} {sc : Scope} {own : List (Str × Nat)} {pos : Pos} {walk : TI} {g : TG} {tt : TT} {tk tv : TE} (hu : X.A.units + 1 < cLine) (calm : X.calm = true) (nod : X.N.Nodup)
    (pi : PI X tgt it walk) (bo : BlkOk X.N X.env.scope sc own) (pg : InBlk X sc fun B => PG B tgt g) (pt : InBlk X sc fun B => PTs B ifs tt) (pk : InBlk X sc fun B => PE B kx tk) (pv : InBlk X sc fun B => PE B vx tv)
    (plain : ∀ x, foldedSetIterable it X.env x = pure x := by intro _; rfl) : PE X (.DictComp kx vx [⟨tgt, it, ifs, 0⟩] sc pos) (tDcT walk g tt tk tv (own.map (·.2))) :=
  pe_dcG (fun _ h b => dt_empty h b) (stores_T hu) calm nod pi bo pg pt pk pv plain
/-! ### dicts whose keys are tuples that may be known to their objects -/
/-- the dict at a: kvs its pairs, ks its keys with the tuples that stand for them -/
def KX (kvs : List (List Key × V)) (ks : List (List Key × Addr)) (xs : List (List Key × Addr × Value)) : Prop := Paired (fun (p : List Key × V) (q : List Key × Addr × Value) => p.1 = q.1 ∧ RelV p.2 q.2.2) kvs xs ∧ xs.map (fun q => (q.1, q.2.1)) = ks
def dXo (P : Program) (w : World) (a : Addr) (kvs : List (List Key × V)) (ks : List (List Key × Addr)) : HO := .ext fun h => kvs.length ≤ sizeLine ∧ (a == sysModules) = false ∧ ∃ xs, KX kvs ks xs ∧ (∃ o es ep, h.get? a = some o ∧ o.ExactDict ∧ o.data = .dict es ep ∧ es.toList = xs.map (entryOfKey (tupleKind (mixKind P w)))) ∧ (xs.map (·.1)).Nodup
theorem dXo_ok {P : Program} {w : World} {H : Hp} {h : Heap} {a : Addr} {kvs : List (List Key × V)} {ks : List (List Key × Addr)} {xs : List (List Key × Addr × Value)} {o : Obj} {es : Array DictEntry} {ep : Nat} (l : kvs.length ≤ sizeLine) (n : (a == sysModules) = false) (r : KX kvs ks xs) (g : h.get? a = some o) (x : o.ExactDict) (d : o.data = .dict es ep)
    (e : es.toList = xs.map (entryOfKey (tupleKind (mixKind P w)))) (nd : (xs.map (·.1)).Nodup) : ObjOk P w H h a (dXo P w a kvs ks) := by
  refine ⟨⟨l, n, xs, r, ⟨o, es, ep, g, x, d, e⟩, nd⟩, ⟨o, g⟩, ?_⟩
  rintro h1 h2 ⟨l1, n1, xs1, r1, ⟨o1, es1, ep1, g1, x1, d1, e1⟩, nd1⟩ same
  exact ⟨l1, n1, xs1, r1, ⟨o1, es1, ep1, same o1 g1, x1, d1, e1⟩, nd1⟩
/-- the tuples stand -/
def KsAt (H : Hp) (ks : List (List Key × Addr)) : Prop := ∀ p ∈ ks, Rd H p.2 (.tup (p.1.map kV))
theorem dXo_at {P : Program} {w : World} {H : Hp} {h : Heap} {a : Addr} {kvs : List (List Key × V)} {ks : List (List Key × Addr)} (ok : HOk P w H h) (e : H a = some (dXo P w a kvs ks)) (t : KsAt H ks) :
    kvs.length ≤ sizeLine ∧ (a == sysModules) = false ∧ ∃ xs, KX kvs ks xs ∧ h.DictOfH (tupleKind (mixKind P w)) a xs := by
  obtain ⟨⟨l, n, xs, r, ⟨o, es, ep, g, x, d, e1⟩, nd⟩, _⟩ := ok a _ e
  refine ⟨l, n, xs, r, o, es, ep, g, x, d, e1, fun q hq => ?_, nd⟩
  have hk : (q.1, q.2.1) ∈ ks := by rw [← r.2]; exact List.mem_map.mpr ⟨q, hq, rfl⟩
  exact key_rd ok (t _ hk)
theorem paired_keys {F : (List Key × V) → (List Key × Addr × Value) → Prop} (hF : ∀ p q, F p q → p.1 = q.1) : ∀ {kvs : List (List Key × V)} {xs : List (List Key × Addr × Value)}, Paired F kvs xs → kvs.map (·.1) = xs.map (·.1) := by
  intro kvs xs r
  induction r with
  | nil => rfl
  | cons h t ih => rw [List.map_cons, List.map_cons, ih, hF _ _ h]
theorem kx_val {kvs : List (List Key × V)} {ks : List (List Key × Addr)} {xs : List (List Key × Addr × Value)} (r : KX kvs ks xs) (k : List Key) : RelO (valV kvs k) ((atKey xs k).map (·.2)) := by
  replace r := r.1
  induction r with
  | nil => exact True.intro
  | @cons p q ps qs h t ih =>
    by_cases c : p.1 = k
    · have c' : q.1 = k := h.1.symm.trans c
      rw [valV_pos c, show atKey (q :: qs) k = some q.2 by simp [atKey, List.find?_cons, c']]
      exact h.2
    · have c' : ¬ q.1 = k := fun z => c (h.1.trans z)
      rw [valV_neg c, show atKey (q :: qs) k = atKey qs k by simp [atKey, List.find?_cons, c']]
      exact ih
/-- the keys behind a storing -/
def ksPut (kvs : List (List Key × V)) (ks : List (List Key × Addr)) (k : List Key) (b : Addr) : List (List Key × Addr) := if (valV kvs k).isSome = true then ks else ks ++ [(k, b)]
theorem kx_put {kvs : List (List Key × V)} {ks : List (List Key × Addr)} {xs : List (List Key × Addr × Value)} (r : KX kvs ks xs) (k : List Key) (b : Addr) {y : V} {u : Value} (ry : RelV y u) : KX (putK kvs k y) (ksPut kvs ks k b) (storedH xs k b u) := by
  have e : (valV kvs k).isSome = (atKey xs k).isSome := by rw [(kx_val r k).isSome_eq, Option.isSome_map]
  obtain ⟨r, rk⟩ := r
  unfold putK storedH ksPut
  rw [valV_any, e]
  by_cases c : (atKey xs k).isSome = true
  · rw [if_pos c, if_pos c, if_pos c]
    refine ⟨?_, ?_⟩
    · clear rk e c
      induction r with
      | nil => exact .nil
      | @cons p q ps qs h t ih =>
        refine .cons ?_ ih
        show (if p.1 = k then (p.1, y) else p).1 = (putAt k u q).1 ∧ RelV (if p.1 = k then (p.1, y) else p).2 (putAt k u q).2.2
        unfold putAt
        by_cases d : p.1 = k
        · rw [if_pos d, if_pos (h.1.symm.trans d)]
          exact ⟨h.1, ry⟩
        · rw [if_neg d, if_neg (fun z => d (h.1.trans z))]
          exact h
    · rw [← rk, List.map_map]
      refine List.map_congr_left fun q _ => ?_
      show ((putAt k u q).1, (putAt k u q).2.1) = _
      unfold putAt
      split <;> rfl
  · rw [if_neg c, if_neg c, if_neg c]
    exact ⟨Paired.snoc r ⟨rfl, ry⟩, by rw [List.map_append, rk]; rfl⟩
def PutX (P : Program) (w : World) (D : Addr) (N : Hp → Prop) (y z : V) (G : Hp) : Prop := ∃ kvs ks k b, y = .ref b ∧ Rd G b (.tup (k.map kV)) ∧ G D = some (dXo P w D kvs ks) ∧ KsAt G ks ∧ kvs.length < sizeLine ∧ N (upd G D (dXo P w D (putK kvs k z) (ksPut kvs ks k b)))
theorem stores_X (hu : X.A.units + 1 < cLine) : Stores X (PutX X.prog X.w) := by
  rintro B pins σ G t D N y z u r Q E e1 e2 e3 e4 I ⟨kvs, ks, k, kb, rfl, tup, dict, kat, room, nx⟩ ry rz h
  cases (show u = Value.ref kb from ry)
  rw [← e1, ← e2] at dict nx
  obtain ⟨l, n, xs, rel, dd⟩ := dXo_at I.hok dict kat
  have lx : xs.length = kvs.length := (Paired.length rel.1).symm
  refine wpAny_dictSet_heap (hsz := by omega) (show (tupleKind (mixKind B.prog B.w)).room B.A from by rw [e3]; exact Nat.lt_of_succ_lt hu) (key_rd I.hok tup) dd fun h' dd' same => h _ _ ?_ nx
  obtain ⟨o, es, ep, g, x, d, e5, _, nd⟩ := dd'
  exact d_write I (by rw [dict]; exact True.intro) same ⟨o, g⟩ (dXo_ok (Nat.le_trans (length_putK kvs k z) room) n (kx_put rel k kb rz) g x d e5 nd)
theorem dXo_empty {P : Program} {w : World} (H : Hp) (h : Heap) (b : sysModules < h.objs.size) : ObjOk P w H (h.push { cls := .type "dict", data := .dict #[] }) h.objs.size (dXo P w h.objs.size [] []) :=
  dXo_ok (xs := []) (Nat.zero_le _) (beq_eq_false_iff_ne.mpr (Ne.symm (Nat.ne_of_lt b))) ⟨.nil, rfl⟩ (Heap.get?_push_size _ rfl) ⟨rfl, rfl, rfl⟩ rfl rfl List.nodup_nil
abbrev tDcX (P : Program) (w : World) (walk : TI) (g : TG) (tt : TT) (tk tv : TE) (own : List Nat) : TE := tDcG (fun D => dXo P w D [] []) (PutX P w) walk g tt tk tv own
theorem pe_dcX {P : Program} {w : World} (hP : X.prog = P) (hw : X.w = w) {kx vx tgt it : Expr} {ifs : List Expr} {sc : Scope} {own : List (Str × Nat)} {pos : Pos} {walk : TI} {g : TG} {tt : TT} {tk tv : TE} (hu : X.A.units + 1 < cLine) (calm : X.calm = true) (nod : X.N.Nodup)
    (pi : PI X tgt it walk) (bo : BlkOk X.N X.env.scope sc own) (pg : InBlk X sc fun B => PG B tgt g) (pt : InBlk X sc fun B => PTs B ifs tt) (pk : InBlk X sc fun B => PE B kx tk) (pv : InBlk X sc fun B => PE B vx tv)
    (plain : ∀ x, foldedSetIterable it X.env x = pure x := by intro _; rfl) : PE X (.DictComp kx vx [⟨tgt, it, ifs, 0⟩] sc pos) (tDcX P w walk g tt tk tv (own.map (·.2))) := by
  subst hP hw
  exact pe_dcG (fun H h b => dXo_empty H h b) (stores_X hu) calm nod pi bo pg pt pk pv plain
/-- d[k] of such a dict -/
def tXGet (P : Program) (w : World) (td ty : TE) : TE := fun σ H Q => td σ H fun x H1 => ty σ H1 fun y H2 => ∃ a kvs ks k b v, x = .ref a ∧ y = .ref b ∧ H2 a = some (dXo P w a kvs ks) ∧ KsAt H2 ks ∧ Rd H2 b (.tup (k.map kV)) ∧ valV kvs k = some v ∧ Q v H2
theorem pe_xget {P : Program} {w : World} (hP : X.prog = P) (hw : X.w = w) (hu : X.A.units + 1 < cLine) {o i : Expr} {td ty : TE} {pos : Pos} (ho : PE X o td) (hi : PE X i ty) (hs : NoSl i) : PE X (.Subscript o i pos) (tXGet P w td ty) := by
  subst hP hw
  refine ⟨fun pins s σ H Q I h => ?_⟩
  refine subD_of PySem.F.slot_dict_getitem.lookup hs (thn (ho.run pins s σ H _ I h) fun ov s1 ⟨x, H1, I1, rx, q1⟩ => thn (hi.run pins s1 σ H1 _ I1 q1) ?_)
  rintro iv s2 ⟨y, H2, I2, ry, a, kvs, ks, k, b, v, rfl, rfl, dict, kat, tup, has, q2⟩
  obtain rfl : ov = Value.ref a := rx
  cases (show iv = Value.ref b from ry)
  obtain ⟨l, n, xs, rel, dd⟩ := dXo_at I2.hok dict kat
  have rv := kx_val rel k
  rw [has] at rv
  obtain ⟨u, hp, ru⟩ := RelO.some_of rv
  obtain ⟨p, hp', rfl⟩ := Option.map_eq_some_iff.mp hp
  refine ⟨?_, wpAny_getItem_heap (tupleKind_room_in1 hu) (key_rd I2.hok tup) dd hp' ?_⟩
  · obtain ⟨o', es, ep, g, x, _⟩ := dd
    exact ⟨o', g, x.1⟩
  · exact ⟨v, H2, I2.tok _, ru, q2⟩
/-- deep membership, in lists and in tuples -/
def rInDT (K : PySem.W.Frag) : R2 := fun x y H Q => ∃ d ds, Dp K H x d ∧ Dp K H y (.tuple ds) ∧ SeqAt.shaped d = true ∧ SeqAt.shaped (.tuple ds) = true ∧ Q (.bl (ds.any fun z => PyData.eqv z d)) H
def rNotInDT (K : PySem.W.Frag) : R2 := fun x y H Q => ∃ d ds, Dp K H x d ∧ Dp K H y (.tuple ds) ∧ SeqAt.shaped d = true ∧ SeqAt.shaped (.tuple ds) = true ∧ Q (.bl (!ds.any fun z => PyData.eqv z d)) H
theorem op_inDT {K : PySem.W.Frag} (hK : X.K = K) (hu : X.A.units + 65 < cLine) : OpR X (compareOp .In) (rInDT K) := by
  subst hK
  intro pins s σ H x y v u Q I rx ry h
  obtain ⟨d, ds, hd, he, sd, se, q⟩ := h
  obtain ⟨as, r1⟩ := Dp.reads I d x v hd rx
  obtain ⟨bs, r2⟩ := Dp.reads I (.tuple ds) y u he ry
  exact SeqAt.in_tuple_reads r2 r1 (SeqAt.canLay_of_shaped se) (SeqAt.canLay_of_shaped sd) (room_in_shaped sd hu) ⟨.bl _, H, I, rfl, q⟩
theorem op_notInDT {K : PySem.W.Frag} (hK : X.K = K) (hu : X.A.units + 65 < cLine) : OpR X (compareOp .NotIn) (rNotInDT K) := by
  subst hK
  intro pins s σ H x y v u Q I rx ry h
  obtain ⟨d, ds, hd, he, sd, se, q⟩ := h
  obtain ⟨as, r1⟩ := Dp.reads I d x v hd rx
  obtain ⟨bs, r2⟩ := Dp.reads I (.tuple ds) y u he ry
  exact SeqAt.notIn_tuple_reads r2 r1 (SeqAt.canLay_of_shaped se) (SeqAt.canLay_of_shaped sd) (room_in_shaped sd hu) ⟨.bl _, H, I, rfl, q⟩
theorem op_inDK {K : PySem.W.Frag} (hK : X.K = K) (hu : X.A.units + 65 < cLine) : OpR X (compareOp .In) (rInD K) := by subst hK; exact op_inD hu
theorem op_notInDK {K : PySem.W.Frag} (hK : X.K = K) (hu : X.A.units + 65 < cLine) : OpR X (compareOp .NotIn) (rNotInD K) := by subst hK; exact op_notInD hu
/-- t.index(n), the first place, of a tuple of ints -/
def rTIdx (K : PySem.W.Frag) : V → List V → Hp → VK → Prop := fun x xs H Q => ∃ p, ∃ ys : List Int, ∃ z j, x = .ref p ∧ xs = [.int z] ∧ SqT K H p (ys.map V.int) ∧ ys[j]? = some z ∧ (∀ m, m < j → ys[m]? ≠ some z) ∧ Q (.int (j : Nat)) H
theorem flat_ints (ys : List Int) : (ys.map V.int).all flatV = true := by induction ys <;> simp_all [flatV]
theorem mt_tup_indexI {K : PySem.W.Frag} (hK : X.K = K) : MtR X "tuple.index" (rTIdx K) := by
  subst hK
  rintro pins s σ H _ _ v us Q I rx rs ⟨p, ys, z, j, rfl, rfl, reads, found, first, q⟩
  cases rx
  obtain ⟨_, rfl, tk, rfl⟩ := vals1 rs
  obtain ⟨its, vals, ⟨⟨_, dd, _, sl⟩, stands, rfl, n, rfl⟩, _⟩ := I.tuple reads
  have size : its.length = ys.length := by simpa using vals.length.symm
  have item : ∀ m : Nat, m < ys.length → ∃ t', its[m]? = some (Value.int (ys.getD m 0) t') := by
    intro m hm
    obtain ⟨w, hw, t', rfl⟩ := vals.get (i := m) (x := V.int (ys.getD m 0)) (by simp [hm])
    exact ⟨t', hw⟩
  have eqs : ∀ (m : Nat) (hm : m < its.toArray.size), eqU (V.int z) its.toArray[m] = decide (ys.getD m 0 = z) := by
    intro m hm
    obtain ⟨t', e⟩ := item m (by simpa [size] using hm)
    have e' : its.toArray[m] = Value.int (ys.getD m 0) t' := by
      have := (List.getElem?_eq_some_iff.mp e).2
      simpa using this
    rw [e']
    rfl
  have inside := (List.getElem?_eq_some_iff.mp found).1
  have jz : ys.getD j 0 = z := by rw [List.getD_eq_getElem?_getD, found]; rfl
  have answer := TI.tuple_indexAt p its.toArray n dd sl (.int z tk) (eqU (.int z)) j (by simpa [size] using inside) (by rw [eqs, jz]; exact decide_eq_true rfl) (fun m hm lt => by
    rw [eqs]
    refine decide_eq_false fun e => first m lt ?_
    have inm : m < ys.length := by simpa [size] using hm
    rw [List.getElem?_eq_getElem inm, ← e, List.getD_eq_getElem?_getD, List.getElem?_eq_getElem inm]
    rfl)
  exact call_meets PySem.F.slot_tuple_index ⟨_, stands, rfl⟩ PySem.F.entry_tuple_index (PySem.F.args_tuple_index_2 _ _) answer
    ⟨stands, fun w hw => mem_eqAt (x := .int z) ⟨tk, rfl⟩ rfl vals (flat_ints ys) w (by simpa using hw), ⟨.int (j : Nat), H, I.tok _, ⟨_, rfl⟩, q⟩⟩
end
/-! ### loops over enumerate and zip, whatever their bodies -/
theorem enumL_loop {K : PySem.W.Frag} {a : Addr} {xs : List V} {Qd : Hp → Prop} {H0 : Hp} {B : V → Hp → (Hp → Prop) → Prop} (Pv : Nat → Hp → Prop) (h0 : Pv 0 H0) (hl : ∀ i H, i ≤ xs.length → Pv i H → SqL K H a xs) (hs : ∀ i x T H, xs[i]? = some x → H T = none → Pv i H → B (.ref T) (upd H T (.tup [.int (i : Nat), x])) (Pv (i + 1))) (hd : ∀ H, Pv xs.length H → Qd H) :
    ∃ W : Nat → Nat → Hp → Prop, (∃ m, W 0 m H0) ∧ ∀ i m H, W i m H → ((Ite K a).stop i H ∧ Qd H) ∨ ((Ite K a).go i H ∧ ∃ Nx : Hp → Prop, (∀ H', Nx H' → ∃ m', m' < m ∧ W (i + 1) m' H') ∧ ∀ x H', (Ite K a).yld i H x H' → B x H' Nx) := by
  refine ⟨fun i m H => m = xs.length - i ∧ i ≤ xs.length ∧ Pv i H, ⟨_, rfl, Nat.zero_le _, h0⟩, ?_⟩
  rintro i m H ⟨rfl, hi, p⟩
  have q := hl i H hi p
  by_cases hlt : i < xs.length
  · refine .inr ⟨⟨xs, xs[i], q, by simp [hlt]⟩, Pv (i + 1), fun H' p' => ⟨xs.length - (i + 1), by omega, rfl, hlt, p'⟩, fun x H' y => ?_⟩
    obtain ⟨T, z, rfl, hT, rfl, hz⟩ := y
    exact hs i z T _ (hz xs q) hT p
  · have e : i = xs.length := by omega
    subst e
    exact .inl ⟨⟨xs, q, Nat.le_refl _⟩, hd H p⟩
theorem enumT_loop {K : PySem.W.Frag} {a : Addr} {xs : List V} {Qd : Hp → Prop} {H0 : Hp} {B : V → Hp → (Hp → Prop) → Prop} (Pv : Nat → Hp → Prop) (h0 : Pv 0 H0) (hl : ∀ i H, i ≤ xs.length → Pv i H → SqT K H a xs) (hs : ∀ i x T H, xs[i]? = some x → H T = none → Pv i H → B (.ref T) (upd H T (.tup [.int (i : Nat), x])) (Pv (i + 1))) (hd : ∀ H, Pv xs.length H → Qd H) :
    ∃ W : Nat → Nat → Hp → Prop, (∃ m, W 0 m H0) ∧ ∀ i m H, W i m H → ((Itet K a).stop i H ∧ Qd H) ∨ ((Itet K a).go i H ∧ ∃ Nx : Hp → Prop, (∀ H', Nx H' → ∃ m', m' < m ∧ W (i + 1) m' H') ∧ ∀ x H', (Itet K a).yld i H x H' → B x H' Nx) := by
  refine ⟨fun i m H => m = xs.length - i ∧ i ≤ xs.length ∧ Pv i H, ⟨_, rfl, Nat.zero_le _, h0⟩, ?_⟩
  rintro i m H ⟨rfl, hi, p⟩
  have q := hl i H hi p
  by_cases hlt : i < xs.length
  · refine .inr ⟨⟨xs, xs[i], q, by simp [hlt]⟩, Pv (i + 1), fun H' p' => ⟨xs.length - (i + 1), by omega, rfl, hlt, p'⟩, fun x H' y => ?_⟩
    obtain ⟨T, z, rfl, hT, rfl, hz⟩ := y
    exact hs i z T _ (hz xs q) hT p
  · have e : i = xs.length := by omega
    subst e
    exact .inl ⟨⟨xs, q, rfl⟩, hd H p⟩
end D
namespace D
open PySem PySem.Spec PyProof.Rows L2
section
variable {X : Cx}
/-- tuple(list): the new object is known to have no dict -/
def rTupF (K : PySem.W.Frag) : List V → Hp → VK → Prop := fun xs H Q => ∃ p ys, xs = [.ref p] ∧ SqL K H p ys ∧ ∀ l o, H l = none → o.cls = .type "tuple" → o.dict = none → Q (.ref l) (upd H l (.frz o (.tup ys)))
theorem call_tupleF {K : PySem.W.Frag} (hK : X.K = K) : CallR X (.type "tuple") (rTupF K) := by
  subst hK
  intro pins s σ H xs us Q I r h
  obtain ⟨p, ys, rfl, hq, q⟩ := h
  obtain ⟨u, rfl, rx⟩ := vals1 r
  cases rx
  obtain ⟨its, r', pl, hz⟩ := I.list hq
  have hlen := r'.length
  refine call_tuple_list pl.isList (fun h' kp => ?_) (by simp only [List.size_toArray] <;> omega)
  have I1 : Inv X pins σ H { s with heap := h' } := I.kept (t' := s.toks) kp
  have I2 : Inv X pins σ (upd H h'.objs.size (.frz { cls := .type "tuple", data := .seq its.toArray } (.tup ys))) { s with heap := h'.push { cls := .type "tuple", data := .seq its.toArray } } :=
    I1.laid (t' := s.toks) (fun b o e => Heap.get?_push_of_some _ e) (Nat.le_refl _) (show ObjOk X.prog X.w _ _ _ (.frz _ (.tup ys)) from ⟨Heap.get?_push_size _ rfl, hz, its, r', IsTup.new _ _⟩)
  exact ⟨.ref h'.objs.size, _, I2, rfl, q _ _ (I1.hok.fresh (Nat.le_refl _)) rfl rfl⟩
/-- t[lo:hi], the cut known to its object -/
def rSlF (K : PySem.W.Frag) : V → Option Int → Option Int → Hp → VK → Prop := fun x lo hi H Q => ∃ a xs, x = .ref a ∧ SqT K H a xs ∧
  (HT.sIx xs.length 0 lo = 0 ∧ HT.sIx xs.length xs.length hi = xs.length → Q (.ref a) H) ∧ (¬ (HT.sIx xs.length 0 lo = 0 ∧ HT.sIx xs.length xs.length hi = xs.length) → ∀ p o, H p = none → o.cls = .type "tuple" → o.dict = none → Q (.ref p) (upd H p (.frz o (.tup (cutV xs lo hi)))))
theorem sl_tupF {K : PySem.W.Frag} (hK : X.K = K) : SlR X (rSlF K) := by
  subst hK
  rintro pins s σ H _ v vl vu lo hi sl Q I rx hs pl pu ⟨a, xs, rfl, reads, all, part⟩
  by_cases whole : HT.sIx xs.length 0 lo = 0 ∧ HT.sIx xs.length xs.length hi = xs.length
  · exact sl_tupA pins s σ H _ v vl vu lo hi sl Q I rx hs pl pu ⟨a, xs, rfl, reads, all, fun z => absurd whole z⟩
  · cases rx
    obtain ⟨its, vals, stands, small⟩ := I.tuple reads
    have size : its.toArray.size = xs.length := by rw [List.size_toArray]; exact vals.length.symm
    refine ⟨"tuple", _, PyProof.Rows.slot_tuple_getitem.lookup, stands.typeIs, HT.getItem_tuple_cut stands hs pl pu (by rw [size]; exact whole) ?_ (by rw [size]; exact small)⟩
    rw [size]
    have cut := (vals.drop (HT.sIx xs.length 0 lo)).take (HT.sIx xs.length xs.length hi - HT.sIx xs.length 0 lo)
    let ob : Obj := { cls := .type "tuple", data := .seq ((its.drop (HT.sIx xs.length 0 lo)).take (HT.sIx xs.length xs.length hi - HT.sIx xs.length 0 lo)).toArray }
    have good : ObjOk X.prog X.w (upd H s.heap.objs.size (.frz ob (.tup (cutV xs lo hi)))) (s.heap.push ob) s.heap.objs.size (.frz ob (.tup (cutV xs lo hi))) := ⟨Heap.get?_push_size _ rfl, Nat.le_trans (cutV_length xs lo hi) small, _, cut, IsTup.new _ _⟩
    exact ⟨.ref s.heap.objs.size, _, I.laid (t' := s.toks) (fun b ob e => Heap.get?_push_of_some _ e) (Nat.le_refl _) good, rfl, part whole _ ob (I.hok.fresh (Nat.le_refl _)) rfl rfl⟩
def tyTup (x : V) (H : Hp) : Prop := ∃ a o u, x = .ref a ∧ H a = some (.frz o u) ∧ o.cls = .type "tuple" ∧ o.dict = none
theorem ty_tup : TyOk X "tuple" tyTup := by
  intro pins σ H s x v I r h
  obtain ⟨a, o, u, rfl, e, hc, hd⟩ := h
  cases r
  obtain ⟨e2, _⟩ := I.hok a _ e
  refine ⟨⟨o, e2, hc⟩, fun b eb => ?_⟩
  cases eb
  exact ⟨o, e2, hd⟩
end
/-- rows -/
def RowAt (M : Ms) (H : Hp) (v : V) (ns : List Int) : Prop := ∃ a, v = .ref a ∧ ¬ M a ∧ Rd H a (.tup (ns.map V.int))
def RowF (M : Ms) (H : Hp) (v : V) (ns : List Int) : Prop := ∃ a o, v = .ref a ∧ ¬ M a ∧ H a = some (.frz o (.tup (ns.map V.int))) ∧ o.cls = .type "tuple" ∧ o.dict = none
theorem RowF.row {M : Ms} {H : Hp} {v : V} {ns : List Int} (h : RowF M H v ns) : RowAt M H v ns := by
  obtain ⟨a, o, e, n, ha, _⟩ := h
  exact ⟨a, e, n, .inr ⟨o, ha⟩⟩
theorem RowAt.sx {M : Ms} {H H' : Hp} {v : V} {ns : List Int} (h : RowAt M H v ns) (s : Sx M H H') : RowAt M H' v ns := by
  obtain ⟨a, e, n, ha⟩ := h
  exact ⟨a, e, n, sx_rd s n ha⟩
theorem RowF.sx {M : Ms} {H H' : Hp} {v : V} {ns : List Int} (h : RowF M H v ns) (s : Sx M H H') : RowF M H' v ns := by
  obtain ⟨a, o, e, n, ha, r⟩ := h
  exact ⟨a, o, e, n, s _ _ n ha, r⟩
theorem RowAt.less {M N : Ms} {H : Hp} {v : V} {ns : List Int} (h : RowAt M H v ns) (f : ∀ a, N a → M a) : RowAt N H v ns := by
  obtain ⟨a, e, n, ha⟩ := h
  exact ⟨a, e, fun z => n (f a z), ha⟩
theorem RowF.less {M N : Ms} {H : Hp} {v : V} {ns : List Int} (h : RowF M H v ns) (f : ∀ a, N a → M a) : RowF N H v ns := by
  obtain ⟨a, o, e, n, ha⟩ := h
  exact ⟨a, o, e, fun z => n (f a z), ha⟩
theorem RowF.fresh {M : Ms} {H : Hp} {v : V} {ns : List Int} {p : Addr} (hp : H p = none) (h : RowF M H v ns) : RowF (also M p) H v ns := by
  obtain ⟨a, o, e, n, ha, r⟩ := h
  refine ⟨a, o, e, fun z => ?_, ha, r⟩
  rcases z with z | z
  · exact n z
  · rw [show a = p from z, hp] at ha
    cases ha
end D

namespace D
open PySem PySem.Spec PyProof.Rows L2
theorem hu65 {A : Around} {k : Nat} (hr : Room k A) : A.units + 65 < cLine := by have := hr.un; omega
/-! ### idents and matches -/
abbrev IP := Int × Int
def idp (ws : List Int) : List IP := ws.mapIdx fun i w => (w, (((ws.take i).count w : Nat) : Int))
theorem idp_len (ws : List Int) : (idp ws).length = ws.length := List.length_mapIdx
theorem idp_at {ws : List Int} {i : Nat} {w : Int} (h : ws[i]? = some w) : (idp ws)[i]? = some (w, (((ws.take i).count w : Nat) : Int)) := by
  unfold idp
  rw [List.getElem?_mapIdx, h]
  rfl
theorem nodup_get {α : Type} {l : List α} : l.Nodup ↔ ∀ i j : Nat, i < j → j < l.length → l[i]? ≠ l[j]? := by
  unfold List.Nodup
  rw [List.pairwise_iff_getElem]
  constructor
  · intro h i j hij hj e
    rw [List.getElem?_eq_getElem (Nat.lt_trans hij hj), List.getElem?_eq_getElem hj] at e
    exact h i j (Nat.lt_trans hij hj) hj hij (Option.some.inj e)
  · intro h i j hi hj hij e
    exact h i j hij hj (by rw [List.getElem?_eq_getElem hi, List.getElem?_eq_getElem hj, e])
theorem idp_nodup (ws : List Int) : (idp ws).Nodup := by
  rw [nodup_get]
  intro i j hij hj
  have hj' : j < ws.length := by rw [idp_len] at hj; exact hj
  have hi' : i < ws.length := Nat.lt_trans hij hj'
  have ei : ws[i]? = some ws[i] := List.getElem?_eq_getElem hi'
  have ej : ws[j]? = some ws[j] := List.getElem?_eq_getElem hj'
  rw [idp_at ei, idp_at ej]
  intro e
  have e' := Option.some.inj e
  have e1 : ws[i] = ws[j] := congrArg Prod.fst e'
  have e2 : (((ws.take i).count ws[i] : Nat) : Int) = ((ws.take j).count ws[j] : Nat) := congrArg Prod.snd e'
  have e3 : (ws.take i).count ws[i] = (ws.take j).count ws[j] := Int.ofNat.inj e2
  rw [← e1] at e3
  have s1 : List.Sublist ((ws.take (i + 1))) (ws.take j) := by
    have : ws.take (i + 1) = (ws.take j).take (i + 1) := by rw [List.take_take]; congr 1; omega
    rw [this]
    exact List.take_sublist _ _
  have c1 := s1.count_le ws[i]
  rw [List.take_add_one, ei, List.count_append] at c1
  have : List.count ws[i] (some ws[i]).toList = 1 := by simp
  omega
def pos (B : List IP) (x : IP) : Option Nat := if x ∈ B then some (B.idxOf x) else none
theorem pos_snoc {B : List IP} {b : IP} (hb : b ∉ B) (x : IP) : pos (B ++ [b]) x = if x = b then some B.length else pos B x := by
  unfold pos
  by_cases e : x = b
  · subst e
    rw [if_pos rfl, if_pos (by simp), List.idxOf_append, if_neg hb]
    simp
  · rw [if_neg e]
    by_cases m : x ∈ B
    · rw [if_pos m, if_pos (by simp [m]), List.idxOf_append, if_pos m]
    · rw [if_neg m, if_neg (by simp [m, e])]
theorem pos_take {B : List IP} (hB : B.Nodup) {i : Nat} {b : IP} (h : B[i]? = some b) (x : IP) : pos (B.take (i + 1)) x = if x = b then some i else pos (B.take i) x := by
  have hi : i < B.length := (List.getElem?_eq_some_iff.mp h).1
  have hb : b ∉ B.take i := by
    intro hm
    obtain ⟨j, hj⟩ := List.mem_iff_getElem?.mp hm
    have hji : j < i := by
      have := (List.getElem?_eq_some_iff.mp hj).1
      rw [List.length_take] at this
      omega
    rw [List.getElem?_take_of_lt hji] at hj
    exact (nodup_get.mp hB) j i hji hi (hj.trans h.symm)
  have e : B.take (i + 1) = B.take i ++ [b] := by rw [List.take_add_one, h]; rfl
  have := pos_snoc hb x
  rw [← e, List.length_take, Nat.min_eq_left (Nat.le_of_lt hi)] at this
  exact this
theorem pos_lt {B : List IP} {x : IP} {i : Nat} (h : pos B x = some i) : i < B.length ∧ B[i]? = some x := by
  unfold pos at h
  split at h
  · rename_i m
    cases h
    have hl := List.idxOf_lt_length_of_mem m
    exact ⟨hl, by rw [List.getElem?_eq_getElem hl, List.getElem_idxOf hl]⟩
  · cases h
/-- the key of an ident in a dict -/
def kk (x : IP) : List Key := [.inl x.1, .inl x.2]
theorem kk_inj {x y : IP} (h : kk x = kk y) : x = y := by
  have h' : [(Sum.inl x.1 : Key), .inl x.2] = [.inl y.1, .inl y.2] := h
  injection h' with h1 h2
  injection h2 with h2 _
  exact Prod.ext (Sum.inl.inj h1) (Sum.inl.inj h2)
/-- what a dict tells of idents -/
def Tells (kvs : List (List Key × V)) (B : List IP) : Prop := ∀ x, valV kvs (kk x) = (pos B x).map fun (i : Nat) => V.int (i : Int)
theorem tells_nil : Tells [] [] := fun x => by
  unfold pos
  rw [if_neg (by simp)]
  rfl
theorem tells_put {kvs : List (List Key × V)} {B : List IP} (hB : B.Nodup) {i : Nat} {b : IP} (h : B[i]? = some b) (t : Tells kvs (B.take i)) : Tells (putK kvs (kk b) (.int (i : Nat))) (B.take (i + 1)) := fun x => by
  rw [valV_put, pos_take hB h]
  by_cases e : x = b
  · subst e
    rw [if_pos rfl, if_pos rfl]
    rfl
  · rw [if_neg (fun z => e (kk_inj z)), if_neg e]
    exact t x
def mst (B : List IP) (x : IP) (j : Nat) : List IP := match pos B x with
  | some i => [((i : Int), (j : Int))]
  | none => []
def mt (B N : List IP) : List IP := (N.mapIdx fun j x => mst B x j).flatten
theorem mt_step (B : List IP) {N : List IP} {j : Nat} {x : IP} (h : N[j]? = some x) : mt B (N.take (j + 1)) = mt B (N.take j) ++ mst B x j := by
  have hj : j < N.length := (List.getElem?_eq_some_iff.mp h).1
  unfold mt
  rw [List.take_add_one, h]
  show (List.mapIdx _ (List.take j N ++ [x])).flatten = _
  rw [List.mapIdx_append, List.flatten_append]
  congr 1
  rw [List.length_take, Nat.min_eq_left (Nat.le_of_lt hj)]
  show [mst B x (0 + j)].flatten = _
  rw [Nat.zero_add]
  simp
theorem mst_take {B : List IP} (hB : B.Nodup) {i : Nat} {b : IP} (h : B[i]? = some b) (x : IP) (j : Nat) : mst (B.take (i + 1)) x j = mst (B.take i) x j ++ if b = x then [((i : Int), (j : Int))] else [] := by
  have hn : b = x → pos (B.take i) x = none := fun e => by
    subst e
    unfold pos
    rw [if_neg]
    intro hm
    obtain ⟨k, hk⟩ := List.mem_iff_getElem?.mp hm
    have hji : k < i := by
      have := (List.getElem?_eq_some_iff.mp hk).1
      rw [List.length_take] at this
      omega
    rw [List.getElem?_take_of_lt hji] at hk
    exact (nodup_get.mp hB) k i hji (List.getElem?_eq_some_iff.mp h).1 (hk.trans h.symm)
  unfold mst
  rw [pos_take hB h]
  by_cases e : x = b
  · rw [if_pos e, hn e.symm, if_pos e.symm]
    rfl
  · rw [if_neg e, if_neg (fun z => e z.symm), List.append_nil]
theorem mst_nil (x : IP) (j : Nat) : mst [] x j = [] := by
  unfold mst pos
  rw [if_neg (by simp)]
theorem mst_mem {B : List IP} {x : IP} {j : Nat} {p : IP} (h : p ∈ mst B x j) : ∃ i, i < B.length ∧ p = ((i : Int), (j : Int)) := by
  unfold mst at h
  split at h
  · rename_i i e
    exact ⟨i, (pos_lt e).1, List.mem_singleton.mp h⟩
  · exact nomatch h
theorem mt_mem {B N : List IP} {p : IP} (h : p ∈ mt B N) : ∃ i j : Nat, i < B.length ∧ j < N.length ∧ p = ((i : Int), (j : Int)) := by
  unfold mt at h
  obtain ⟨l, hl, hp⟩ := List.mem_flatten.mp h
  obtain ⟨j, hj, rfl⟩ := List.mem_mapIdx.mp hl
  obtain ⟨i, hi, e⟩ := mst_mem hp
  exact ⟨i, j, hi, hj, e⟩
theorem mst_len (B : List IP) (x : IP) (j : Nat) : (mst B x j).length ≤ 1 := by
  unfold mst
  split <;> simp
theorem mt_len (B N : List IP) : (mt B N).length ≤ N.length := by
  suffices h : ∀ n, n ≤ N.length → (mt B (N.take n)).length ≤ n by
    have := h N.length (Nat.le_refl _)
    rw [List.take_length] at this
    exact this
  intro n
  induction n with
  | zero => intro _; simp [mt]
  | succ n ih =>
    intro h
    rw [mt_step B (List.getElem?_eq_getElem (by omega : n < N.length)), List.length_append]
    have := ih (by omega)
    have := mst_len B N[n] n
    omega
/-- slips -/
def atI0 (l : List Int) (i : Int) : Int := l.getD i.toNat 0
theorem atI0_nat {l : List Int} {i : Nat} {x : Int} (h : l[i]? = some x) : atI0 l (i : Int) = x := by
  unfold atI0
  rw [Int.toNat_natCast, List.getD_eq_getElem?_getD, h]
  rfl
def sst (o n : List Int) (p : IP) : List IP := if atI0 o p.1 = atI0 n p.2 then [] else [(atI0 o p.1, atI0 n p.2)]
def slp (o n : List Int) (ms : List IP) : List IP := (ms.map (sst o n)).flatten
theorem slp_step (o n : List Int) {ms : List IP} {j : Nat} {p : IP} (h : ms[j]? = some p) : slp o n (ms.take (j + 1)) = slp o n (ms.take j) ++ sst o n p := by
  unfold slp
  rw [List.take_add_one, h, List.map_append, List.flatten_append]
  simp
theorem slp_len (o n : List Int) : ∀ ms : List IP, (slp o n ms).length ≤ ms.length
  | [] => Nat.le_refl _
  | p :: r => by
    have h1 := slp_len o n r
    have h2 : (sst o n p).length ≤ 1 := by unfold sst; split <;> simp
    show ((sst o n p) ++ slp o n r).length ≤ r.length + 1
    rw [List.length_append]
    omega
/-- lost items -/
def lst1 (o : List Int) (ms : List IP) (x : Int) (j : Nat) : List Int := if x ∈ o ∧ (((o.idxOf x : Nat) : Int), (j : Int)) ∉ ms then [x] else []
def lsts (o n : List Int) (ms : List IP) : List Int := (n.mapIdx fun j x => lst1 o ms x j).flatten
theorem lsts_step (o : List Int) (ms : List IP) {n : List Int} {j : Nat} {x : Int} (h : n[j]? = some x) : lsts o (n.take (j + 1)) ms = lsts o (n.take j) ms ++ lst1 o ms x j := by
  have hj : j < n.length := (List.getElem?_eq_some_iff.mp h).1
  unfold lsts
  rw [List.take_add_one, h]
  show (List.mapIdx _ (List.take j n ++ [x])).flatten = _
  rw [List.mapIdx_append, List.flatten_append]
  congr 1
  rw [List.length_take, Nat.min_eq_left (Nat.le_of_lt hj)]
  show [lst1 o ms x (0 + j)].flatten = _
  rw [Nat.zero_add]
  simp
theorem lsts_len (o n : List Int) (ms : List IP) : (lsts o n ms).length ≤ n.length := by
  suffices h : ∀ k, k ≤ n.length → (lsts o (n.take k) ms).length ≤ k by
    have := h n.length (Nat.le_refl _)
    rw [List.take_length] at this
    exact this
  intro k
  induction k with
  | zero => intro _; simp [lsts]
  | succ k ih =>
    intro h
    rw [lsts_step o ms (List.getElem?_eq_getElem (by omega : k < n.length)), List.length_append]
    have := ih (by omega)
    have : (lst1 o ms n[k] k).length ≤ 1 := by unfold lst1; split <;> simp
    omega
/-- deep facts of pairs -/
theorem pD_lay (p : IP) : (pD p).canLay0 = true := by simp [pD, PyData.canLay0, PyData.canLayAll0]
theorem pD_depth (p : IP) : (pD p).depth = 1 := by simp [pD, PyData.depth, PyData.depthAll]
theorem pDs_lay : ∀ ps : List IP, PyData.canLayAll0 (ps.map pD) = true
  | [] => rfl
  | p :: r => by simp [PyData.canLayAll0, pD_lay p, pDs_lay r]
theorem pDs_depth : ∀ ps : List IP, PyData.depthAll (ps.map pD) ≤ 1
  | [] => Nat.zero_le _
  | p :: r => by
    have := pDs_depth r
    simp only [List.map_cons, PyData.depthAll, pD_depth p]
    omega
theorem pD_shaped (p : IP) : SeqAt.shaped (pD p) = true := by
  refine Bool.and_eq_true_iff.mpr ⟨pD_lay p, decide_eq_true ?_⟩
  rw [pD_depth]
  decide
theorem pDs_shapedL (ps : List IP) : SeqAt.shaped (.list (ps.map pD)) = true := by
  refine Bool.and_eq_true_iff.mpr ⟨by simp [PyData.canLay0, pDs_lay ps], decide_eq_true ?_⟩
  have := pDs_depth ps
  simp only [PyData.depth]
  omega
theorem pDs_shapedT (ps : List IP) : SeqAt.shaped (.tuple (ps.map pD)) = true := by
  refine Bool.and_eq_true_iff.mpr ⟨by simp [PyData.canLay0, pDs_lay ps], decide_eq_true ?_⟩
  have := pDs_depth ps
  simp only [PyData.depth]
  omega
theorem pD_eqv (p q : IP) : PyData.eqv (pD p) (pD q) = decide (p = q) := by
  simp only [pD, PyData.eqv, PyData.eqvAll, Bool.and_true]
  rw [Bool.eq_iff_iff]
  simp only [Bool.and_eq_true, decide_eq_true_iff, beq_iff_eq, Prod.ext_iff]
theorem pD_any (ps : List IP) (p : IP) : ((ps.map pD).any fun z => PyData.eqv z (pD p)) = decide (p ∈ ps) := by
  rw [List.any_map, Bool.eq_iff_iff, List.any_eq_true, decide_eq_true_iff]
  constructor
  · rintro ⟨x, hx, e⟩
    have e' : PyData.eqv (pD x) (pD p) = true := e
    rw [pD_eqv, decide_eq_true_iff] at e'
    rw [← e']
    exact hx
  · intro h
    exact ⟨p, h, by show PyData.eqv (pD p) (pD p) = true; rw [pD_eqv]; exact decide_eq_true rfl⟩
end D
namespace D
open PySem PySem.Spec PyProof.Rows L2
/-! ### a list of data that grows beside -/
def Acc (M : Ms) (H : Hp) (D : Addr) (H' : Hp) (ys : List PyData) : Prop := H D = none ∧ Same H H' ∧ ∃ acc, H' D = some (.lst acc) ∧ RpAll (also M D) H' acc ys
theorem Acc.new {M : Ms} {H : Hp} {D : Addr} (hD : H D = none) : Acc M H D (upd H D (.lst [])) [] := ⟨hD, same_new hD, [], upd_same, .nil⟩
theorem Acc.keep {M : Ms} {H H1 H2 : Hp} {D : Addr} {ys : List PyData} (h : Acc M H D H1 ys) (s : Same H1 H2) : Acc M H D H2 ys := by
  obtain ⟨hD, s0, acc, e, r⟩ := h
  exact ⟨hD, s0.trans s, acc, s _ _ e, r.sx (Sx.same s)⟩
theorem Acc.same {M : Ms} {H H1 : Hp} {D : Addr} {ys : List PyData} (h : Acc M H D H1 ys) : Same H H1 := h.2.1
theorem Acc.at {M : Ms} {H H1 : Hp} {D : Addr} {ys : List PyData} (h : Acc M H D H1 ys) : ∃ acc, H1 D = some (.lst acc) ∧ acc.length = ys.length := by
  obtain ⟨hD, s0, acc, e, r⟩ := h
  exact ⟨acc, e, r.length⟩
theorem Acc.put {M : Ms} {H H1 : Hp} {D : Addr} {ys : List PyData} {v : V} {y : PyData} (h : Acc M H D H1 ys) (r : Rp (also M D) H1 v y) (hl : ys.length ≤ 1000000) : ∃ acc, H1 D = some (.lst acc) ∧ acc.length < sizeLine ∧ Acc M H D (upd H1 D (.lst (acc ++ [v]))) (ys ++ [y]) := by
  obtain ⟨hD, s0, acc, e, ra⟩ := h
  refine ⟨acc, e, small1000000 (by rw [ra.length]; exact hl), hD, same_put s0 hD, acc ++ [v], upd_same, ?_⟩
  exact (ra.append (.one r)).sx (Sx.put (.inr rfl))
theorem Acc.mk {M : Ms} {H H1 : Hp} {D : Addr} {ys : List PyData} (h : Acc M H D H1 ys) (hM : Mk M H) : Mk (also M D) H1 := by
  obtain ⟨hD, s0, acc, e, r⟩ := h
  exact (hM.gr (Gr.same s0)).also (ne_none e)
theorem Acc.fin {M : Ms} {H H1 : Hp} {D : Addr} {ys : List PyData} (h : Acc M H D H1 ys) (hM : Mk M H) : Ld M H1 D ys := by
  obtain ⟨hD, s0, acc, e, r⟩ := h
  exact ⟨hM.out hD, acc, e, r.less also_le⟩
theorem Acc.rp {M : Ms} {H H1 : Hp} {D : Addr} {ys : List PyData} (h : Acc M H D H1 ys) (hM : Mk M H) : Rp M H1 (.ref D) (.list ys) := (h.fin hM).rp
/-- what stood ahead is read in the same way beside the list -/
theorem Acc.old {M : Ms} {H H1 : Hp} {D : Addr} {ys : List PyData} {v : V} {d : PyData} (h : Acc M H D H1 ys) (r : Rp M H v d) : Rp (also M D) H1 v d := (r.fresh h.1).sx (Sx.same h.2.1)
theorem Acc.oldM {M : Ms} {H H1 : Hp} {D : Addr} {ys : List PyData} {v : V} {d : PyData} (h : Acc M H D H1 ys) (r : Rp M H v d) : Rp M H1 v d := r.sx (Sx.same h.2.1)
end D
namespace D
open PySem PySem.Spec PyProof.Rows L2
theorem Rp.newT {M : Ms} {H : Hp} {p : Addr} {us : List V} {ds : List PyData} (hM : Mk M H) (hp : H p = none) (r : RpAll M H us ds) : Rp M (upd H p (.tup us)) (.ref p) (.tuple ds) := .tup (hM.out hp) (.inl upd_same) (r.sx (Sx.new hp))
theorem Rp.newL {M : Ms} {H : Hp} {p : Addr} {us : List V} {ds : List PyData} (hM : Mk M H) (hp : H p = none) (r : RpAll M H us ds) : Rp M (upd H p (.lst us)) (.ref p) (.list ds) := .lst (hM.out hp) (.inl upd_same) (r.sx (Sx.new hp))
theorem Mk.new {M : Ms} {H : Hp} {p : Addr} {o : HO} (hM : Mk M H) : Mk M (upd H p o) := hM.gr Gr.upd
def unI : PyData → Int
  | .int i => i
  | _ => 0
theorem perm_ints {es : List PyData} {l : List Int} (h : es.Perm (l.map PyData.int)) : ∃ ns : List Int, ns.Perm l ∧ es = ns.map PyData.int := by
  refine ⟨es.map unI, ?_, ?_⟩
  · have h1 := h.map unI
    rw [List.map_map] at h1
    have e : l.map (unI ∘ PyData.int) = l := by
      have : (unI ∘ PyData.int) = id := rfl
      rw [this, List.map_id]
    rw [e] at h1
    exact h1
  · rw [List.map_map]
    have e : ∀ x ∈ es, (PyData.int ∘ unI) x = x := fun x hx => by
      obtain ⟨i, _, rfl⟩ := List.mem_map.mp (h.mem_iff.mp hx)
      rfl
    exact (List.map_id es).symm.trans (List.map_congr_left fun x hx => (e x hx).symm)
def ten : List Int := [0, 1, 2, 3, 4, 5, 6, 7, 8, 9]
theorem ten_take (n : Nat) : (ten.take n).Nodup ∧ ∀ x ∈ ten.take n, 0 ≤ x ∧ x ≤ 9 :=
  ⟨(show ten.Nodup by decide).sublist (List.take_sublist n ten), fun x hx => (show ∀ x ∈ ten, 0 ≤ x ∧ x ≤ 9 by decide) x (List.mem_of_mem_take hx)⟩
def mxd (m : Nat) (s : Fm) : Nat := max m s.dep
theorem FmAt.two {M : Ms} {H : Hp} {f : Fm} {xs : List V} (h : FmAt M H f xs) : (∃ y z, xs = [.str y, z] ∧ (y = sIs ∨ y = sGet) ∧ f.dep = 1) ∨ ∃ y r, xs = .str y :: r ∧ r ≠ [] ∧ y ≠ sIs ∧ y ≠ sGet ∧ RpAll M H r (f.subs.map Fm.enc) ∧ f.dep = f.subs.foldl mxd 0 + 1 := by
  cases h with
  | is n => exact .inl ⟨_, _, rfl, .inl rfl, rfl⟩
  | get x => exact .inl ⟨_, _, rfl, .inr rfl, rfl⟩
  | @sum f g u w a b =>
    refine .inr ⟨_, _, rfl, by simp, by decide +kernel, by decide +kernel, .cons a (.one b), ?_⟩
    show max f.dep g.dep + 1 = max (max 0 f.dep) g.dep + 1
    omega
  | @same f g u w a b =>
    refine .inr ⟨_, _, rfl, by simp, by decide +kernel, by decide +kernel, .cons a (.one b), ?_⟩
    show max f.dep g.dep + 1 = max (max 0 f.dep) g.dep + 1
    omega
  | @pick f g k u w z a b c =>
    refine .inr ⟨_, _, rfl, by simp, by decide +kernel, by decide +kernel, .cons a (.cons b (.one c)), ?_⟩
    show max f.dep (max g.dep k.dep) + 1 = max (max (max 0 f.dep) g.dep) k.dep + 1
    omega
theorem ints_mem {l : List Int} (h : ∀ n ∈ l, 0 ≤ n ∧ n ≤ 9) {v : V} (hv : v ∈ l.map V.int) : ∃ n, v = .int n ∧ 0 ≤ n ∧ n ≤ 9 := by
  obtain ⟨n, hn, rfl⟩ := List.mem_map.mp hv
  exact ⟨n, rfl, h n hn⟩
/-- a draw of a row -/
def DrR (K : PySem.W.Frag) (M : Ms) (b : Addr) (H : Hp) (R : List Int → Prop) (Q : VK) : Prop := ∀ v H' ns, Sx (one b) H H' → Gr H H' → Bag K M H' b → RowF M H' v ns → R ns → Q v H'
end D

namespace D
open PySem PySem.Spec PyProof.Rows L2
/-! ### rows that a key mixes up -/
theorem flat_ne {α β : Type} (f : α → List β) (l : List α) : (l.map f).flatten ≠ [] ↔ ∃ x ∈ l, f x ≠ [] := by
  induction l with
  | nil => simp
  | cons a r ih =>
    rw [List.map_cons, List.flatten_cons]
    constructor
    · intro h
      by_cases c : f a = []
      · rw [c, List.nil_append] at h
        obtain ⟨x, hx, e⟩ := ih.mp h
        exact ⟨x, List.mem_cons_of_mem _ hx, e⟩
      · exact ⟨a, List.mem_cons_self, c⟩
    · rintro ⟨x, hx, e⟩ z
      obtain ⟨z1, z2⟩ := List.append_eq_nil_iff.mp z
      rcases List.mem_cons.mp hx with rfl | hx
      · exact e z1
      · exact ih.mpr ⟨x, hx, e⟩ z2
theorem flat_ne_idx {α β : Type} (f : Nat → α → List β) (l : List α) : (l.mapIdx f).flatten ≠ [] ↔ ∃ (j : Nat) (x : α), l[j]? = some x ∧ f j x ≠ [] := by
  have h := flat_ne (fun y => y) (l.mapIdx f)
  rw [List.map_id'] at h
  rw [h]
  constructor
  · rintro ⟨y, hy, e⟩
    obtain ⟨j, hj⟩ := List.mem_iff_getElem?.mp hy
    rw [List.getElem?_mapIdx] at hj
    obtain ⟨x, hx, rfl⟩ := Option.map_eq_some_iff.mp hj
    exact ⟨j, x, hx, e⟩
  · rintro ⟨j, x, hx, e⟩
    exact ⟨f j x, List.mem_iff_getElem?.mpr ⟨j, by rw [List.getElem?_mapIdx, hx]; rfl⟩, e⟩
theorem pos_of {B : List IP} (hB : B.Nodup) {i : Nat} {x : IP} (h : B[i]? = some x) : pos B x = some i := by
  have hm : x ∈ B := List.mem_of_getElem? h
  have hi := (List.getElem?_eq_some_iff.mp h).1
  have h2 := List.idxOf_lt_length_of_mem hm
  have e2 : B[B.idxOf x]? = some x := by rw [List.getElem?_eq_getElem h2, List.getElem_idxOf h2]
  unfold pos
  rw [if_pos hm]
  rcases Nat.lt_trichotomy (B.idxOf x) i with c | c | c
  · exact absurd (e2.trans h.symm) (nodup_get.mp hB _ _ c hi)
  · rw [c]
  · exact absurd (h.trans e2.symm) (nodup_get.mp hB _ _ c h2)
theorem mem_mt {B N : List IP} (hB : B.Nodup) (i j : Nat) : ((i : Int), (j : Int)) ∈ mt B N ↔ ∃ x, B[i]? = some x ∧ N[j]? = some x := by
  constructor
  · intro h
    unfold mt at h
    obtain ⟨l, hl, hp⟩ := List.mem_flatten.mp h
    obtain ⟨k, hk, rfl⟩ := List.mem_mapIdx.mp hl
    unfold mst at hp
    cases e : pos B N[k] with
    | none => rw [e] at hp; exact nomatch hp
    | some m =>
      rw [e] at hp
      have hp' := List.mem_singleton.mp hp
      injection hp' with h1 h2
      have h1' : i = m := Int.ofNat.inj h1
      have h2' : j = k := Int.ofNat.inj h2
      subst h1' h2'
      exact ⟨_, (pos_lt e).2, List.getElem?_eq_getElem hk⟩
  · rintro ⟨x, h1, h2⟩
    unfold mt
    refine List.mem_flatten.mpr ⟨mst B x j, List.mem_iff_getElem?.mpr ⟨j, by rw [List.getElem?_mapIdx, h2]; rfl⟩, ?_⟩
    unfold mst
    rw [pos_of hB h1]
    exact List.mem_singleton.mpr rfl
def badB (o n : List Int) (B N : List IP) : Bool := !(slp o n (mt B N)).isEmpty || !(lsts o n (mt B N)).isEmpty
theorem idx_of {n : List Int} (h : n.Nodup) {i : Nat} {x : Int} (e : n[i]? = some x) : n.idxOf x = i := by
  have hi := (List.getElem?_eq_some_iff.mp e).1
  have hx : x ∈ n := List.mem_of_getElem? e
  have h2 := List.idxOf_lt_length_of_mem hx
  have e2 : n[n.idxOf x]? = some x := by rw [List.getElem?_eq_getElem h2, List.getElem_idxOf h2]
  rcases Nat.lt_trichotomy (n.idxOf x) i with c | c | c
  · exact absurd (e2.trans e.symm) (nodup_get.mp h _ _ c hi)
  · exact c
  · exact absurd (e.trans e2.symm) (nodup_get.mp h _ _ c h2)
theorem bad_iff {o n : List Int} {B N : List IP} (ho : o.Nodup) (hB : B.Nodup) (lB : B.length = o.length) (lN : N.length = n.length) :
    badB o n B N = true ↔ ∃ (i j : Nat) (x y : Int) (u v : IP), o[i]? = some x ∧ n[j]? = some y ∧ B[i]? = some u ∧ N[j]? = some v ∧ decide (u = v) ≠ decide (x = y) := by
  have e1 : badB o n B N = true ↔ (slp o n (mt B N) ≠ [] ∨ lsts o n (mt B N) ≠ []) := by
    unfold badB
    rw [Bool.or_eq_true]
    constructor
    · rintro (h | h)
      · left; intro z; rw [z] at h; exact nomatch h
      · right; intro z; rw [z] at h; exact nomatch h
    · rintro (h | h)
      · left; cases e : slp o n (mt B N) with
        | nil => exact absurd e h
        | cons a r => rfl
      · right; cases e : lsts o n (mt B N) with
        | nil => exact absurd e h
        | cons a r => rfl
  rw [e1]
  have at_ : ∀ {i : Nat}, i < o.length → ∃ u, B[i]? = some u := fun {i} h => ⟨B[i]'(by omega), List.getElem?_eq_getElem _⟩
  constructor
  · rintro (h | h)
    · obtain ⟨p, hp, e⟩ := (flat_ne (sst o n) (mt B N)).mp h
      obtain ⟨i, j, hi, hj, rfl⟩ := mt_mem hp
      obtain ⟨w, h1, h2⟩ := (mem_mt hB i j).mp hp
      have x1 : o[i]? = some (o[i]'(by omega)) := List.getElem?_eq_getElem _
      have x2 : n[j]? = some (n[j]'(by omega)) := List.getElem?_eq_getElem _
      refine ⟨i, j, _, _, w, w, x1, x2, h1, h2, ?_⟩
      rw [decide_eq_true rfl]
      intro z
      have z' := of_decide_eq_true z.symm
      apply e
      unfold sst
      rw [atI0_nat x1, atI0_nat x2, if_pos z']
    · obtain ⟨j, x, hx, e⟩ := (flat_ne_idx (fun j x => lst1 o (mt B N) x j) n).mp h
      have hc : x ∈ o ∧ (((o.idxOf x : Nat) : Int), (j : Int)) ∉ mt B N := by
        by_cases c : x ∈ o ∧ (((o.idxOf x : Nat) : Int), (j : Int)) ∉ mt B N
        · exact c
        · exact absurd (if_neg c) e
      have hix := List.idxOf_lt_length_of_mem hc.1
      have hj := (List.getElem?_eq_some_iff.mp hx).1
      obtain ⟨u, hu⟩ := at_ hix
      have hv : N[j]? = some (N[j]'(by omega)) := List.getElem?_eq_getElem _
      refine ⟨o.idxOf x, j, x, x, u, _, by rw [List.getElem?_eq_getElem hix, List.getElem_idxOf hix], hx, hu, hv, ?_⟩
      rw [decide_eq_true (show x = x from rfl)]
      intro z
      have z' := of_decide_eq_true z
      exact hc.2 ((mem_mt hB _ j).mpr ⟨u, hu, by rw [hv, z']⟩)
  · rintro ⟨i, j, x, y, u, v, hx, hy, hu, hv, hne⟩
    by_cases c : u = v
    · left
      subst c
      have hp : ((i : Int), (j : Int)) ∈ mt B N := (mem_mt hB i j).mpr ⟨u, hu, hv⟩
      refine (flat_ne (sst o n) (mt B N)).mpr ⟨_, hp, ?_⟩
      unfold sst
      rw [atI0_nat hx, atI0_nat hy, if_neg]
      · simp
      · intro z
        apply hne
        rw [decide_eq_true rfl, decide_eq_true z]
    · have xy : x = y := by
        by_cases z : x = y
        · exact z
        · exact absurd (by rw [decide_eq_false c, decide_eq_false z]) hne
      subst xy
      right
      refine (flat_ne_idx (fun j x => lst1 o (mt B N) x j) n).mpr ⟨j, x, hy, ?_⟩
      have hm : x ∈ o := List.mem_of_getElem? hx
      show lst1 o (mt B N) x j ≠ []
      unfold lst1
      rw [if_pos]
      · simp
      · refine ⟨hm, fun z => ?_⟩
        rw [idx_of ho hx] at z
        obtain ⟨w, h1, h2⟩ := (mem_mt hB i j).mp z
        exact c ((Option.some.inj (hu.symm.trans h1)).trans (Option.some.inj (h2.symm.trans hv)))
end D

namespace D
open PySem PySem.Spec PyProof.Rows L2
section
variable {X : Cx} {C g : Addr} {n : Nat} {CX : CXT} {sp : Sp} {E : XK} {fd : FuncData} {ps : List Str}
theorem room_in1 {A : Around} (r : Room (n + 1) A) : Room n A.in1 := ⟨r.hd, by have := r.dp; show A.depth + 3 * n + 5 < _; omega, by have := r.un; show A.units + 1 + 16 * n + 200 < _; omega⟩
/-- a def is run one step in -/
theorem run_in1 {pins : List (Addr × Obj)} {σ : L2.St} {H : Hp} {s : Shared} {Q : VK} {us : List Value} {vs : List V} (F : FnOk X.prog X.w X.K X.mg X.base CX n g fd ps sp) (hr : Room (n + 1) X.A) (hb : Binds X.K fd ps []) (hx : Passes CX X E)
    (I : Inv X pins σ H s) (r : Vals vs us) (h : sp vs H Q E) : wpAny (model X.prog X.w) X.A.in1 (call (.ref g) us) (EP X pins σ Q) X.xe s := by
  have hl : (us ++ []).length = ps.length := by rw [List.append_nil, ← r.length]; exact F.len _ _ _ _ h
  have bd := hb s us I.kIn hl
  rw [List.append_nil] at bd
  refine wpAny_call (codeAny_mono (F.run X.A.in1 X.stack s H ⟨us, []⟩ us vs Q E (room_in1 hr) I.env0.in1 bd r h) fun r s' hq => ?_)
  match r, hq with
  | .error e, hq => exact hx pins σ H s e s' I hq
  | .ok (.ret u), hq => exact I.after hq
  | .ok .next, hq => exact False.elim hq
  | .ok .brk, hq => exact False.elim hq
  | .ok .cont, hq => exact False.elim hq
/-- what an instance's own subscript reads: the def at g answers for the instance and the index -/
def tOwnIx (C : Addr) (sp : Sp) (E : XK) (to ti : TE) : TE := fun σ H Q => to σ H fun x H1 => ti σ H1 fun y H2 => ∃ a dx fs, x = .ref a ∧ H2 a = some (.ins C dx fs) ∧ sp [x, y] H2 Q E
theorem pe_ownIx {o i : Expr} {to ti : TE} {pos : Pos} (ho : PE X o to) (hi : PE X i ti) (hs : PySem.W.findIn X.K (.ref C) "__getitem__" = some (some (.ref g))) (hf : PySem.W.fnIn X.K g = true) (hg : PySem.W.isFn X.K (.ref g) = true)
    (F : FnOk X.prog X.w X.K X.mg X.base CX n g fd ps sp) (hb : Binds X.K fd ps []) (hr : Room (n + 1) X.A) (hx : Passes CX X E)
    (hsl : ∀ ov iv, subscripted i true ov iv = runValue (.builtin "lifetime.subscript" ⟨[ov, iv], []⟩)) : PE X (.Subscript o i pos) (tOwnIx C sp E to ti) := by
  refine ⟨fun pins s σ H Q I h => ?_⟩
  refine Subscript_ (thn (ho.run pins s σ H _ I h) fun ov s1 ⟨x, H1, I1, rx, q1⟩ => thn (hi.run pins s1 σ H1 _ I1 q1) fun iv s2 ⟨y, H2, I2, ry, a, dx, fs, ex, ha, q⟩ => ?_)
  subst ex
  obtain rfl : ov = Value.ref a := rx
  obtain ⟨mA, O, _⟩ := ins_get I2.hok ha
  obtain ⟨od, J, _⟩ := O.look
  obtain ⟨m, hF⟩ := I2.fr
  exact PySem.W.sub_K hF I2.ok.mod.kin J hs hf hg (run_in1 (us := [.ref a, iv]) (vs := [.ref a, y]) F hr hb hx I2 (.cons rfl (.cons ry .nil)) q) (hsl _ _)
/-- the store into an instance by its own def -/
theorem wp_ownPut {prog : Program} {w : World} {A : Around} {Ex : Value → Shared → Prop} {s : Shared} {K : PySem.W.Frag} {x C f : Addr} {ox : Obj} {od : Option Obj} {i v : Value} {Q : Unit → Shared → Prop} (hK : K.In s.heap) (J : PySem.W.InstAt s.heap x ox C od)
    (hq : PySem.W.noSeq K C = true) (hs : PySem.W.findIn K (.ref C) "__setitem__" = some (some (.ref f))) (hf : PySem.W.isFn K (.ref f) = true)
    (h : wpAny (model prog w) A (call (.ref f) [.ref x, i, v]) (fun _ => Q ()) Ex s) : wpAny (model prog w) A (setItem (.ref x) i v) Q Ex s := by
  unfold setItem sequenceKey
  have called : wpAny (model prog w) A (callSpecial? (.ref x) "__setitem__" [i, v]) (fun r => match r with | some _ => Q () | none => fun _ => False) Ex s :=
    PySem.W.special_fn hK J hs (beq_iff_eq.mp hf) h
  refine wpAny_holding (wpAny_bind (wpAny_bind (J.type.here (wpAny_bind ((PySem.W.anyM_none hK hq).here ?_)))))
  rw [if_pos (by rfl : (!false) = true)]
  refine wpAny_pure (wpAny_bind (wpAny_mono called (fun r s' z => ?_) fun _ _ z => z))
  match r, z with
  | some _, z => exact wpAny_pure z
/-- x[i] = v, an own def's store -/
def sOwnPut (C : Addr) (sp : Sp) (E : XK) (to ti tv : TE) : TS := fun D σ H => tv σ H fun v H1 => to σ H1 fun x H2 => ti σ H2 fun y H3 => ∃ a dx fs, x = .ref a ∧ H3 a = some (.ins C dx fs) ∧ sp [x, y, v] H3 (fun _ H4 => D.nx σ H4) E
theorem ps_ownPut {o i value : Expr} {pos pos' : Pos} {to ti tv : TE} (ho : PE X o to) (hi : PE X i ti) (hv : PE X value tv) (hq : PySem.W.noSeq X.K C = true) (hs : PySem.W.findIn X.K (.ref C) "__setitem__" = some (some (.ref g))) (hf : PySem.W.isFn X.K (.ref g) = true)
    (F : FnOk X.prog X.w X.K X.mg X.base CX n g fd ps sp) (hb : Binds X.K fd ps []) (hr : Room (n + 1) X.A) (hx : Passes CX X E) (sw : swapsWith value (some (.Subscript o i pos')) pos.line X.env = pure false) :
    PS X (.Assign [.Subscript o i pos'] value pos) (sOwnPut C sp E to ti tv) := by
  refine ⟨fun pins s σ H D I h => ?_⟩
  refine wpAny_Assign_Subscript (thn (hv.run pins s σ H _ I h) fun r s1 ⟨v, H1, I1, rv, q1⟩ => thn (ho.run pins s1 σ H1 _ I1 q1) fun u s2 ⟨x, H2, I2, rx, q2⟩ => thn (hi.run pins s2 σ H2 _ I2 q2) fun iv s3 ⟨y, H3, I3, ry, a, dx, fs, ex, ha, q⟩ => ?_) sw
  subst ex
  obtain rfl : u = Value.ref a := rx
  obtain ⟨mA, O, _⟩ := ins_get I3.hok ha
  obtain ⟨od, J, _⟩ := O.look
  refine wp_ownPut I3.kIn J hq hs hf (wpAny_mono (run_fn (us := [.ref a, iv, r]) (vs := [.ref a, y, v]) F (hr.mono (Nat.le_succ n)) hb .nil hx I3 (.cons rfl (.cons ry (.cons rv .nil))) q) (fun w s' z => ?_) fun _ _ z => z)
  obtain ⟨z', H', I', _, qz⟩ := z
  exact ⟨σ, H', I', qz⟩
theorem pi_zipAK {K : PySem.W.Frag} {e e2 : Expr} {ta : TA} {p pos tpos : Pos} {elts : List Expr} {kk : Nat} (hK : X.K = K) (hg : Gl X "zip") (hm : X.mg "zip" = none) (ha : PA X [e, e2] ta)
    (hs : starEach [e, e2] X.env = (false, eval e X.env) :: starEach [e2] X.env := by rfl) (hpl : (backTo pos (starEach [e2] X.env)).any (·.1) = false := by rfl) :
    PI X (.Tuple elts kk tpos) (.Call (.Name "zip" p) [e, e2] [] pos) (RZ.iZipA K ta) := by subst hK; exact RZ.pi_zipA hg hm ha hs hpl
end
/-- the loop over two tuples side by side, whatever its body -/
theorem zipT_loop {K : PySem.W.Frag} {a b : Addr} {xs ys : List V} {Qd : Hp → Prop} {H0 : Hp} {B : V → Hp → (Hp → Prop) → Prop} (he : xs.length = ys.length) (Pv : Nat → Hp → Prop) (h0 : Pv 0 H0) (hl : ∀ i H, i ≤ xs.length → Pv i H → SqT K H a xs ∧ SqT K H b ys)
    (hs : ∀ i x y T H, xs[i]? = some x → ys[i]? = some y → H T = none → Pv i H → B (.ref T) (upd H T (.tup [x, y])) (Pv (i + 1))) (hd : ∀ H, Pv xs.length H → Qd H) :
    ∃ W : Nat → Nat → Hp → Prop, (∃ m, W 0 m H0) ∧ ∀ i m H, W i m H → ((RZ.ItzT K a b).stop i H ∧ Qd H) ∨ ((RZ.ItzT K a b).go i H ∧ ∃ Nx : Hp → Prop, (∀ H', Nx H' → ∃ m', m' < m ∧ W (i + 1) m' H') ∧ ∀ x H', (RZ.ItzT K a b).yld i H x H' → B x H' Nx) := by
  refine ⟨fun i m H => m = xs.length - i ∧ i ≤ xs.length ∧ Pv i H, ⟨_, rfl, Nat.zero_le _, h0⟩, ?_⟩
  rintro i m H ⟨rfl, hi, p⟩
  obtain ⟨q1, q2⟩ := hl i H hi p
  by_cases hlt : i < xs.length
  · refine .inr ⟨⟨xs, ys, xs[i], ys[i]'(by omega), q1, q2, by simp [hlt], List.getElem?_eq_getElem _⟩, Pv (i + 1), fun H' p' => ⟨xs.length - (i + 1), by omega, rfl, hlt, p'⟩, fun x H' y => ?_⟩
    obtain ⟨T, u, v, rfl, hT, rfl, z1, z2⟩ := y
    exact hs i u v T _ (z1 xs q1) (z2 ys q2) hT p
  · have e : i = xs.length := by omega
    subst e
    exact .inl ⟨⟨xs, ys, q1, q2, .inl (Nat.le_refl _)⟩, hd H p⟩
/-- keys of pairs -/
def idk (p : IP) : List Key := [.inl p.1, .inl p.2]
theorem idk_inj {p q : IP} (h : idk p = idk q) : p = q := by
  unfold idk at h
  injection h with h1 h2
  injection h2 with h2 _
  exact Prod.ext (Sum.inl.inj h1) (Sum.inl.inj h2)
theorem idk_kV (p : IP) : (idk p).map kV = [.int p.1, .int p.2] := rfl
/-- a dict of whole numbers by pairs -/
def DN (kvs : List (List Key × V)) (N : IP → Option Int) : Prop := ∀ p : IP, valV kvs (idk p) = (N p).map V.int
def shownN (l : List IP) (N : IP → Option Int) : IP → Option Int := fun x => if x ∈ l then some ((N x).getD 0) else none
theorem DN.put {kvs : List (List Key × V)} {N : IP → Option Int} (h : DN kvs N) (p : IP) (w : Int) : DN (putK kvs (idk p) (.int w)) (fun x => if x = p then some w else N x) := fun x => by
  rw [valV_put]
  dsimp only
  by_cases c : x = p
  · rw [if_pos (by rw [c]), if_pos c]
    rfl
  · rw [if_neg (fun z => c (idk_inj z)), if_neg c]
    exact h x
theorem DN.show {kvs : List (List Key × V)} {N : IP → Option Int} {l : List IP} {n : IP} (h : DN kvs (shownN l N)) : DN (putK kvs (idk n) (.int ((N n).getD 0))) (shownN (l ++ [n]) N) := fun x => by
  rw [h.put n _ x]
  unfold shownN
  dsimp only
  by_cases c : x = n
  · subst c
    rw [if_pos rfl, if_pos (List.mem_append_right _ (List.mem_singleton.mpr rfl))]
  · rw [if_neg c]
    by_cases d : x ∈ l
    · rw [if_pos d, if_pos (List.mem_append_left _ d)]
    · rw [if_neg d, if_neg (fun z => (List.mem_append.mp z).elim d fun e => c (List.mem_singleton.mp e))]
theorem putK_len {κ : Type} [DecidableEq κ] {c : List (κ × V)} {k : κ} {x y : V} (h : valV c k = some y) : (putK c k x).length = c.length := by
  unfold putK
  rw [if_pos]
  · exact List.length_map _
  · unfold valV at h
    obtain ⟨q, hq, _⟩ := Option.map_eq_some_iff.mp h
    have hq2 := List.find?_some (p := fun kv : κ × V => decide (kv.1 = k)) hq
    exact List.any_eq_true.mpr ⟨q, List.mem_of_find?_eq_some hq, hq2⟩
theorem putK_more {κ : Type} [DecidableEq κ] (c : List (κ × V)) (k : κ) (x : V) : (putK c k x).length ≤ c.length + 1 := by
  unfold putK
  split
  · rw [List.length_map]; omega
  · rw [List.length_append]; exact Nat.le_refl _
end D

namespace D
open PySem PySem.Spec PyProof.Rows L2
section
variable {X : Cx} {es : List Expr} {t : TA} {pos : Pos}
theorem pe_notTK {K : PySem.W.Frag} {a : Expr} {ta : TE} (hK : X.K = K) (ha : PE X a ta) : PE X (.UnaryOp .Not a pos) (tNotT K ta) := by subst hK; exact pe_notT ha
/-- a written tuple, known to its object -/
def tTupF (t : TA) : TE := fun σ H Q => t σ H fun xs H1 => xs.length ≤ sizeLine ∧ ∀ p o, H1 p = none → o.cls = .type "tuple" → o.dict = none → Q (.ref p) (upd H1 p (.frz o (.tup xs)))
theorem pe_tupF {x1} (h : PA X es t) : PE X (.Tuple es x1 pos) (tTupF t) := by
  refine ⟨fun held st sl G C J want => ?_⟩
  refine wpAny_Tuple_spliced (thn (h.run pos held st sl G _ J want) fun vals st2 ⟨items, G2, J2, rel, fits, fin⟩ => ⟨by rw [← rel.length]; exact fits, ?_⟩)
  have unused : G2 st2.heap.objs.size = none := J2.hok.fresh (Nat.le_refl _)
  let made : Obj := { cls := .type "tuple", data := .seq vals.toArray }
  refine ⟨.ref st2.heap.objs.size, upd G2 st2.heap.objs.size (.frz made (.tup items)), J2.laid (t' := st2.toks) (fun _ _ old => Heap.get?_push_of_some _ old) (Nat.le_refl _) ?_, rfl, fin _ made unused rfl rfl⟩
  exact (show ObjOk X.prog X.w _ _ _ (.frz made (.tup items)) from ⟨Heap.get?_push_size _ rfl, fits, vals, rel, ⟨_, Heap.get?_push_size _ rfl, rfl, _, rfl⟩⟩)
/-- t + u, known to its object -/
def rCatF (K : PySem.W.Frag) : R2 := fun x y H Q => ∃ a b xs ys, x = .ref a ∧ y = .ref b ∧ SqT K H a xs ∧ SqT K H b ys ∧ xs.length + ys.length ≤ sizeLine ∧
  (xs = [] → Q (.ref b) H) ∧ (xs ≠ [] → ys = [] → Q (.ref a) H) ∧ (xs ≠ [] → ys ≠ [] → ∀ p o, H p = none → o.cls = .type "tuple" → o.dict = none → Q (.ref p) (upd H p (.frz o (.tup (xs ++ ys)))))
theorem op_catF {K : PySem.W.Frag} (hK : X.K = K) : OpR X (binaryOp .Add) (rCatF K) := by
  subst hK
  intro held st sl G x y v u C J relx rely want
  obtain ⟨one', two, left, right, rfl, rfl, readL, readR, fits, none1, none2, both⟩ := want
  by_cases emp : left = []
  · exact op_catA held st sl G _ _ v u C J relx rely ⟨one', two, left, right, rfl, rfl, readL, readR, fits, none1, fun no => absurd emp no, fun no => absurd emp no⟩
  cases relx
  cases rely
  obtain ⟨itemsL, relL, tupL, _⟩ := J.tuple readL
  obtain ⟨itemsR, relR, tupR, _⟩ := J.tuple readR
  refine HT.cat_tup tupL tupR (fun no => emp (relL.nil_iff.mp no)) (fun no => ⟨.ref one', G, J, rfl, none2 emp (relR.nil_iff.mp no)⟩) (fun full => ?_) (by rw [← relL.length, ← relR.length]; exact fits)
  let made : Obj := { cls := .type "tuple", data := .seq (itemsL ++ itemsR).toArray }
  refine ⟨.ref st.heap.objs.size, _, J.laid (t' := st.toks) (o := .frz made (.tup (left ++ right))) (fun _ _ old => Heap.get?_push_of_some _ old) (Nat.le_refl _) ?_, rfl, both emp (fun no => full (relR.nil_iff.mpr no)) _ made (J.hok.fresh (Nat.le_refl _)) rfl rfl⟩
  exact ⟨Heap.get?_push_size _ rfl, by rw [List.length_append]; exact fits, _, relL.append relR, IsTup.new _ _⟩
theorem dcG_core {pins : List (Addr × Obj)} {s : Shared} {σ : L2.St} {H : Hp} {Q : VK} {O : Addr → HO} {Put : Addr → (Hp → Prop) → V → V → Hp → Prop} {kx vx tgt it : Expr} {ifs : List Expr} {sc : Scope} {own : List (Str × Nat)} {pos pos' : Pos} {walk : TI} {g : TG} {tt : TT} {tk tv : TE} {use : Option (Value → Sem Unit)} {Qf : Value → Shared → Prop}
    (mk0 : ∀ (H : Hp) (h : Heap), sysModules < h.objs.size → ObjOk X.prog X.w H (h.push { cls := .type "dict", data := .dict #[] }) h.objs.size (O h.objs.size)) (store : Stores X Put) (calm : X.calm = true) (nod : X.N.Nodup) (I : Inv X pins σ H s)
    (pi : PI X tgt it walk) (bo : BlkOk X.N X.env.scope sc own) (pg : InBlk X sc fun B => PG B tgt g) (pt : InBlk X sc fun B => PTs B ifs tt) (pk : InBlk X sc fun B => PE B kx tk) (pv : InBlk X sc fun B => PE B vx tv)
    (plain : ∀ x, foldedSetIterable it X.env x = pure x) (h : tDcG O Put walk g tt tk tv (own.map (·.2)) σ H Q)
    (behind : ∀ made frame st names G, Inv X pins σ G st → Q (.ref made) G → st.heap.Ns frame names → FpOk X pins G frame → compPost (model X.prog X.w) X.A X.xe use Qf (.ref made) frame (.ok .next) st) :
    wpAny (model X.prog X.w) X.A (comprehension (.DictComp kx vx [⟨tgt, it, ifs, 0⟩] sc pos) sc X.env pos' newDict false (eval it X.env) use) Qf X.xe s := by
  have free : ∀ y ∈ sc.names, y.2 = .free → ∃ c, X.env.cells.lookup y.1 = some c := fun y hy e => (bo.free y hy e).elim (fun k => I.ok.has _ (.inl k)) fun k => I.ok.has _ (.inr k)
  refine wpAny_comprehension_free (use := use) rfl plain (closure_ok free) bo.kind (fun y hy e => by rw [bo.uniq y hy, e]) ?_
  -- what is walked, then the empty dict
  refine thn (pi.run pins s σ H _ I h) fun xv s1 hx => thn hx ?_
  rintro itv s2 ⟨ad, feet, tn, J, H2, rfl, I2, T, at2, ft2, q⟩
  refine wpAny_newObj_type (newEnv_comp ?_)
  have fresh : H2 s2.heap.objs.size = none := I2.hok.fresh (Nat.le_refl _)
  obtain ⟨W, ⟨m0, w0⟩, turn⟩ := q _ fresh
  let s3 : Shared := { s2 with heap := s2.heap.push { cls := .type "dict", data := .dict #[] } }
  let D : Addr := s2.heap.objs.size
  let H3 : Hp := upd H2 D (O D)
  let L : Addr := s3.heap.objs.size
  let e3 : Env := compEnvC sc (cellsFrom (L + 1) sc.names (cloFrom X.env.cells sc.names [])) L X.env
  let s4 : Shared := { s3 with heap := pushCells (s3.heap.push { cls := .type "dict", data := .dict #[] }) sc.names }
  have I3 : Inv X pins σ H3 s3 := I2.laid (t' := s2.toks) (fun _ _ e => Heap.get?_push_of_some _ e) (Nat.le_refl _) (mk0 _ s2.heap I2.big)
  have grown : ∀ b o, s2.heap.get? b = some o → s3.heap.get? b = some o := fun _ _ e => Heap.get?_push_of_some _ e
  have low : ∀ b ∈ feet, b < s2.heap.objs.size := fun b hb => Heap.lt_size (T.obj _ _ at2 b hb).choose_spec.1
  have ft3 : ∀ b ∈ feet, FpOk X pins H3 b ∧ b < s3.heap.objs.size := fun b hb => ⟨⟨(upd_ne (Nat.ne_of_lt (low b hb))).trans (ft2 b hb).1, (ft2 b hb).2⟩, by show b < (s2.heap.push _).objs.size; rw [Heap.size_push]; exact Nat.lt_succ_of_lt (low b hb)⟩
  have at3 : tn 0 s3.heap := T.keep _ _ _ at2 fun b _ o e => grown b o e
  have I4 : Inv (X.blk s3 H3 sc e3 feet) [] (wipe σ (own.map (·.2))) H3 s4 := block_start I3 bo nod ft3
  have at4 : tn 0 s4.heap := T.keep _ _ _ at3 fun b _ o e => pushCells_keeps _ _ _ _ (Heap.get?_push_of_some _ e)
  -- the walker's own objects in the block's context
  have foot : ∀ {σ' : L2.St} {G : Hp} {t : Shared}, Inv (X.blk s3 H3 sc e3 feet) [] σ' G t → (∀ b ∈ feet, G b = none) → ∀ b ∈ feet, FpOk (X.blk s3 H3 sc e3 feet) [] G b := by
    intro σ' G t J' none b hb
    refine ⟨none b hb, (J'.ok.exf b hb).1, J'.ok.exfs b hb, .inl hb, fun x c e => (J'.ok.exf b hb).2 x c e, ?_⟩
    intro p hp
    exact nomatch (show p ∈ ([] : List (Addr × Obj)) from by simpa using hp)
  have loop : codeAny (model X.prog X.w) X.A (.compLoop (.DictComp kx vx [⟨tgt, it, ifs, 0⟩] sc pos) 0 (.ref ad) (.ref D) e3) (compPost (model X.prog X.w) X.A X.xe use Qf (.ref D) L) s4 := by
    refine compLoop_anyD (fun n t => ∃ i G, Inv (X.blk s3 H3 sc e3 feet) [] (wipe σ (own.map (·.2))) G t ∧ tn i t.heap ∧ (∀ b ∈ feet, G b = none) ∧ W i n G) ?_ m0 ⟨0, H3, I4, at4, fun b hb => (ft3 b hb).1.1, w0⟩
    rintro n t ⟨i, G, IG, atG, nG, wG⟩
    obtain ⟨stop, fin⟩ | ⟨go, N, less, step⟩ := turn i n G wG
    · refine thnF (T.done (X.blk s3 H3 sc e3 feet) rfl rfl rfl calm i [] t _ G (fun _ _ => False) IG (foot IG nG) atG stop) ?_
      rintro r t6 ⟨rfl, I6⟩
      have I7 : Inv X pins σ G t6 := I3.call' (ch := feet) I6.os I6.base I6.hok I6.bare fun b hb => let z := (ft3 b hb).1.2; ⟨z.2.2.1, z.1, z.2.2.2.1, z.2.2.2.2⟩
      obtain ⟨m, names, _⟩ := I6.loc
      exact behind D L t6 m G I7 fin names (I3.fpOk (Nat.le_refl _) (show G L = none from I6.free))
    · refine thnF (T.item (X.blk s3 H3 sc e3 feet) rfl rfl rfl calm i [] t _ G (fun _ _ => False) IG (foot IG nG) atG go) ?_
      rintro r t6 ⟨u, rfl, h6⟩
      refine thnF h6 ?_
      rintro _ t7 ⟨x, G7, I7, r7, y7, at7, n7⟩
      refine thnF ((pg _ _ _ _ _).run _ t7 _ G7 x u _ (I7.pinned (foot I7 n7) (T.obj _ _ at7)) r7 (step x G7 y7)) ?_
      rintro _ t8 ⟨σ8, G8, I8, wp8, q8⟩
      refine thnF ((pt _ _ _ _ _).run _ t8 σ8 G8 _ I8 q8) ?_
      rintro b t9 ⟨G9, I9, q9⟩
      have back : ∀ {t' : Shared} {G' : Hp}, Inv (X.blk s3 H3 sc e3 feet) ([] ++ pinsAt feet t7.heap) σ8 G' t' → N G' → ∃ m, m < n ∧ ∃ i G, Inv (X.blk s3 H3 sc e3 feet) [] (wipe σ (own.map (·.2))) G t' ∧ tn i t'.heap ∧ (∀ b ∈ feet, G b = none) ∧ W i m G := by
        intro t' G' I' nx
        obtain ⟨m', lt, w'⟩ := less G' nx
        have held : ∀ b ∈ feet, ∀ o, t7.heap.get? b = some o → t'.heap.get? b = some o ∧ G' b = none := fun b hb o e => let z := I'.pin (b, o) (List.mem_append_right _ (List.mem_append_right _ (mem_pinsAt hb e))); ⟨z.1, z.2.1⟩
        refine ⟨m', lt, i + 1, G', I'.unpinned.weak (by rw [← wp8, wipe_length]) fun j v e => ?_, T.keep _ _ _ at7 fun b hb o e => (held b hb o e).1, fun b hb => ?_, w'⟩
        · exact (wipe_some (wp8 ▸ e)).1
        · obtain ⟨o, e, _⟩ := T.obj _ _ at7 b hb
          exact (held b hb o e).2
      by_cases yes : b = true
      · subst yes
        refine thnF ((pk _ _ _ _ _).run _ t9 σ8 G9 _ I9 q9) ?_
        rintro ku t10 ⟨ky, G10, I10, r10, q10⟩
        refine thnF ((pv _ _ _ _ _).run _ t10 σ8 G10 _ I10 q10) ?_
        rintro vu t11 ⟨vy, G11, I11, r11, putting⟩
        exact store (X.blk s3 H3 sc e3 feet) _ _ _ _ _ _ _ _ _ _ _ _ rfl rfl rfl rfl I11 putting r10 r11 fun t12 G12 I12 nx => back I12 nx
      · have no : b = false := by cases b with | true => exact absurd rfl yes | false => rfl
        subst no
        exact back I9 q9
  exact codeAny_compStart_dict loop (T.self X.A 0 _ _ _ at4 loop)
theorem ps_setDcG {i : Nat} {y : Str} {py : Pos} {O : Addr → HO} {Put : Addr → (Hp → Prop) → V → V → Hp → Prop} {kx vx tgt it : Expr} {ifs : List Expr} {sc : Scope} {own : List (Str × Nat)} {pos spos : Pos} {walk : TI} {g : TG} {tt : TT} {tk tv : TE}
    (mk0 : ∀ (H : Hp) (h : Heap), sysModules < h.objs.size → ObjOk X.prog X.w H (h.push { cls := .type "dict", data := .dict #[] }) h.objs.size (O h.objs.size)) (store : Stores X Put) (calm : X.calm = true) (nod : X.N.Nodup) (hy : X.N[i]? = some y) (hyl : X.env.scope.names.lookup y = some .local)
    (hsw : swapsWith (.DictComp kx vx [⟨tgt, it, ifs, 0⟩] sc pos) (some (.Name y py)) spos.line X.env = pure true)
    (pi : PI X tgt it walk) (bo : BlkOk X.N X.env.scope sc own) (pg : InBlk X sc fun B => PG B tgt g) (pt : InBlk X sc fun B => PTs B ifs tt) (pk : InBlk X sc fun B => PE B kx tk) (pv : InBlk X sc fun B => PE B vx tv)
    (plain : ∀ x, foldedSetIterable it X.env x = pure x := by intro _; rfl) :
    PS X (.Assign [.Name y py] (.DictComp kx vx [⟨tgt, it, ifs, 0⟩] sc pos) spos) (tAsg (tDcG O Put walk g tt tk tv (own.map (·.2))) (gName i)) := by
  refine ⟨fun held st sl G ends J want => ?_⟩
  rw [exec_Assign_Name_used _ _ _ _ hsw]
  refine wpAny_bind (wpAny_standAt ?_)
  refine wpAny_bind ?_
  show wpAny _ X.A (do let _ ← comprehension (.DictComp kx vx [⟨tgt, it, ifs, 0⟩] sc pos) sc X.env (firstIterPos [⟨tgt, it, ifs, 0⟩] pos) newDict false (eval it X.env) (some (assign (.Name y py) X.env))) _ _ st
  have want : tDcG O Put walk g tt tk tv (own.map (·.2)) sl G (fun x G1 => gName i x sl G1 ends.nx) := want
  refine wpAny_bind (thn (dcG_core (Qf := fun _ st' => SP X held ends .next st') mk0 store calm nod J pi bo pg pt pk pv plain want fun made frame st2 names G2 J2 fin ns foot => ?_) fun _ _ last => wpAny_pure (wpAny_pure last))
  show wpAny _ _ (assign (.Name y py) X.env (.ref made)) _ _ _
  refine wpAny_assign_Name (store_ok2 (v := V.ref made) J2 nod hy (.inl hyl) rfl (fun st3 J3 ⟨place, same, way⟩ => ?_) (.inr hyl))
  obtain ⟨c0, c1, c2, c3, c4, c5⟩ := foot
  have apart : frame ≠ place := by
    rcases way with way | way
    · rw [way]; exact c1
    · exact fun e => c4 y place way e.symm
  refine ⟨names, ns.sameBut same apart, fun st4 same4 => ?_⟩
  exact ⟨_, G2, J3.turned (t' := st3.toks) (fun b _ out e => (same4.2 b out).trans e) c0 c1 c3 c4 c5, fin⟩
theorem sw_trueD {kx vx : Expr} {gs : List Comprehension} {scope : Scope} {pos py : Pos} {y : Str} {l : Nat} {env : Env} (hk : env.scope.kind = .function) (hy : env.scope.names.lookup y = some .local) (hl : (py.line == pos.line) = true)
    (ha : (scope.names.any fun (n, k) => n == y && (k == .local || k == .cell)) = false) : swapsWith (.DictComp kx vx gs scope pos) (some (.Name y py)) l env = pure true := by
  have kind : env.kindOf y = some .local := hy
  have block : env.blockKind = .function := by
    unfold Env.blockKind
    rw [hk]
    rfl
  unfold swapsWith
  simp only [block, kind, ha, Expr.pos, hl]
  rfl
theorem ps_setDcX {P : Program} {w : World} (hP : X.prog = P) (hw : X.w = w) {i : Nat} {y : Str} {py : Pos} {kx vx tgt it : Expr} {ifs : List Expr} {sc : Scope} {own : List (Str × Nat)} {pos spos : Pos} {walk : TI} {g : TG} {tt : TT} {tk tv : TE} (hu : X.A.units + 1 < cLine) (calm : X.calm = true) (nod : X.N.Nodup) (hy : X.N[i]? = some y) (hyl : X.env.scope.names.lookup y = some .local)
    (hsw : swapsWith (.DictComp kx vx [⟨tgt, it, ifs, 0⟩] sc pos) (some (.Name y py)) spos.line X.env = pure true)
    (pi : PI X tgt it walk) (bo : BlkOk X.N X.env.scope sc own) (pg : InBlk X sc fun B => PG B tgt g) (pt : InBlk X sc fun B => PTs B ifs tt) (pk : InBlk X sc fun B => PE B kx tk) (pv : InBlk X sc fun B => PE B vx tv)
    (plain : ∀ x, foldedSetIterable it X.env x = pure x := by intro _; rfl) :
    PS X (.Assign [.Name y py] (.DictComp kx vx [⟨tgt, it, ifs, 0⟩] sc pos) spos) (tAsg (tDcX P w walk g tt tk tv (own.map (·.2))) (gName i)) := by
  subst hP hw
  exact ps_setDcG (fun H h b => dXo_empty H h b) (stores_X hu) calm nod hy hyl hsw pi bo pg pt pk pv plain
theorem ps_setDcT {i : Nat} {y : Str} {py : Pos} {kx vx tgt it : Expr} {ifs : List Expr} {sc : Scope} {own : List (Str × Nat)} {pos spos : Pos} {walk : TI} {g : TG} {tt : TT} {tk tv : TE} (hu : X.A.units + 1 < cLine) (calm : X.calm = true) (nod : X.N.Nodup) (hy : X.N[i]? = some y) (hyl : X.env.scope.names.lookup y = some .local)
    (hsw : swapsWith (.DictComp kx vx [⟨tgt, it, ifs, 0⟩] sc pos) (some (.Name y py)) spos.line X.env = pure true)
    (pi : PI X tgt it walk) (bo : BlkOk X.N X.env.scope sc own) (pg : InBlk X sc fun B => PG B tgt g) (pt : InBlk X sc fun B => PTs B ifs tt) (pk : InBlk X sc fun B => PE B kx tk) (pv : InBlk X sc fun B => PE B vx tv)
    (plain : ∀ x, foldedSetIterable it X.env x = pure x := by intro _; rfl) :
    PS X (.Assign [.Name y py] (.DictComp kx vx [⟨tgt, it, ifs, 0⟩] sc pos) spos) (tAsg (tDcT walk g tt tk tv (own.map (·.2))) (gName i)) :=
  ps_setDcG (fun _ h b => dt_empty h b) (stores_T hu) calm nod hy hyl hsw pi bo pg pt pk pv plain
end
/-- a row with one item more -/
theorem cat_row {K : PySem.W.Frag} {M : Ms} {H : Hp} {v u : V} {r : List Int} {x : Int} {Q : VK} (h : RowF M H v r) (hu : RowF M H u [x]) (lr : r.length ≤ 1000) (hM : Mk M H) (q : ∀ z H', Same H H' → RowF M H' z (r ++ [x]) → Q z H') : rCatF K v u H Q := by
  obtain ⟨a, o, rfl, na, ha, h1, h2⟩ := id h
  obtain ⟨b, o2, rfl, nb, hb, h3, h4⟩ := id hu
  refine ⟨a, b, _, _, rfl, rfl, .inl (.inr ⟨o, ha⟩), .inl (.inr ⟨o2, hb⟩), ?_, fun z => ?_, fun _ z => absurd z (by simp), fun z _ p o3 hp h5 h6 => ?_⟩
  · rw [List.length_map]
    exact Nat.le_of_lt (small1000000 (by show _ + 1 ≤ _; omega))
  · have e : r = [] := by simpa using z
    subst e
    exact q _ _ (Same.refl _) hu
  · refine q _ _ (same_new hp) ⟨p, o3, rfl, hM.out hp, ?_, h5, h6⟩
    rw [upd_same, List.map_append]
theorem row_new {M : Ms} {H : Hp} {p : Addr} {o : Obj} {ns : List Int} (hM : Mk M H) (hp : H p = none) (h1 : o.cls = .type "tuple") (h2 : o.dict = none) : RowF M (upd H p (.frz o (.tup (ns.map V.int)))) (.ref p) ns := ⟨p, o, rfl, hM.out hp, upd_same, h1, h2⟩
/-- rows in a list -/
def RowsAt (good : List Int → Prop) (M : Ms) (H : Hp) (xs : List V) (nss : List (List Int)) : Prop := xs.length = nss.length ∧ ∀ (i : Nat) (ns : List Int), nss[i]? = some ns → ∃ w, xs[i]? = some w ∧ RowF M H w ns ∧ good ns
section
variable {good : List Int → Prop} {M : Ms} {H H' : Hp} {xs : List V} {nss : List (List Int)}
theorem RowsAt.get (h : RowsAt good M H xs nss) {i : Nat} {x : V} (hx : xs[i]? = some x) : ∃ ns, nss[i]? = some ns ∧ RowF M H x ns ∧ good ns := by
  have hi : i < nss.length := by rw [← h.1]; exact (List.getElem?_eq_some_iff.mp hx).1
  obtain ⟨w, hw, q, g⟩ := h.2 i _ (List.getElem?_eq_getElem hi)
  rw [hx] at hw
  cases hw
  exact ⟨_, List.getElem?_eq_getElem hi, q, g⟩
theorem RowsAt.mem (h : RowsAt good M H xs nss) {x : V} (hx : x ∈ xs) : ∃ ns, ns ∈ nss ∧ RowF M H x ns ∧ good ns := by
  obtain ⟨i, hi⟩ := List.mem_iff_getElem?.mp hx
  obtain ⟨ns, h1, h2, h3⟩ := h.get hi
  exact ⟨ns, List.mem_of_getElem? h1, h2, h3⟩
theorem RowsAt.sx (h : RowsAt good M H xs nss) (s : Sx M H H') : RowsAt good M H' xs nss := ⟨h.1, fun i ns e => by
  obtain ⟨w, h1, h2, h3⟩ := h.2 i ns e
  exact ⟨w, h1, h2.sx s, h3⟩⟩
theorem RowsAt.nil : RowsAt good M H [] [] := ⟨rfl, fun i ns e => by simp at e⟩
theorem RowsAt.append {ys : List V} {mss : List (List Int)} (h : RowsAt good M H xs nss) (g : RowsAt good M H ys mss) : RowsAt good M H (xs ++ ys) (nss ++ mss) := by
  refine ⟨by rw [List.length_append, List.length_append, h.1, g.1], fun i ns e => ?_⟩
  by_cases c : i < nss.length
  · rw [List.getElem?_append_left c] at e
    rw [List.getElem?_append_left (by rw [h.1]; exact c)]
    exact h.2 i ns e
  · rw [List.getElem?_append_right (by omega)] at e
    rw [List.getElem?_append_right (by rw [h.1]; omega), h.1]
    exact g.2 _ ns e
theorem RowsAt.one {w : V} {ns : List Int} (q : RowF M H w ns) (g : good ns) : RowsAt good M H [w] [ns] := ⟨rfl, fun i ms e => by
  cases i with
  | zero => cases e; exact ⟨w, rfl, q, g⟩
  | succ i => simp at e⟩
theorem RowsAt.less {N : Ms} (h : RowsAt good M H xs nss) (f : ∀ a, N a → M a) : RowsAt good N H xs nss := ⟨h.1, fun i ns e => by
  obtain ⟨w, h1, h2, h3⟩ := h.2 i ns e
  exact ⟨w, h1, h2.less f, h3⟩⟩
theorem RowsAt.fresh {p : Addr} (h : RowsAt good M H xs nss) (hp : H p = none) : RowsAt good (also M p) H xs nss := ⟨h.1, fun i ns e => by
  obtain ⟨w, h1, h2, h3⟩ := h.2 i ns e
  exact ⟨w, h1, h2.fresh hp, h3⟩⟩
end
end D

namespace D
open PySem PySem.Spec PyProof.Rows L2
/-! ### own errors with one field or more -/
section
variable {K : PySem.W.Frag}
/-- __init__ of an error with one field -/
def sp_err1 (K : PySem.W.Frag) (C : Addr) (f : Str) : Sp := fun vs H Q _ => ∃ (a : Addr) (y : V), vs = [.ref a, y] ∧ OexC K C ∧ PySem.W.findIn K (.ref C) f = some none ∧ H a = some (exo a C none) ∧
  ∀ dx, H dx = none → dx ≠ a → Q .non (upd (upd H dx (exd dx [(f, y)])) a (exo a C (some dx)))
theorem made_heap {H : Hp} {a dx : Addr} {o1 o2 o3 o4 : HO} (ha : H a = none) (ne : dx ≠ a) : upd (del (upd (upd (upd H a o1) dx o2) a o3) a) dx o4 = upd H dx o4 := by
  funext b
  by_cases h1 : b = dx
  · rw [h1, upd_same, upd_same]
  · rw [upd_ne h1, upd_ne h1]
    by_cases h2 : b = a
    · rw [h2, del_same, ha]
    · rw [del_ne h2, upd_ne h2, upd_ne h1, upd_ne h2]
/-- the making of an error with one field: what is asked behind its argument -/
theorem mk_err1 {C : Addr} {f : Str} {H : Hp} {v : V} {E : XK} (ox : OexC K C) (no : PySem.W.findIn K (.ref C) f = some none) (h : ∀ d, H d = none → E (.ref C) (some d) (upd H d (.xd [(f, v)]))) :
    [v].length ≤ 1000 ∧ ∀ a, H a = none → sp_err1 K C f (.ref a :: ([v] ++ [])) (upd H a (exo a C none))
      (fun u H2 => u = .non ∧ ∃ (d : Addr) (fs : List (Str × V)), H2 a = some (exo a C (some d)) ∧ H2 d = some (exd d fs) ∧ H d = none ∧ E (.ref C) (some d) (upd (del H2 a) d (.xd fs))) (fun _ _ _ => False) := by
  refine ⟨by show 1 ≤ 1000; decide, fun a ha => ⟨a, v, rfl, ox, no, upd_same, fun dx hdx hne => ⟨rfl, dx, [(f, v)], upd_same, ?_, ?_, ?_⟩⟩⟩
  · rw [upd_ne hne, upd_same]
  · rw [upd_ne hne] at hdx
    exact hdx
  · rw [made_heap ha hne]
    rw [upd_ne hne] at hdx
    exact h dx hdx
/-- __init__ of an error with two fields -/
def sp_err2 (K : PySem.W.Frag) (C : Addr) (f g : Str) : Sp := fun vs H Q _ => ∃ (a : Addr) (y z : V), vs = [.ref a, y, z] ∧ OexC K C ∧ PySem.W.findIn K (.ref C) f = some none ∧ PySem.W.findIn K (.ref C) g = some none ∧ H a = some (exo a C none) ∧
  ∀ dx, H dx = none → dx ≠ a → Q .non (upd (upd (upd H dx (exd dx [(f, y)])) a (exo a C (some dx))) dx (exd dx [(g, z), (f, y)]))
/-- isinstance facts of an error class -/
theorem kit_err {D C : Addr} {b : Bool} (hd : PySem.W.hasDictIn K C = true) (ty : PySem.W.typeIn K (.ref C) = some (.type "type")) (ne : D ≠ C) (h : PySem.W.subIn K (.ref D) (.ref C) = some b) : PySem.W.kitOne K (.ref D) (.ref C) = some b := by
  obtain ⟨cd, hc, _⟩ := PySem.W.any_some hd
  unfold PySem.W.kitOne
  rw [if_neg (by simpa using ne)]
  show (if ((PySem.W.clsIn K C).isSome && PySem.W.typeIn K (.ref C) == some (.type "type")) = true then PySem.W.subIn K (.ref D) (.ref C) else none) = some b
  rw [if_pos (by rw [hc, ty]; rfl), h]
theorem kit_self {D : Addr} : PySem.W.kitOne K (.ref D) (.ref D) = some true := by
  unfold PySem.W.kitOne
  rw [if_pos (beq_self_eq_true _)]
theorem kit_ty2 {D : Addr} {t : String} {b : Bool} (m : PySem.W.kitMeta t = true) (h : PySem.W.subIn K (.ref D) (.type t) = some b) : PySem.W.kitOne K (.ref D) (.type t) = some b := by
  unfold PySem.W.kitOne
  rw [if_neg (fun z => nomatch (beq_iff_eq.mp z : Value.ref D = Value.type t))]
  show (if PySem.W.kitMeta t = true then PySem.W.subIn K (.ref D) (.type t) else none) = some b
  rw [if_pos m, h]
end
section
variable {X : Cx} {C g : Addr} {n : Nat} {CX : CXT} {sp : Sp} {E : L2.St → XK} {fd : FuncData} {ps : List Str}
/-- isinstance(e, c), e the error that the suite holds -/
def rIsX (K : PySem.W.Frag) (cls : Value) (d : Option Addr) (a : Addr) : List V → Hp → VK → Prop := fun xs H Q => ∃ (D dd : Addr) (fs : List (Str × V)) (c : V) (cv : Value) (b : Bool), cls = .ref D ∧ d = some dd ∧ ExcC K D ∧ H dd = some (.xd fs) ∧
  xs = [.ref a, c] ∧ (∀ u, RelV c u → u = cv) ∧ PySem.W.kitOne K (.ref D) cv = some b ∧ Q (.bl b) H
theorem inst_exc {X : Cx} {pins : List (Addr × Obj)} {σ : L2.St} {H : Hp} {s : Shared} {a D dd : Addr} {oe : Obj} {fs : List (Str × V)} (I : Inv X pins σ H s) (get : s.heap.get? a = some oe) (hz : Zc (.ref D) (some dd) oe) (hf : ∃ vs, oe.data = .fields vs) (ed : H dd = some (.xd fs)) :
    ∃ od, PySem.W.InstAt s.heap a oe D (some od) := by
  have there : ObjOk X.prog X.w H s.heap dd (.xd fs) := I.hok dd _ ed
  obtain ⟨mA, hns, _⟩ := there
  obtain ⟨od, ho, _⟩ := lookIn_ns hns
  obtain ⟨vs, hd⟩ := hf
  exact ⟨od, get, hz.1, by unfold PySem.W.notCls; rw [hd] <;> rfl, by rw [hz.2]; exact ho⟩
theorem call_isX {a : Addr} {oe : Obj} {cls : Value} {d : Option Addr} {pn : List (Addr × Obj)} (hz : Zc cls d oe) (hf : ∃ vs, oe.data = .fields vs) : CallR (X.suite a ((a, oe) :: pn)) (.builtin "isinstance") (rIsX X.K cls d a) := by
  intro held s sl G args vals want J rel h
  obtain ⟨D, dd, fs, c, cv, b, rfl, rfl, EC, ed, rfl, known, kit, q⟩ := h
  match vals, rel with
  | [_, _], .cons rx (.cons rt .nil) =>
    cases rx
    have ec := known _ rt
    subst ec
    obtain ⟨get, _⟩ := J.pin (a, oe) (List.mem_append.mpr (.inl List.mem_cons_self))
    obtain ⟨od, inst⟩ := inst_exc J get hz hf ed
    obtain ⟨cdD, hcD, _⟩ := PySem.W.any_some EC.hd
    exact PySem.W.kia_one (PySem.W.kitx_exc (by rw [hcD]; rfl) EC.hg EC.hk EC.hs EC.ha EC.hn EC.ht EC.hm) J.kIn inst kit (fun z => nomatch z) fun tk => ⟨.bl b, G, J.kept (t' := tk) fun _ _ z => z, rfl, q⟩
/-- isinstance(e, (c, ..)) -/
def rIsXT (K : PySem.W.Frag) (cls : Value) (d : Option Addr) (a : Addr) : List V → Hp → VK → Prop := fun xs H Q => ∃ (D dd p : Addr) (fs : List (Str × V)) (cs : List Addr) (b : Bool), cls = .ref D ∧ d = some dd ∧ ExcC K D ∧ H dd = some (.xd fs) ∧
  xs = [.ref a, .ref p] ∧ H p = some (.tup (cs.map V.ref)) ∧ PySem.W.kitAny K (.ref D) (cs.map Value.ref) = some b ∧ Q (.bl b) H
theorem vals_refs : ∀ {cs : List Addr} {vals : List Value}, Vals (cs.map V.ref) vals → vals = cs.map Value.ref
  | [], _, .nil => rfl
  | c :: r, _, .cons h t => by
    cases h
    rw [vals_refs t]
    rfl
theorem call_isXT {a : Addr} {oe : Obj} {cls : Value} {d : Option Addr} {pn : List (Addr × Obj)} (hz : Zc cls d oe) (hf : ∃ vs, oe.data = .fields vs) : CallR (X.suite a ((a, oe) :: pn)) (.builtin "isinstance") (rIsXT X.K cls d a) := by
  intro held s sl G args vals want J rel h
  obtain ⟨D, dd, p, fs, cs, b, rfl, rfl, EC, ed, rfl, tup, kit, q⟩ := h
  match vals, rel with
  | [_, _], .cons rx (.cons rt .nil) =>
    cases rx
    cases rt
    obtain ⟨get, _⟩ := J.pin (a, oe) (List.mem_append.mpr (.inl List.mem_cons_self))
    obtain ⟨od, inst⟩ := inst_exc J get hz hf ed
    obtain ⟨cdD, hcD, _⟩ := PySem.W.any_some EC.hd
    obtain ⟨_, its, rv, ⟨⟨tc, tdict, tdata, tslots⟩, ho, hc, m, hd⟩⟩ := (show ObjOk X.prog X.w G s.heap p (.tup (cs.map V.ref)) from J.hok p _ tup)
    dsimp only at hc hd
    subst hc hd
    have ei := vals_refs rv
    subst ei
    exact PySem.W.kia_tup (PySem.W.kitx_exc (by rw [hcD]; rfl) EC.hg EC.hk EC.hs EC.ha EC.hn EC.ht EC.hm) J.kIn inst ho kit (fun z => nomatch z) fun tk => ⟨.bl b, G, J.kept (t' := tk) fun _ _ z => z, rfl, q⟩
/-! ### what may raise within a try -/
/-- a def is run one step in, what it raises goes on -/
theorem run_in1S {pins : List (Addr × Obj)} {σ : L2.St} {H : Hp} {s : Shared} {Q : VK} {us : List Value} {vs : List V} (F : FnOk X.prog X.w X.K X.mg X.base CX n g fd ps sp) (hr : Room (n + 1) X.A) (hb : Binds X.K fd ps []) (hx : PassesAt CX X σ (E σ))
    (I : Inv X pins σ H s) (r : Vals vs us) (h : sp vs H Q (E σ)) : wpAny (model X.prog X.w) X.A.in1 (call (.ref g) us) (EP X pins σ Q) X.xe s := by
  have size : (us ++ []).length = ps.length := by rw [List.append_nil, ← r.length]; exact F.len _ _ _ _ h
  have bd := hb s us I.kIn size
  rw [List.append_nil] at bd
  refine wpAny_call (codeAny_mono (F.run X.A.in1 X.stack s H ⟨us, []⟩ us vs Q (E σ) (room_in1 hr) I.env0.in1 bd r h) fun out s' told => ?_)
  match out, told with
  | .error e, told => exact hx pins H s e s' I told
  | .ok (.ret u), told => exact I.after told
  | .ok .next, told => exact False.elim told
  | .ok .brk, told => exact False.elim told
  | .ok .cont, told => exact False.elim told
def tOwnIxS (C : Addr) (sp : Sp) (E : L2.St → XK) (to ti : TE) : TE := fun σ H Q => to σ H fun x H1 => ti σ H1 fun y H2 => ∃ a dx fs, x = .ref a ∧ H2 a = some (.ins C dx fs) ∧ sp [x, y] H2 Q (E σ)
theorem pe_ownIxS {o i : Expr} {to ti : TE} {pos : Pos} (ho : PE X o to) (hi : PE X i ti) (hs : PySem.W.findIn X.K (.ref C) "__getitem__" = some (some (.ref g))) (hf : PySem.W.fnIn X.K g = true) (hg : PySem.W.isFn X.K (.ref g) = true)
    (F : FnOk X.prog X.w X.K X.mg X.base CX n g fd ps sp) (hb : Binds X.K fd ps []) (hr : Room (n + 1) X.A) (hx : ∀ σ, PassesAt CX X σ (E σ))
    (hsl : ∀ ov iv, subscripted i true ov iv = runValue (.builtin "lifetime.subscript" ⟨[ov, iv], []⟩)) : PE X (.Subscript o i pos) (tOwnIxS C sp E to ti) := by
  refine ⟨fun pins s σ H Q I h => ?_⟩
  refine Subscript_ (thn (ho.run pins s σ H _ I h) fun ov s1 ⟨x, H1, I1, rx, q1⟩ => thn (hi.run pins s1 σ H1 _ I1 q1) fun iv s2 ⟨y, H2, I2, ry, a, dx, fs, ex, ha, q⟩ => ?_)
  subst ex
  obtain rfl : ov = Value.ref a := rx
  obtain ⟨mA, O, _⟩ := ins_get I2.hok ha
  obtain ⟨od, J, _⟩ := O.look
  obtain ⟨m, hF⟩ := I2.fr
  exact PySem.W.sub_K hF I2.ok.mod.kin J hs hf hg (run_in1S (us := [.ref a, iv]) (vs := [.ref a, y]) F hr hb (hx σ) I2 (.cons rfl (.cons ry .nil)) q) (hsl _ _)
/-- a method that may raise -/
def tMethS (C : Addr) (m : Str) (sp : Sp) (E : L2.St → XK) (ta : TE) (t : TA) : TE := fun σ H Q => ta σ H fun x H1 => ∃ a dx fs, x = .ref a ∧ H1 a = some (.ins C dx fs) ∧ fs.lookup m = none ∧ t σ H1 fun vs H2 => sp (x :: vs) H2 Q (E σ)
theorem pe_methS {o e : Expr} {es : List Expr} {m : Str} {f : Addr} {pos apos : Pos} {ta : TE} {t : TA} {pl : Sem Bool} (he : PE X o ta) (c : Cls X.K C) (hm : Meth X.K C m f) (F : FnOk X.prog X.w X.K X.mg X.base CX n f fd ps sp) (hr : Room n X.A) (hb : Binds X.K fd ps []) (hx : ∀ σ, PassesAt CX X σ (E σ)) (ha : PA X (e :: es) t)
    (hst : starEach (e :: es) X.env = (false, eval e X.env) :: starEach es X.env := by rfl) (hpl : (backTo pos (starEach es X.env)).any (·.1) = false := by rfl)
    (ht : eval (.Call (.Attribute o m apos) (e :: es) [] pos) X.env = (do
      let ov ← eval o X.env
      standAt apos.atName
      let (f, first) ← holding [ov] (getMethod ov m pl)
      callWith pos f first (backTo pos (starEach (e :: es) X.env)) (backToKw pos (keywordEach [] X.env))) := by rfl) :
    PE X (.Call (.Attribute o m apos) (e :: es) [] pos) (tMethS C m sp E ta t) := by
  refine ⟨fun held st sl G want J told => ?_⟩
  refine PySem.W.methodCall_KW (pl := pl) (thn (he.run held st sl G _ J told) fun u st1 ⟨x, G1, J1, rx, a, dx, fs, ex, ea, l, q⟩ => ?_) ht
  subst ex
  obtain rfl : u = Value.ref a := rx
  refine getmeth_ok J1 ea c hm l (PySem.W.callWith_K (first := [.ref a]) (h₀ := X.base) J1.ok.mod.kin hm.kp (thn (ha.run pos held st1 sl G1 _ J1 q) fun vals st2 ⟨vs, G2, J2, rel, q2⟩ => ⟨J2.kIn, ?_⟩) hst hpl)
  exact run_fnS (us := .ref a :: vals) (vs := .ref a :: vs) F hr hb (hx sl) J2 (.cons rfl rel) q2
/-- x[i] = v, an own def's store that may raise -/
def sOwnPutS (C : Addr) (sp : Sp) (E : L2.St → XK) (to ti tv : TE) : TS := fun D σ H => tv σ H fun v H1 => to σ H1 fun x H2 => ti σ H2 fun y H3 => ∃ a dx fs, x = .ref a ∧ H3 a = some (.ins C dx fs) ∧ sp [x, y, v] H3 (fun _ H4 => D.nx σ H4) (E σ)
theorem ps_ownPutS {o i value : Expr} {pos pos' : Pos} {to ti tv : TE} (ho : PE X o to) (hi : PE X i ti) (hv : PE X value tv) (hq : PySem.W.noSeq X.K C = true) (hs : PySem.W.findIn X.K (.ref C) "__setitem__" = some (some (.ref g))) (hf : PySem.W.isFn X.K (.ref g) = true)
    (F : FnOk X.prog X.w X.K X.mg X.base CX n g fd ps sp) (hb : Binds X.K fd ps []) (hr : Room (n + 1) X.A) (hx : ∀ σ, PassesAt CX X σ (E σ)) (sw : swapsWith value (some (.Subscript o i pos')) pos.line X.env = pure false) :
    PS X (.Assign [.Subscript o i pos'] value pos) (sOwnPutS C sp E to ti tv) := by
  refine ⟨fun pins s σ H D I h => ?_⟩
  refine wpAny_Assign_Subscript (thn (hv.run pins s σ H _ I h) fun r s1 ⟨v, H1, I1, rv, q1⟩ => thn (ho.run pins s1 σ H1 _ I1 q1) fun u s2 ⟨x, H2, I2, rx, q2⟩ => thn (hi.run pins s2 σ H2 _ I2 q2) fun iv s3 ⟨y, H3, I3, ry, a, dx, fs, ex, ha, q⟩ => ?_) sw
  subst ex
  obtain rfl : u = Value.ref a := rx
  obtain ⟨mA, O, _⟩ := ins_get I3.hok ha
  obtain ⟨od, J, _⟩ := O.look
  refine wp_ownPut I3.kIn J hq hs hf (wpAny_mono (run_fnS (us := [.ref a, iv, r]) (vs := [.ref a, y, v]) F (hr.mono (Nat.le_succ n)) hb (hx σ) I3 (.cons rfl (.cons ry (.cons rv .nil))) q) (fun w s' z => ?_) fun _ _ z => z)
  obtain ⟨z', H', I', _, qz⟩ := z
  exact ⟨σ, H', I', qz⟩
end
end D

namespace D
open PySem PySem.Spec PyProof.Rows L2
/-! ### list(o), o of an own class whose __iter__ hands an iterator over a tuple out -/
/-- at it an iterator over the tuple at t, the next place is i -/
def ItT (t it : Addr) (i : Nat) : HO := .ext fun h => h.IsTupleIter it t i
/-- something stands at it -/
def AnyO (it : Addr) : HO := .ext fun h => ∃ o, h.get? it = some o
section
variable {P : Program} {w : World} {H : Hp} {h : Heap} {t it : Addr} {i : Nat}
theorem itT_ok (e : h.IsTupleIter it t i) : ObjOk P w H h it (ItT t it i) := ⟨e, ⟨_, e.choose_spec.1⟩, fun h1 h2 q k => by
  obtain ⟨o, ho, r⟩ := q
  exact ⟨o, k _ ho, r⟩⟩
theorem any_ok {o : Obj} (e : h.get? it = some o) : ObjOk P w H h it (AnyO it) := ⟨⟨_, e⟩, ⟨_, e⟩, fun h1 h2 q k => by
  obtain ⟨o, ho⟩ := q
  exact ⟨o, k _ ho⟩⟩
end
section
variable {X : Cx} {pins : List (Addr × Obj)} {σ : L2.St} {H : Hp} {s : Shared} {t it : Addr} {i : Nat}
theorem itT_get (I : Inv X pins σ H s) (e : H it = some (ItT t it i)) : s.heap.IsTupleIter it t i := (I.hok it _ e).1
/-- iter(t), t a tuple -/
def rIterT (K : PySem.W.Frag) : List V → Hp → VK → Prop := fun xs H Q => ∃ (t : Addr) (zs : List V), xs = [.ref t] ∧ SqT K H t zs ∧ ∀ it, H it = none → Q (.ref it) (upd H it (ItT t it 0))
theorem call_iterT : CallR X (.builtin "iter") (rIterT X.K) := by
  intro pins s σ H xs us Q I r h
  obtain ⟨t, zs, rfl, hq, q⟩ := h
  obtain rfl := Vals.ref1 r
  obtain ⟨its, rv, ⟨o, ho, hc, n, hd⟩, hz⟩ := I.tuple hq
  refine Calls.call_function_entry (by decide +kernel) (by decide +kernel) PySem.W.kdk_entry_iter (PySem.W.kdk_args_iter _) ?_
  unfold Builtin.«iter»
  refine wpAny_bind (m := someArgs "iter" 1 2 _) (wpAny_of_eq (a := [Value.ref t]) (by first | rfl | kernel_rfl!) ?_)
  show wpAny _ _ (pyIter (.ref t) >>= _) _ _ _
  refine wpAny_bind (wpAny_pyIter_tuple (items := its.toArray) ⟨o, ho, hc, n, hd⟩ ?_)
  refine wpAny_pure ⟨_, rfl, ?_⟩
  exact ⟨.ref s.heap.objs.size, _, I.laid (t' := s.toks) (fun b u e => Heap.get?_push_of_some _ e) (Nat.le_refl _) (itT_ok ⟨_, Heap.get?_push_size _ rfl, rfl, rfl⟩), rfl, q _ (I.hok.fresh (Nat.le_refl _))⟩
end
section
variable {prog : Program} {w : World} {A : Around} {E : Value → Shared → Prop} {s : Shared}
theorem tuple_end2 {it t : Addr} {i : Nat} {items : Array Value} {Q : Option Value → Shared → Prop} (hh : A.handled = none)
    (hit : s.heap.IsTupleIter it t i) (ht : s.heap.IsTuple t items) (hx : items[i]? = none)
    (hQ : ∀ h', (∃ o, h'.get? it = some o) → Heap.ExtBut it s.heap h' → Q none { s with heap := h' }) : wpAny (model prog w) A (pyNext (.ref it)) Q E s := by
  obtain ⟨o, ho, hc, hd⟩ := id hit
  obtain ⟨ol, hol, _, nl, hdl⟩ := ht
  unfold pyNext
  refine wpAny_bind (wpAny_attempt (wpAny_callSpecial?_slot (name := Str.ofString "__next__") hit.typeIs F.slot_tuple_iterator_next
    (wpAny_call_entry F.slot_tuple_iterator_next hit.typeIs F.entry_tuple_iterator_next ?_ (F.args_tuple_iterator_next_1 _))))
  show wpAny _ _ (field (.ref it) 0 >>= _) _ _ s
  refine wpAny_bind (wpAny_field ho hd (x := .ref t) rfl ?_)
  show wpAny _ _ (if (Value.ref t == Value.none) = true then _ else _) _ _ s
  rw [if_neg (show ¬ ((Value.ref t == Value.none) = true) from Bool.false_ne_true)]
  show wpAny _ _ (field (.ref it) 1 >>= _) _ _ s
  refine wpAny_bind (wpAny_field ho hd (x := .int i 0) rfl ?_)
  show wpAny _ _ (seqItems? (.ref t) >>= _) _ _ s
  refine wpAny_bind (wpAny_seqItems hol hdl ?_)
  simp only [Int.toNat_natCast, hx]
  refine wpAny_bind (wpAny_rule (wpAny_bind (wpAny_setField ho hd (by simp) ?_)))
  show wpAny _ _ (newExc (.type "StopIteration") [] >>= _) _ _ _
  refine wpAny_bind ?_
  simp only [newExc, newTuple]
  refine wpAny_bind (wpAny_newObj_type ?_ (by size_fits))
  refine wpAny_bind (m := firstArgMember _ _) (wpAny_of_eq (a := Value.none) (by first | rfl | (simp only [firstArgMember]; rfl)) ?_)
  refine wpAny_newObj_type ?_ (by size_fits)
  simp only [raiseNew]
  refine wpAny_bind (wpAny_handled ?_)
  first | rw [show A.in1.handled = none from hh] | rw [hh]
  refine wpAny_bind (wpAny_pure (wpAny_throw ?_))
  refine wpAny_bind (wpAny_isInstance (T := "StopIteration") (b := true) ⟨_, Heap.get?_push_size _ rfl, rfl⟩ PySem.isSubtype_stop ?_)
  refine wpAny_pure (hQ _ ⟨_, Heap.get?_push_of_some _ (Heap.get?_push_of_some _ (Heap.get?_update_self _ ho (Obj.isFreed_of_fields (Obj.data_mapFields hd _))))⟩ (((Heap.SameBut.update ..).extBut.push _).push _))
end
/-- a class whose instances have an own __iter__, without __len__ and __length_hint__ -/
structure ItK (K : PySem.W.Frag) (C fi : Addr) : Prop where
  it : PySem.W.findIn K (.ref C) "__iter__" = some (some (.ref fi))
  itF : PySem.W.isFn K (.ref fi) = true
  nolen : PySem.W.findIn K (.ref C) "__len__" = some none
  nohint : PySem.W.findIn K (.ref C) "__length_hint__" = some none
section
variable {X : Cx} {pins : List (Addr × Obj)} {σ : L2.St} {H : Hp} {s : Shared}
theorem hintK {M : Model} {A : Around} {E : Value → Shared → Prop} {Q : Bool → Shared → Prop} {K : PySem.W.Frag} {a C fi : Addr} {ox : Obj} {od : Option Obj} (hc : ItK K C fi) (hK : K.In s.heap) (J : PySem.W.InstAt s.heap a ox C od) (h : Q true s) :
    wpAny M A (Builtin.List.listLengthHint (.ref a)) Q E s := by
  unfold Builtin.List.listLengthHint
  refine wpAny_bind (wpAny_bind (J.type.here ((PySem.W.looks_findIn hK hc.nolen).here ?_)))
  refine PySem.W.KFB.if_not rfl ?_
  refine PySem.W.KFB.if_not rfl ?_
  refine wpAny_bind (wpAny_bind (J.type.here ((PySem.W.looks_findIn hK hc.nohint).here ?_)))
  exact wpAny_pure h
theorem it_loop {A1 : Around} {it t q : Addr} {xs : List V} {H0 : Hp} {Rs : Result → Shared → Prop} (hh : A1.handled = none) (nqi : q ≠ it) (nti : t ≠ it) (hT : SqT X.K H0 t xs) (htq : t ≠ q) (hl : xs.length ≤ 1000)
    (hdone : ∀ H s, Inv X pins σ H s → (∀ b, b ≠ it → b ≠ q → H b = H0 b) → H q = some (.lst xs) → H it ≠ none → Rs (.ok (.ret .none)) s) :
    ∀ (k i : Nat) (H : Hp) (s : Shared), xs.length - i = k → i ≤ xs.length → Inv X pins σ H s → (∀ b, b ≠ it → b ≠ q → H b = H0 b) → H q = some (.lst (xs.take i)) → H it = some (ItT t it i) →
      codeAny (model X.prog X.w) A1 (.builtin "list.extend.loop" ⟨[.ref q, .ref it, .none], []⟩) Rs s := by
  intro k
  induction k with
  | zero =>
    intro i H s hk hi I hH hq hit
    have ei : i = xs.length := by omega
    subst ei
    have hT' : SqT X.K H t xs := by
      unfold SqT Rd at hT ⊢
      rw [hH t nti htq]
      exact hT
    obtain ⟨its, rv, pl, hz⟩ := I.tuple hT'
    refine codeAny_builtin PySem.F.entry_extend_loop ?_
    rw [Around.under_plainId PySem.F.plain_extend_loop _]
    show wpAny _ A1.in1 (pyNext (.ref it) >>= _) _ _ s
    refine wpAny_bind (tuple_end2 (items := its.toArray) hh (itT_get I hit) (by obtain ⟨o, ho, hc, n, hd⟩ := pl; exact ⟨o, ho, hc, n, hd⟩) (by have := rv.length; simp [← this]) fun h' he hb => ?_)
    have mu : Mut (H it) := by rw [hit]; exact True.intro
    obtain ⟨o', ho'⟩ := he
    have I' := I.write (x := it) (e := it) (t' := s.toks) (o := AnyO it) (h' := h') mu (.inl rfl) (fun b o nb z => hb b o nb z) ⟨_, ho'⟩ (any_ok ho')
    refine wpAny_pure (hdone _ _ I' (fun b h1 h2 => by rw [upd_ne h1]; exact hH b h1 h2) ?_ ?_)
    · rw [upd_ne nqi, hq, List.take_length]
    · rw [upd_same]
      exact fun z => nomatch z
  | succ k ih =>
    intro i H s hk hi I hH hq hit
    have hlt : i < xs.length := by omega
    have hT' : SqT X.K H t xs := by
      unfold SqT Rd at hT ⊢
      rw [hH t nti htq]
      exact hT
    obtain ⟨its, rv, pl, hz⟩ := I.tuple hT'
    obtain ⟨u, hu, ru⟩ := rv.get (i := i) (List.getElem?_eq_getElem hlt)
    refine codeAny_builtin PySem.F.entry_extend_loop ?_
    rw [Around.under_plainId PySem.F.plain_extend_loop _]
    show wpAny _ A1.in1 (pyNext (.ref it) >>= _) _ _ s
    refine wpAny_bind (wpAny_pyNext_tuple_item (items := its.toArray) (x := u) (itT_get I hit) (by obtain ⟨o, ho, hc, n, hd⟩ := pl; exact ⟨o, ho, hc, n, hd⟩) (by rw [List.getElem?_toArray]; exact hu) fun h' e' sb => ?_)
    have mu : Mut (H it) := by rw [hit]; exact True.intro
    have I' := I.write (x := it) (e := it) (t' := s.toks) (o := ItT t it (i + 1)) (h' := h') mu (.inl rfl) (fun b o nb z => (sb.2 b nb).trans z) ⟨_, e'.choose_spec.1⟩ (itT_ok e')
    have hq' : upd H it (ItT t it (i + 1)) q = some (.lst (xs.take i)) := by rw [upd_ne nqi]; exact hq
    show wpAny _ A1.in1 (updateSeq q (·.push u) >>= _) _ _ _
    obtain ⟨z, its2, c, r2, e⟩ := I'.lstM hq'
    have hlen : (xs.take i).length = i := by rw [List.length_take]; omega
    obtain ⟨r2, hl2, e⟩ := (⟨r2, e⟩ : _ ∧ _ ∧ _)
    have l2 : its2.length = i := by rw [← r2.length, hlen]
    refine wpAny_bind (wpAny_updateSeq e rfl (wpAny_pure ⟨plainId_quiet PySem.F.plain_extend_loop _, ?_⟩) (by rw [List.size_toArray, l2, sizeLine_eq]; omega) (by show (its2.toArray.push u).size ≤ sizeLine + 1; rw [Array.size_push, List.size_toArray, l2, sizeLine_eq]; omega))
    refine ih (i + 1) _ _ (by omega) hlt (I'.lset (its' := its2 ++ [u]) (ys := xs.take (i + 1)) (t' := s.toks) hq' e (by simp) ?_ (by rw [List.length_take, sizeLine_eq]; omega)) (fun b h1 h2 => ?_) upd_same ?_
    · rw [List.take_add_one, List.getElem?_eq_getElem hlt]
      exact r2.append (.cons ru .nil)
    · rw [upd_ne h2, upd_ne h1]
      exact hH b h1 h2
    · rw [upd_ne (Ne.symm nqi), upd_same]

/-- list(o): __iter__ hands an iterator over a tuple out -/
def rListIt (K : PySem.W.Frag) (C : Addr) (sp : Sp) (E : XK) : List V → Hp → VK → Prop := fun xs H Q => ∃ a dx fs, xs = [.ref a] ∧ H a = some (.ins C dx fs) ∧
  ∀ q, H q = none → sp [.ref a] (upd H q (.lst [])) (fun v H' => ∃ it t zs, v = .ref it ∧ H' it = some (ItT t it 0) ∧ SqT K H' t zs ∧ t ≠ it ∧ t ≠ q ∧ q ≠ it ∧ H' q = some (.lst []) ∧ H' a = some (.ins C dx fs) ∧ zs.length ≤ 1000 ∧
    ∀ H'', (∀ b, b ≠ it → b ≠ q → H'' b = H' b) → H'' q = some (.lst zs) → H'' it ≠ none → Q (.ref q) H'') E
variable {CI : CXT} {C fi : Addr} {fdI : FuncData} {psI : List Str} {spI : Sp} {EI : XK} {n : Nat}
theorem extend_it {a dx q : Addr} {fs : List (Str × V)} {Hq : Hp} {Q : VK} (sb : Sub X n X.A.in1.in1) (hA : X.A.in1.handled = none) (hc : ItK X.K C fi) (FI : FnOk X.prog X.w X.K X.mg X.base CI n fi fdI psI spI) (bI : Binds X.K fdI psI []) (xI : Passes CI X EI) (I2 : Inv X pins σ Hq s) (hqq : Hq q = some (.lst [])) (ha2 : Hq a = some (.ins C dx fs))
    (hsp : spI [.ref a] Hq (fun v H' => ∃ it t zs, v = .ref it ∧ H' it = some (ItT t it 0) ∧ SqT X.K H' t zs ∧ t ≠ it ∧ t ≠ q ∧ q ≠ it ∧ H' q = some (.lst []) ∧ H' a = some (.ins C dx fs) ∧ zs.length ≤ 1000 ∧
      ∀ H'', (∀ b, b ≠ it → b ≠ q → H'' b = H' b) → H'' q = some (.lst zs) → H'' it ≠ none → Q (.ref q) H'') EI) :
    wpAny (model X.prog X.w) X.A.in1.in1 (Builtin.List.listExtendWith (.ref q) (.ref a) .none)
      (fun fin s' => match fin with | .done f => wants (fun r s₂ => r = .none ∧ EP X pins σ Q (.ref q) s₂) X.xe (.ok f) s' | .again c' => c'.quiet = true ∧ codeAny (model X.prog X.w) X.A.in1 c' (wants (fun r s₂ => r = .none ∧ EP X pins σ Q (.ref q) s₂) X.xe) s') (fun e s' => wants (fun r s₂ => r = .none ∧ EP X pins σ Q (.ref q) s₂) X.xe (.error e) s') s := by
  have hne : q ≠ a := ne_of hqq ha2 (fun z => nomatch z)
  obtain ⟨mA, J, _⟩ := ins_get I2.hok ha2
  obtain ⟨od, J, _⟩ := J.look
  obtain ⟨m0, hF⟩ := I2.fr
  unfold Builtin.List.listExtendWith
  refine wpAny_bind (J.type.here ?_)
  have h1 : Builtin.List.listSameRef (.ref q) (.ref a) = false := by simp [Builtin.List.listSameRef, hne]
  have h2 : (Value.ref C == Value.type "list") = false := rfl
  have h3 : (Value.ref C == Value.type "tuple") = false := rfl
  simp only [h1, h2, h3, Bool.or_false, Bool.false_eq_true, if_false]
  refine wpAny_bind (PySem.W.owit_iter hF I2.ok.mod.kin J hc.it hc.itF ?_)
  have e0 : Env0 X.prog X.w X.K X.mg X.base X.A.in1.in1 X.stack s Hq := by
    have e := I2.env0
    exact ⟨by rw [sb.fr]; exact e.frames, e.mod, e.bs, e.bsz, e.funs, e.frf, e.hok, e.bare⟩
  have hl := FI.len _ _ _ _ hsp
  have r2 : Vals [V.ref a] [Value.ref a] := .cons rfl .nil
  refine wpAny_call (codeAny_mono (FI.run X.A.in1.in1 X.stack s Hq ⟨[.ref a], []⟩ [.ref a] [.ref a] _ EI sb.room e0 (by
    have := bI s [.ref a] I2.kIn (by simpa using hl)
    simpa using this) r2 hsp) fun r s' hq' => ?_)
  cases r with
  | error e => exact xI pins σ Hq s e s' I2 hq'
  | ok fl =>
    cases fl with
    | next => exact False.elim hq'
    | brk => exact False.elim hq'
    | cont => exact False.elim hq'
    | ret u =>
      obtain ⟨v, H', I', rv, it, t, zs, ev, hit, hT, nti, ntq, nqi, hq2, ha', hz, q2⟩ := I2.after hq'
      subst ev
      cases rv
      unfold PySem.W.OwitIt
      have hty := (itT_get I' hit).typeIs (s := s')
      refine wpAny_specialOf hty F.slot_tuple_iterator_next.lookup ?_
      obtain ⟨mA', J', _⟩ := ins_get I'.hok ha'
      obtain ⟨od', J', _⟩ := J'.look
      refine wpAny_bind (wpAny_holding (hintK hc I'.kIn J' ?_))
      obtain ⟨z, its, k, r3, hl3, e3⟩ := I'.lstM hq2
      cases r3
      have hloop : ∀ s2, Inv X pins σ H' s2 → codeAny (model X.prog X.w) X.A.in1 (.builtin "list.extend.loop" ⟨[.ref q, .ref it, .none], []⟩) (wants (fun r s₂ => r = .none ∧ EP X pins σ Q (.ref q) s₂) X.xe) s2 := fun s2 I4 =>
        it_loop (A1 := X.A.in1) hA nqi nti hT ntq hz (fun H5 s5 I5 a1 a2 a3 => ⟨rfl, .ref q, H5, I5, rfl, q2 H5 a1 a2 a3⟩) _ 0 H' s2 rfl (Nat.zero_le _) I4 (fun _ _ _ => rfl) hq2 hit
      refine wpAny_ite_split (fun _ => ?_) (fun _ => wpAny_pure ⟨plainId_quiet PySem.F.plain_extend_loop _, hloop s' I'⟩)
      refine wpAny_bind (wpAny_rule ?_)
      refine wpAny_bind ?_
      show wpAny _ _ (updateSeq q (·.push .none) >>= fun _ => updateSeq q (·.pop)) _ _ _
      refine wpAny_bind (wpAny_updateSeq e3 rfl ?_)
      have I3 := I'.lset (f := (·.push Value.none)) (its' := [Value.none]) (ys := [.non]) (t' := s'.toks) hq2 e3 (by simp) (.cons rfl .nil) (by rw [List.length_singleton, sizeLine_eq]; decide)
      obtain ⟨z4, its4, k4, r4, hl4, e4⟩ := I3.lstM upd_same
      obtain ⟨u4, rfl, ru4⟩ := r4.one
      refine wpAny_updateSeq e4 rfl ?_ (by show 1 ≤ sizeLine; rw [sizeLine_eq]; decide) (by show 0 ≤ sizeLine + 1; exact Nat.zero_le _)
      refine wpAny_pure ⟨plainId_quiet PySem.F.plain_extend_loop _, hloop _ ?_⟩
      have I5 := I3.lset (f := (·.pop)) (its := [u4]) (its' := []) (ys := []) (t' := s'.toks) upd_same e4 (by rfl) .nil (Nat.zero_le _)
      rw [upd_upd] at I5
      have hH : upd H' q (.lst []) = H' := by
        funext b
        by_cases hb : b = q
        · rw [hb, upd_same, hq2]
        · rw [upd_ne hb]
      rw [hH] at I5
      exact I5
theorem call_listIt (hc : ItK X.K C fi) (FI : FnOk X.prog X.w X.K X.mg X.base CI n fi fdI psI spI) (bI : Binds X.K fdI psI []) (xI : Passes CI X EI) (hr : Room (n + 2) X.A) : CallR X (.type "list") (rListIt X.K C spI EI) := by
  intro pins s σ H xs us Q I rv h
  obtain ⟨a, dx, fs, rfl, ha, hq⟩ := h
  obtain ⟨u, rfl, ru⟩ := rv.one
  cases ru
  have sb : Sub X n X.A.in1.in1 := (Sub.in1 (Sub.in1 (⟨hr, rfl⟩ : Sub X (n + 2) X.A)))
  refine callType_codes (Q₁ := fun obj s₁ => obj = .ref s.heap.objs.size ∧ s₁ = { s with heap := s.heap.push { cls := .type "list", data := .seq #[] } }) PySem.F.called_list (PySem.F.typeCall_list_1 _) PySem.F.entry_list_init
    (code_list_new _ ⟨rfl, rfl⟩) fun obj s₁ h₁ => ?_
  obtain ⟨rfl, rfl⟩ := h₁
  have hS : (s.heap.push { cls := .type "list", data := .seq #[] }).get? s.heap.objs.size = some { cls := .type "list", data := .seq #[] } := Heap.get?_push_size _ rfl
  refine ⟨⟨_, hS, rfl⟩, PySem.F.args_list_init_2 _ _, ?_⟩
  have fr : H s.heap.objs.size = none := I.hok.fresh (Nat.le_refl _)
  have hsp := hq _ fr
  have I1 : Inv X pins σ (upd H s.heap.objs.size (.lst [])) { s with heap := s.heap.push { cls := .type "list", data := .seq #[] } } := I.lnew (its := []) (t' := s.toks) .nil (Nat.zero_le _)
  show wpAny _ _ (do let old ← Builtin.List.listItems (.ref s.heap.objs.size); Builtin.List.listUpdate (.ref s.heap.objs.size) (fun _ => #[]); letGo old.toList.reverse; Builtin.List.listExtendWith (.ref s.heap.objs.size) (.ref a) .none) _ _ _
  refine wpAny_bind ?_
  unfold Builtin.List.listItems
  refine wpAny_bind (wpAny_seqItems hS rfl (wpAny_pure ?_))
  show wpAny _ _ (updateSeq s.heap.objs.size (fun _ => #[]) >>= fun _ => letGo (#[] : Array Value).toList.reverse >>= fun _ => Builtin.List.listExtendWith (.ref s.heap.objs.size) (.ref a) .none) _ _ _
  refine wpAny_bind (wpAny_updateSeq hS rfl ?_)
  have I2 := I1.lset (f := fun _ => #[]) (its := []) (its' := []) (ys := []) (t' := s.toks) upd_same hS rfl .nil (Nat.zero_le _)
  rw [upd_upd] at I2
  refine wpAny_bind (wpAny_letGo ?_)
  have ha2 : upd H s.heap.objs.size (.lst []) a = some (.ins C dx fs) := by rw [upd_ne (ne_of_none ha fr)]; exact ha
  exact extend_it sb hr.hd hc FI bI xI I2 upd_same ha2 hsp
end
end D

namespace D
open PySem PySem.Spec PyProof.Rows L2
/-! ### texts as rows of signs -/
abbrev sg (z : Str) : List Nat := z.cps.toList
theorem sg_len (z : Str) : (sg z).length = z.length := Array.length_toList
theorem sg_ext {a b : Str} (h : sg a = sg b) : a = b := by
  cases a
  cases b
  congr 1
  exact Array.toList_inj.mp h
theorem sg_app (a b : Str) : sg (a ++ b) = sg a ++ sg b := Array.toList_append
theorem sg_one (c : Nat) : sg ⟨#[c]⟩ = [c] := rfl
theorem sg_cut (z : Str) (k : Nat) : sg (cutS z none (some (k : Int))) = (sg z).take k := by
  unfold cutS
  show ((z.cps.toList.drop 0).take (HT.sIx z.length z.length (some (k : Int)) - 0)) = _
  rw [HT.sIx_nat, List.drop_zero, Nat.sub_zero, ← sg_len]
  by_cases c : k ≤ (sg z).length
  · rw [Nat.min_eq_left c]
  · rw [Nat.min_eq_right (by omega), List.take_of_length_le (Nat.le_refl _), List.take_of_length_le (by omega)]
theorem sg_from (z : Str) (k : Nat) : sg (cutS z (some (k : Int)) none) = (sg z).drop k := by
  unfold cutS
  show ((z.cps.toList.drop (HT.sIx z.length 0 (some (k : Int)))).take (HT.sIx z.length z.length none - HT.sIx z.length 0 (some (k : Int)))) = _
  rw [HT.sIx_nat, HT.sIx_none, ← sg_len]
  by_cases c : k ≤ (sg z).length
  · rw [Nat.min_eq_left c, List.take_of_length_le (by rw [List.length_drop]; exact Nat.le_refl _)]
  · rw [Nat.min_eq_right (by omega), List.drop_of_length_le (Nat.le_refl _), List.drop_of_length_le (by omega)]
    simp
theorem sg_join0 : ∀ ys : List Str, sg (Str.join (Str.ofString "") ys) = (ys.map sg).flatten
  | [] => rfl
  | [y] => by
    show sg y = _
    simp
  | x :: y :: r => by
    show sg (x ++ (Str.ofString "") ++ Str.join (Str.ofString "") (y :: r)) = _
    rw [sg_app, sg_app, sg_join0 (y :: r), show sg (Str.ofString "") = [] from by decide +kernel]
    simp
end D

namespace D
open PySem PySem.Spec PyProof.Rows L2
/-! ### errors whose suites call defs -/
section
variable {X : Cx} {e : Expr} {es : List Expr} {ta : TA} {p pos : Pos}
/-- the making of an own error, outside of a suite, for the ways out that tell its context -/
theorem pmk_oexN {CX : CXT} {x : Str} {C fI : Addr} {k : Nat} {fd : FuncData} {ps : List Str} {sp : Sp} {ds : List Value} {dvs : List V} (T : OexC X.K C) (iC : PySem.W.findIn X.K (.ref C) "__init__" = some (some (.ref fI))) (tI : PySem.W.typeIn X.K (.ref fI) = some (.type "function"))
    (F1 : FnOk X.prog X.w X.K X.mg X.base CX k fI fd ps sp) (hr : Room (k + 1) X.A) (hb : Binds X.K fd ps ds) (hd : Vals dvs ds) (hx : Passes CX X (fun _ _ _ => False)) (hg : Gl X x) (hm : X.mg x = some (.ref C)) (ha : PA X (e :: es) ta)
    (hdb : (x == ("__debug__" : Str)) = false := by decide) (he : starEach (e :: es) X.env = (false, eval e X.env) :: starEach es X.env := by rfl) (hpl : (backTo pos (starEach es X.env)).any (·.1) = false := by rfl) :
    L2N.PMk X (.Call (.Name x p) (e :: es) [] pos) (tMkO C sp dvs ta) := by
  intro pins s σ H Q I h
  obtain ⟨nm, q, N, bs, bm, sn, sub, ab, col, dd, k0, k1, k2, k3, k5, hC, hbm⟩ := T.cls
  refine wpAny_Call_Name_kw (ld_glob I hg hm ?_ hdb)
  refine PySem.W.callWith_K (h₀ := X.base) I.ok.mod.kin T.kC (thn (ha.run pos pins s σ H _ I h) fun us s1 ⟨vs, H1, I1, r1, hz, q1⟩ => ⟨I1.kIn, ?_⟩) he hpl
  show wpAny _ _ (call (.ref C) us) _ _ _
  obtain ⟨hp, g, dr, tk, os⟩ := s1
  have hsz : hp.objs.size ≤ hp.objs.size + 1 := Nat.le_succ _
  have hn : H1 (hp.objs.size + 1) = none := I1.hok.fresh hsz
  have hq := q1 (hp.objs.size + 1) hn
  have kk : ∀ b o, hp.get? b = some o → ((hp.push (PySem.W.kdv_tup us)).push (PySem.HandSPX.excO C hp.objs.size)).get? b = some o := fun b o e => Heap.get?_push_of_some _ (Heap.get?_push_of_some _ e)
  have hget : ((hp.push (PySem.W.kdv_tup us)).push (PySem.HandSPX.excO C hp.objs.size)).get? (hp.objs.size + 1) = some (PySem.HandSPX.excO C hp.objs.size) := by heap_get
  have I2 : Inv X pins σ (upd H1 (hp.objs.size + 1) (exo (hp.objs.size + 1) C none)) ⟨(hp.push (PySem.W.kdv_tup us)).push (PySem.HandSPX.excO C hp.objs.size), g, dr, tk, os⟩ :=
    I1.laid (t' := tk) (a := hp.objs.size + 1) (o := exo (hp.objs.size + 1) C none) (h' := (hp.push (PySem.W.kdv_tup us)).push (PySem.HandSPX.excO C hp.objs.size)) kk hsz (exo_ok hget)
  have r2 : Vals (V.ref (hp.objs.size + 1) :: (vs ++ dvs)) (Value.ref (hp.objs.size + 1) :: (us ++ ds)) := .cons rfl (r1.append hd)
  have hl : (Value.ref (hp.objs.size + 1) :: us ++ ds).length = ps.length := by
    have e := r2.length
    rw [F1.len _ _ _ _ hq] at e
    exact e.symm
  have hus : us.length ≤ sizeLine := by
    rw [← Paired.length r1, sizeLine_eq]
    omega
  refine wpAny_call (PySem.HandSPX.call_own F.excBase_ValueError (fun Y => PySem.HandSPX.refsVE_contains Y bm hbm) (I1.kIn _ _ hC) (PySem.W.looks_findIn I1.kIn iC) (fun self => PySem.W.bind_fn I1.kIn self tI) hus
    (codeAny_mono (F1.run _ X.stack _ _ ⟨Value.ref (hp.objs.size + 1) :: us, []⟩ (Value.ref (hp.objs.size + 1) :: (us ++ ds)) _ _ (fun _ _ _ => False) (hr.make C us []) (I2.env0.make C us []) (hb _ (Value.ref (hp.objs.size + 1) :: us) I2.kIn hl) r2 hq) fun r s' hq' => ?_))
  cases r with
  | error er => exact hx pins σ _ _ er s' I2 hq'
  | ok fl =>
    cases fl with
    | ret u =>
      obtain ⟨v, H2, os2, bare2, un2, hok2, rv, ev, d, fs, ea, ed, hd1, q2⟩ := hq'
      subst ev
      obtain ⟨h2, g2, d2, t2, os'⟩ := s'
      obtain ⟨t0, G, J, kG, ge, hoe, na⟩ := mk_end0 (d2 := d2) (t2 := t2) I1 hsz kk un2 hok2 os2 bare2 ea ed hd1
      refine ⟨rv, ⟨hp.objs.size + 1, _, _, ⟨G, g2, d2, t2, os'⟩, _, .ref C, some d, rfl, J, kG, ge, hoe, ⟨rfl, rfl, fun vs hv => ?_⟩, rfl, rfl, na, rfl, bare2, raises_own T.exC T.tyC, q2⟩⟩
      cases hv
      rfl
    | next => exact False.elim hq'
    | brk => exact False.elim hq'
    | cont => exact False.elim hq'
end
section
variable {P : Program} {w : World} {K : PySem.W.Frag} {mg : Str → Option Value} {base : Heap}
/-- as Fun.okX, for the ways out that tell the error's context -/
theorem Fun.okXN {x qual : Str} {st : Stmt} {f : Addr} {fd : FuncData} {N ps : List Str} {k : Nat} {sp : Sp} (F : Fun K x qual st f fd) (S : FnScope N ps (defScope st)) (len : ∀ vs H Q E, sp vs H Q E → vs.length = ps.length)
    (hbody : ∀ (cdv : Value) (A : Around) (outer : List Env) (s : Shared) (H : Hp) (vs : List V) (Q : VK) (E : XK), Room k (A.deeper (envOfC qual (defScope st) s.heap.objs.size f cdv)) → sp vs H Q E →
      ∃ t, PSs (cxOf (L2N.CX P w) P w K mg base N qual (defScope st) f cdv A outer s H E) (defBody st) t ∧ t { nx := fun _ H' => Q .non H', rt := Q } (start N vs) H) : FnOk P w K mg base (L2N.CX P w) (k + 1) f fd ps sp := by
  obtain ⟨oc, od, kV, doc, pm, an, cdv, ct, osl, rfl, lk, hcd⟩ := F.ex
  exact fn_of lk hcd S len fun A outer s H vs Q E hr hsp => hbody cdv A outer s H vs Q E hr hsp
theorem takes0N {X : Cx} : L2N.Takes X (fun _ _ _ _ => False) := fun _ _ x => by
  obtain ⟨_, _, _, _, _, _, _, _, _, _, _, _, _, _, _, _, z⟩ := x
  exact z.elim
/-- as Fun.ok, for a def that is called in an except suite -/
theorem Fun.okH {x qual : Str} {st : Stmt} {f : Addr} {fd : FuncData} {N ps : List Str} {k : Nat} {sp : Sp} (F : Fun K x qual st f fd) (S : FnScope N ps (defScope st)) (len : ∀ vs H Q E, sp vs H Q E → vs.length = ps.length)
    (hbody : ∀ (cdv : Value) (A : Around) (outer : List Env) (s : Shared) (H : Hp) (vs : List V) (Q : VK) (E : XK) (p : Addr × Obj), L2H.RoomH k (A.deeper (envOfC qual (defScope st) s.heap.objs.size f cdv)) → sp vs H Q E →
      ∃ t, PSs (L2H.cxH CX0 P w K mg base N qual (defScope st) f cdv A outer s H E p) (defBody st) t ∧ t { nx := fun _ H' => Q .non H', rt := Q } (start N vs) H) : L2H.FnH P w K mg base CX0 (k + 1) f fd ps sp := by
  obtain ⟨oc, od, kV, doc, pm, an, cdv, ct, osl, rfl, lk, hcd⟩ := F.ex
  exact L2H.fn_ofH lk hcd S len fun A outer s H vs Q E p hot hr hsp => hbody cdv A outer s H vs Q E p hr hsp
theorem hot_suite {X : Cx} {a : Addr} {oe : Obj} {cls : Value} {d : Option Addr} {pn : List (Addr × Obj)} (hz : L2N.Zn cls d oe) (hf : ∃ vs, oe.data = .fields vs) : L2H.HotC (X.suite a ((a, oe) :: pn)) := by
  obtain ⟨vs, hv⟩ := hf
  exact ⟨(a, oe), ⟨rfl, vs, hv, hz.2.2 vs hv⟩, List.mem_cons_self⟩
theorem room_suite {k j : Nat} {A : Around} (r : Room k A) (h : j ≤ k) (v : Option Value) : L2H.RoomH j (A.mark v) := L2H.RoomH.mono ⟨r.dp, r.un⟩ h
theorem passH {X : Cx} {E : L2.St → XK} : ∀ σ, PassesAt CX0 X σ (E σ) := fun _ _ _ _ _ _ _ h => h.elim
end
end D

/-! defs that show data as text: no guard of a repr stands open where they are called -/
namespace D
open PySem PySem.Spec PyProof.Rows L2
section
variable {P : Program} {w : World} {K : PySem.W.Frag} {mg : Str → Option Value} {base : Heap} {CX : CXT} {k : Nat} {f : Addr} {fd : FuncData} {ps : List Str} {sp : Sp}
/-- as FnOk, called where no guard stands open -/
structure FnG (P : Program) (w : World) (K : PySem.W.Frag) (mg : Str → Option Value) (base : Heap) (CX : CXT) (k : Nat) (f : Addr) (fd : FuncData) (ps : List Str) (sp : Sp) : Prop where
  ln : ∀ vs H Q E, sp vs H Q E → vs.length = ps.length
  go : ∀ (A : Around) (fr : List Env) (s : Shared) (H : Hp) (args : Args) (us : List Value) (vs : List V) (Q : VK) (E : XK), A.guards = some [] → Room k A → Env0 P w K mg base A fr s H → BindsTo s fd args (ps.zip us) → Vals vs us → sp vs H Q E → codeAny (model P w) A (.call (.ref f) args) (CR CX fr P w H s Q E) s
theorem FnG.of (F : FnOk P w K mg base CX k f fd ps sp) : FnG P w K mg base CX k f fd ps sp := ⟨F.len, fun A fr s H args us vs Q E _ hr he hb hv hs => F.run A fr s H args us vs Q E hr he hb hv hs⟩
theorem FnG.bodyG {name qual : Str} {pr : Arguments} {body : List Stmt} {sc : Scope} {dV kV doc pm c ct oc : Value} {an od : Option Addr} {osl : Array (Option Value)} {N : List Str}
    (lk : K.lookup f = some ⟨oc, od, .func (PySem.W.fnOf name qual pr body sc dV kV doc pm an c ct), osl⟩) (hc : PySem.W.codeIn K c qual = true) (S : FnScope N ps sc) (ln : ∀ vs H Q E, sp vs H Q E → vs.length = ps.length)
    (hb : ∀ (A : Around) (fr : List Env) (s : Shared) (H : Hp) (vs : List V) (Q : VK) (E : XK), (A.deeper (envOfC qual sc s.heap.objs.size f c)).guards = some [] → Room k (A.deeper (envOfC qual sc s.heap.objs.size f c)) → sp vs H Q E →
      ∃ t, PSs (cxOf CX P w K mg base N qual sc f c A fr s H E) body t ∧ t { nx := fun _ H' => Q .non H', rt := Q } (start N vs) H) : FnG P w K mg base CX (k + 1) f (PySem.W.fnOf name qual pr body sc dV kV doc pm an c ct) ps sp := by
  refine ⟨ln, fun A fr s H args us vs Q E gd hr e0 bd rv hs => ?_⟩
  have n1 := ln _ _ _ _ hs
  have kin : K.In s.heap := e0.mod.kin.keeps fun x o e => (e0.bs x o e).1
  have nl : s.heap.NoLimit := e0.mod.nolimit.keeps fun x o e => (e0.bs x o e).1
  have kd : ∀ y ∈ ps.zip us, sc.names.lookup y.1 = some .local ∨ (sc.names.lookup y.1 = some .cell ∧ ((cellsFrom (s.heap.objs.size + 1) sc.names []).lookup y.1).isSome = true) := by
    rintro ⟨m, v⟩ hy
    exact (S.par m (List.of_mem_zip hy).1).imp id fun z => ⟨z, PySem.W.cellsFrom_some _ _ _ (.inl z)⟩
  refine codeAny_call_function hr.depth (kin _ _ lk) rfl S.co S.gen rfl (PySem.W.codeRec_of kin hc) (bd _ _ _ _ (wpAny_newFunctionEnv_cells S.kind kd fun ev he s1 x => ?_))
  cases he
  refine ⟨nl.keeps x.toInCall.keep, codeAny_func ?_⟩
  obtain ⟨t, ht, hq⟩ := hb A fr s H vs Q E gd (hr.deeper _) hs
  refine wpAny_mono (ht.run [] s1 (start N vs) H _ (inv_start S hr.hd e0 n1 rv x) hq) (fun fl s' z => ?_) fun e s' z => z
  cases fl with
  | ret u =>
    obtain ⟨v, σ', H', J, r, q⟩ := z
    exact ⟨v, H', J.os, J.bare, J.base, J.hok, r, q⟩
  | next =>
    obtain ⟨σ', H', J, q⟩ := z
    exact ⟨V.non, H', J.os, J.bare, J.base, J.hok, rfl, q⟩
  | brk =>
    obtain ⟨_, _, _, z⟩ := z
    exact False.elim z
  | cont =>
    obtain ⟨_, _, _, z⟩ := z
    exact False.elim z
theorem Fun.okG {x qual : Str} {st : Stmt} {N : List Str} (F : Fun K x qual st f fd) (S : FnScope N ps (defScope st)) (ln : ∀ vs H Q E, sp vs H Q E → vs.length = ps.length)
    (hb : ∀ (c : Value) (A : Around) (fr : List Env) (s : Shared) (H : Hp) (vs : List V) (Q : VK) (E : XK), (A.deeper (envOfC qual (defScope st) s.heap.objs.size f c)).guards = some [] → Room k (A.deeper (envOfC qual (defScope st) s.heap.objs.size f c)) → sp vs H Q E →
      ∃ t, PSs (cxOf CX0 P w K mg base N qual (defScope st) f c A fr s H E).nox (defBody st) t ∧ t { nx := fun _ H' => Q .non H', rt := Q } (start N vs) H) : FnG P w K mg base CX0 (k + 1) f fd ps sp := by
  obtain ⟨oc, od, kV, doc, pm, an, c, ct, osl, rfl, lk, hc⟩ := F.ex
  refine FnG.bodyG lk hc S ln fun A fr s H vs Q E gd hr hs => ?_
  obtain ⟨t, h, q⟩ := hb c A fr s H vs Q E gd hr hs
  exact ⟨t, h.nox, q⟩
end
section
variable {X : Cx} {CX : CXT} {k : Nat} {f : Addr} {fd : FuncData} {ps : List Str} {sp : Sp} {E : XK} {x : Str} {p pos : Pos} {e : Expr} {es : List Expr} {t : TA}
theorem run_fnG {pins : List (Addr × Obj)} {σ : L2.St} {H : Hp} {s : Shared} {Q : VK} {us : List Value} {vs : List V} (F : FnG X.prog X.w X.K X.mg X.base CX k f fd ps sp) (gd : X.A.guards = some []) (hr : Room k X.A) (hb : Binds X.K fd ps []) (hx : Passes CX X E)
    (I : Inv X pins σ H s) (r : Vals vs us) (h : sp vs H Q E) : wpAny (model X.prog X.w) X.A (call (.ref f) us) (EP X pins σ Q) X.xe s := by
  have hl : (us ++ ([] : List Value)).length = ps.length := by rw [List.append_nil, ← r.length]; exact F.ln _ _ _ _ h
  have bd := hb s us I.kIn hl
  rw [List.append_nil] at bd
  refine wpAny_call (codeAny_mono (F.go X.A X.stack s H ⟨us, []⟩ us vs Q E gd hr I.env0 bd r h) fun z s' hq => ?_)
  cases z with
  | error er => exact hx pins σ H s er s' I hq
  | ok fl =>
    cases fl with
    | ret u => exact I.after hq
    | next => exact hq.elim
    | brk => exact hq.elim
    | cont => exact hq.elim
theorem pe_callG (F : FnG X.prog X.w X.K X.mg X.base CX k f fd ps sp) (gd : X.A.guards = some []) (hr : Room k X.A) (hg : Gl X x) (hm : X.mg x = some (.ref f)) (hk : PySem.W.keepIn X.K (.ref f) = true) (hb : Binds X.K fd ps []) (hx : Passes CX X E) (ha : PA X (e :: es) t)
    (hdb : (x == ("__debug__" : Str)) = false := by decide) (he : starEach (e :: es) X.env = (false, eval e X.env) :: starEach es X.env := by rfl) (hpl : (backTo pos (starEach es X.env)).any (·.1) = false := by rfl) : PE X (.Call (.Name x p) (e :: es) [] pos) (tCall sp [] E t) := by
  refine ⟨fun pins s σ H Q I h => wpAny_Call_Name_kw (ld_glob I hg hm ?_ hdb)⟩
  refine PySem.W.callWith_K (h₀ := X.base) I.ok.mod.kin hk (thn (ha.run pos pins s σ H _ I h) fun us s1 ⟨vs, H1, I1, r, q⟩ => ⟨I1.kIn, ?_⟩) he hpl
  have q0 : sp (vs ++ []) H1 Q E := q
  rw [List.append_nil] at q0
  exact run_fnG F gd hr hb hx I1 r q0
theorem pe_call0G (F : FnG X.prog X.w X.K X.mg X.base CX k f fd ps sp) (gd : X.A.guards = some []) (hr : Room k X.A) (hg : Gl X x) (hm : X.mg x = some (.ref f)) (hk : PySem.W.keepIn X.K (.ref f) = true) (hb : Binds X.K fd ps []) (hx : Passes CX X E)
    (hdb : (x == ("__debug__" : Str)) = false := by decide) : PE X (.Call (.Name x p) [] [] pos) (tCall sp [] E tNil) :=
  ⟨fun pins s σ H Q I h => wpAny_Call_Name_kw (ld_glob I hg hm (PySem.W.callWith_K0 I.kIn hk (run_fnG (us := []) (vs := []) F gd hr hb hx I .nil h)) hdb)⟩
/-- repr of data -/
theorem call_reprD (gd : X.A.guards = some []) (hu : X.A.units + 200 < cLine) : CallR X (.builtin "repr") (fun xs H Q => ∃ a d, xs = [.ref a] ∧ Dp X.K H (.ref a) d ∧ d.showable = true ∧ d.hasDict = false ∧ d.depth ≤ 64 ∧ d.shown.length ≤ sizeLine ∧ Q (.str d.shown) H) := by
  intro pins s σ H xs us Q I r h
  obtain ⟨a, d, rfl, hd, h1, h2, h3, h4, q⟩ := h
  obtain ⟨u, rfl, ru⟩ := vals1 r
  obtain ⟨as, rd⟩ := Dp.reads I d _ _ hd ru
  cases ru
  exact repr_of_reads' rd h1 (fun z => by rw [h2] at z; cases z) gd (by omega) (fun b o e => e) (fun h' u tk hk => ⟨.str d.shown, H, I.kept hk, ⟨u, rfl⟩, q⟩) h4
end
end D
/-! ### all kinds -/
namespace D
open PySem PySem.Spec PyProof.Rows L2
section
variable {X : Cx}
/-- repr of data of any kind -/
theorem call_reprV (gd : X.A.guards = some []) (hu : X.A.units + 200 < cLine) : CallR X (.builtin "repr") (fun vs H Q => ∃ v d, vs = [v] ∧ Dp X.K H v d ∧ d.showable = true ∧ d.hasDict = false ∧ d.depth ≤ 64 ∧ d.shown.length ≤ sizeLine ∧ Q (.str d.shown) H) := by
  rintro pins s σ H vs us Q I r ⟨v, d, rfl, hd, h1, h2, h3, h4, q⟩
  cases hd with
  | lst h k => exact call_reprD gd hu pins s σ H _ us Q I r ⟨_, _, rfl, .lst h k, h1, h2, h3, h4, q⟩
  | tup h k => exact call_reprD gd hu pins s σ H _ us Q I r ⟨_, _, rfl, .tup h k, h1, h2, h3, h4, q⟩
  | non =>
    obtain ⟨u, rfl, ru⟩ := vals1 r
    cases (show u = Value.none from ru)
    rw [PyData.shown_none] at q
    exact PySem.P.repr_of_none ⟨.str _, H, I.tok _, ⟨_, rfl⟩, q⟩
  | bl b =>
    obtain ⟨u, rfl, ru⟩ := vals1 r
    cases (show u = Value.bool b from ru)
    rw [PyData.shown_bool] at q
    exact PySem.P.repr_of_bool ⟨.str _, H, I.tok _, ⟨_, rfl⟩, q⟩
  | int i =>
    obtain ⟨u, rfl, t, rfl⟩ := vals1 r
    rw [PyData.shown_int] at q
    exact PySem.P.repr_of_int (of_decide_eq_true h1) ⟨.str _, H, I.tok _, ⟨_, rfl⟩, q⟩
  | str y =>
    obtain ⟨u, rfl, t, rfl⟩ := vals1 r
    rw [PyData.shown_str] at q h4
    exact PySem.P.repr_of_str ⟨.str _, H, I.tok _, ⟨_, rfl⟩, q⟩ h4
end
end D
namespace D
open PySem PySem.Spec PyProof.Rows L2
/-- join, its row's part of the module named -/
theorem pe_joinK {X : Cx} {K : PySem.W.Frag} {o e : Expr} {to te : TE} {apos pos : Pos} (h : X.K = K) (ho : PE X o to) (he : PE X e te) (hs : starEach [e] X.env = [(false, eval e X.env)] := by rfl) (hb : attributeBase o "join" X.env (eval o X.env) = eval o X.env := by rfl) (hl : (apos.endLine == pos.line) = true := by rfl) :
    PE X (.Call (.Attribute o "join" apos) [e] [] pos) (tM1 (fun x xs H Q => ∃ a p, ∃ ys : List Str, x = .str a ∧ xs = [.ref p] ∧ (SqL K H p (ys.map V.str) ∨ SqT K H p (ys.map V.str)) ∧ (ys.map (·.length)).sum + ys.length * a.length ≤ 16777216 ∧ Q (.str (Txt.join a ys)) H) to te) := by
  subst h
  exact pe_join ho he hs hb hl
end D
/-! ### the law's own call: no guard stands open there -/
namespace D
open PySem PySem.Spec PyProof.Rows L2
theorem un200 {A : Around} {k : Nat} (r : Room k A) : A.units + 200 < cLine := by
  have z := r.un
  omega
section
variable {P : Program} {w : World} {K : PySem.W.Frag} {mg mb : Str → Option Value} {CX : CXT} {k : Nat} {fa a : Addr} {fd : FuncData} {x : Str} {sp : Sp} {z : Shared} {us : List Value} {ns : List Int}
theorem top_run (kx : K.In z.heap) (h1 : z.heap.Ns mainGlobals mg) (h2 : z.heap.Ns builtinsNs mb) (h3 : ∀ y : Str, y ≠ "__name__" → mb y = bootBuiltins y) (h4 : z.heap.NoLimit) (h5 : z.gens = #[]) (ha : z.heap.get? a = some { cls := .type "list", data := .seq us.toArray })
    (hr : Room k callerA) (F : ∀ base : Heap, K.In base → base.Ns mainGlobals mg → FnG P w K mg base CX k fa fd [x] sp) (bd : ∀ (s : Shared) (u : Value), BindsTo s fd ⟨[u], []⟩ [(x, u)]) (cx : ∀ H e s', CX [] H z (fun _ _ _ => False) e s' → False)
    {H : Hp} (only : Only H) (hsp : sp [.ref a] H (fun v _ => v = .bl true) fun _ _ _ => False) (hok : HOk P w H z.heap) (own : ∀ b, H b ≠ none → b = a ∧ K.lookup b = none) :
    codeAny (model P w) callerA (.call (.ref fa) ⟨[.ref a], []⟩) (fun r s' => r = .ok (.ret (.bool true)) ∧ OldK z.heap s'.heap ∧ s'.os = z.os ∧ AllBare s'.gens) z := by
  have out : ∀ {b : Addr} {o : Obj} {es : Array DictEntry} {n : Nat}, z.heap.get? b = some o → o.data = .dict es n → H b = none := fun {b o es n} e d => by
    by_cases q : H b = none
    · exact q
    · obtain ⟨rfl, _⟩ := own b q
      rw [ha] at e
      cases e
      cases (show Data.seq us.toArray _ = Data.dict es n from d)
  have ns' : ∀ {b : Addr} {m : Str → Option Value}, z.heap.Ns b m → (hidT z.heap H).Ns b m := fun {b m} h => by
    obtain ⟨o, es, n, e, d, r⟩ := h
    exact ⟨o, es, n, hidT_get e (out e d), d, r⟩
  have kb : K.In (hidT z.heap H) := fun b o e => by
    refine hidT_get (kx b o e) ?_
    by_cases q : H b = none
    · exact q
    · rw [(own b q).2] at e
      cases e
  obtain ⟨mc, l1, l2⟩ := h4
  have md : Mod K mg (hidT z.heap H) := ⟨kb, ns' h1, ⟨mb, ns' h2, h3⟩, mc, ns' l1, l2⟩
  have ev : Env0 P w K mg (hidT z.heap H) callerA [] z H := ⟨rfl, md, fun _ _ e => of_hidT e, by rw [hidT_size]; exact Nat.le_refl _, trivial, fun b m => (by cases m), hok, .of_eq h5⟩
  have run := (F _ kb (ns' h1)).go callerA [] z H ⟨[.ref a], []⟩ [.ref a] [.ref a] (fun v _ => v = .bl true) (fun _ _ _ => False) rfl hr ev (bd z (.ref a)) (.cons rfl .nil) hsp
  refine codeAny_mono run fun r s' c => ?_
  rcases r with er | fl
  · exact absurd c (cx H er s')
  · cases fl with
    | next => exact c.elim
    | brk => exact c.elim
    | cont => exact c.elim
    | ret u =>
      obtain ⟨v, H2, o1, b1, un, ok2, rv, ev⟩ := c
      cases (show v = V.bl true from ev)
      cases (show u = Value.bool true from rv)
      refine ⟨rfl, OldK.of_keep fun b o e => ?_, o1, b1⟩
      cases q : H b with
      | none => exact un.keep b o e q (fun m => by cases m) (fun m => by cases m)
      | some t =>
        rcases only b with y | ⟨ob, xs, y⟩
        · rw [q] at y; cases y
        · obtain ⟨e1, _⟩ := hok b _ y
          obtain ⟨e2, _⟩ := ok2 b _ (un.frzs b ob _ y)
          rw [e] at e1
          cases e1
          exact e2
end
theorem walk_ofG {l : PySem.W.OpenLaw} {n k : Nat} {q : Program} {loose : List Str} {XP : (Str → Option Value) → Heap → Prop} {YP : World → Heap → Prop} {d : DefRec} {K : Params → PySem.W.Frag} {sp : PySem.W.Frag → Sp} {x : Str}
    (hn : l.most = some n) (hn2 : n ≤ sizeLine) (hdf : d.params.defaults = []) (hr : Room k callerA) (hY : ∀ (w : World) (h : Heap), YP w h → (K w.params).In h)
    (F : ∀ (w : World) (mg : Str → Option Value) (fa : Addr) (h : Heap), (K w.params).In h → h.Ns mainGlobals mg → mg d.name = some (.ref fa) →
      ∃ fd : FuncData, (∀ (s : Shared) (u : Value), BindsTo s fd ⟨[u], []⟩ [(x, u)]) ∧ ∀ base : Heap, (K w.params).In base → base.Ns mainGlobals mg → FnG l.prog w (K w.params) mg base CX0 k fa fd [x] (sp (K w.params)))
    (hsp : ∀ (K : PySem.W.Frag) (H : Hp) (a : Addr) (ns : List Int), ns.length ≤ n → SqL K H a (ns.map V.int) → sp K [.ref a] H (fun v _ => v = .bl true) fun _ _ _ => False) :
    PySem.W.WalkO q loose XP YP l.row.toRowW d [] (fun f vs => PySem.call f vs) := by
  refine Att.attach_call hn hdf fun w s0 z mg mb fa o pm cd dc a us ns G Y ho hd hcd hm hob hi hle hg => ?_
  have kx := hY w _ Y
  obtain ⟨fd, bd, hF⟩ := F w mg fa _ kx G.T.g hm
  have lv := vals_ints hi
  have le1 : (ns.map V.int).length ≤ sizeLine := by
    rw [List.length_map]
    omega
  cases hk : (K w.params).lookup a with
  | some u =>
    have e := kx a u hk
    rw [hob] at e
    cases e
    have hS : SqL (K w.params) (fun _ => none) a (ns.map V.int) := .inr ⟨_, us.toArray, _, hk, rfl, rfl, rfl, by rw [List.size_toArray, ← lv.length]; exact le1, by simpa using lv⟩
    exact top_run kx G.T.g G.T.b G.T.builtins G.T.nolimit hg hob hr hF bd (fun _ _ _ c => c) (fun _ => .inl rfl) (hsp _ _ _ _ hle hS) (fun b t c => by cases (show (none : Option HO) = some t from c)) fun b c => absurd rfl c
  | none =>
    obtain ⟨H, eH⟩ : ∃ H : Hp, H = upd (fun _ => none) a (.frz { cls := .type "list", data := .seq us.toArray } (.lst (ns.map V.int))) := ⟨_, rfl⟩
    have ea : H a = some (.frz { cls := .type "list", data := .seq us.toArray } (.lst (ns.map V.int))) := by rw [eH]; exact upd_same
    have en : ∀ b, b ≠ a → H b = none := fun b c => by rw [eH]; exact upd_ne c
    refine top_run kx G.T.g G.T.b G.T.builtins G.T.nolimit hg hob hr hF bd (fun _ _ _ c => c) (H := H) (fun b => ?_) (hsp _ _ _ _ hle (.inl (.inr ⟨_, ea⟩))) (fun b t c => ?_) fun b c => ?_
    · by_cases e : b = a
      · exact .inr ⟨_, _, by rw [e]; exact ea⟩
      · exact .inl (en b e)
    · by_cases e : b = a
      · rw [e] at c
        rw [ea] at c
        cases c
        rw [e]
        exact ⟨hob, le1, us, _, lv, hob⟩
      · rw [en b e] at c
        cases c
    · by_cases e : b = a
      · rw [e]
        exact ⟨rfl, hk⟩
      · exact absurd (en b e) c
end D

namespace D
open PySem PySem.Spec PyProof.Rows L2
/-! ### defs that take any number of arguments -/
section
variable {P : Program} {w : World} {K : PySem.W.Frag} {mg : Str → Option Value} {base : Heap}
/-- what such a def promises: what is left over is a new tuple -/
def spStar (n : Nat) (sp : Sp) : Sp := fun vs H Q E => ∃ ws rest, vs = ws ++ rest ∧ ws.length = n ∧ rest.length ≤ sizeLine ∧ ∀ p, H p = Option.none → sp (ws ++ [V.ref p]) (upd H p (.tup rest)) Q E
theorem Fun.okS {x qual : Str} {st : Stmt} {f : Addr} {fd : FuncData} {N ps : List Str} {pv : Str} {k : Nat} {sp : Sp} (F : Fun K x qual st f fd) (S : FnScope N (ps ++ [pv]) (defScope st))
    (hb : ∀ (kV doc pm : Value) (an : Option Addr) (cdv ct : Value) (us rest : List Value), us.length = ps.length → bindArgs (PySem.W.fnOf x qual (defArgs st) (defBody st) (defScope st) .none kV doc pm an cdv ct) ⟨us ++ rest, []⟩ = (newTuple rest >>= fun t => pure (ps.zip us ++ [(pv, t)])))
    (body : ∀ (c : Value) (A : Around) (fr : List Env) (s : Shared) (H : Hp) (vs : List V) (Q : VK) (E : XK), Room k (A.deeper (envOfC qual (defScope st) s.heap.objs.size f c)) → sp vs H Q E →
      ∃ t, PSs (cxOf CX0 P w K mg base N qual (defScope st) f c A fr s H E) (defBody st) t ∧ t { nx := fun _ H' => Q .non H', rt := Q } (start N vs) H) : FnR P w K mg base CX0 (k + 1) f (spStar ps.length sp) := by
  obtain ⟨oc, od, kV, doc, pm, an, c, ct, osl, rfl, lk, hc⟩ := F.ex
  exact StX.fn_star lk hc S StX.cxUp_none (hb kV doc pm an c ct) fun A fr s H vs Q E hr hs => body c A fr s H vs Q E hr hs
end
section
variable {X : Cx} {CX : CXT} {k : Nat} {f : Addr} {sp : Sp} {E : XK} {x : Str} {p pos : Pos} {e : Expr} {es : List Expr} {t : TA}
theorem pe_callR (F : FnR X.prog X.w X.K X.mg X.base CX k f sp) (hr : Room k X.A) (hg : Gl X x) (hm : X.mg x = some (.ref f)) (hk : PySem.W.keepIn X.K (.ref f) = true) (hx : Passes CX X E) (ha : PA X (e :: es) t)
    (hdb : (x == ("__debug__" : Str)) = false := by decide) (he : starEach (e :: es) X.env = (false, eval e X.env) :: starEach es X.env := by rfl) (hpl : (backTo pos (starEach es X.env)).any (·.1) = false := by rfl) : PE X (.Call (.Name x p) (e :: es) [] pos) (tCall sp [] E t) := by
  refine ⟨fun pins s σ H Q I h => wpAny_Call_Name_kw (ld_glob I hg hm ?_ hdb)⟩
  refine PySem.W.callWith_K (h₀ := X.base) I.ok.mod.kin hk (thn (ha.run pos pins s σ H _ I h) fun us s1 ⟨vs, H1, I1, r, q⟩ => ⟨I1.kIn, ?_⟩) he hpl
  have q0 : sp (vs ++ []) H1 Q E := q
  rw [List.append_nil] at q0
  exact wpAny_call (run_fnR F hr hx I1 r q0)
theorem pe_callR0 (F : FnR X.prog X.w X.K X.mg X.base CX k f sp) (hr : Room k X.A) (hg : Gl X x) (hm : X.mg x = some (.ref f)) (hk : PySem.W.keepIn X.K (.ref f) = true) (hx : Passes CX X E)
    (hdb : (x == ("__debug__" : Str)) = false := by decide) : PE X (.Call (.Name x p) [] [] pos) (tCall sp [] E tNil) :=
  ⟨fun pins s σ H Q I h => wpAny_Call_Name_kw (ld_glob I hg hm (PySem.W.callWith_K0 I.kIn hk (wpAny_call (run_fnR (us := []) (vs := []) F hr hx I .nil h))) hdb)⟩
end
end D

namespace D
open PySem PySem.Spec PyProof.Rows L2
/-! ### data that may be compared and shown -/
structure Gd (B n : Nat) (d : PyData) : Prop where
  lay : d.canLay0 = true
  deep : d.depth ≤ n
  short : d.leavesShort 13 = true
  show' : d.showable = true
  nod : d.hasDict = false
  bulk : d.bulk ≤ B
theorem Gd.le {B n B' n' : Nat} {d : PyData} (h : Gd B n d) (hB : B ≤ B') (hn : n ≤ n') : Gd B' n' d := ⟨h.lay, Nat.le_trans h.deep hn, h.short, h.show', h.nod, Nat.le_trans h.bulk hB⟩
theorem log40 {n : Nat} (h : n < 10 ^ 12) : n.log2 < 1920 := by
  rcases Nat.eq_zero_or_pos n with z | z
  · subst z
    decide
  · have := (Nat.log2_lt (by omega)).mpr (Nat.lt_of_lt_of_le h (by decide : 10 ^ 12 ≤ 2 ^ 40))
    omega
theorem Gd.int {i : Int} (h : i.natAbs < 10 ^ 12) : Gd 0 0 (.int i) := ⟨by simp [PyData.canLay0], Nat.le_refl _, decide_eq_true (PyData.shown_int_le h), decide_eq_true (log40 h), rfl, Nat.le_refl _⟩
theorem Gd.str {x : Str} {B : Nat} (h : ∀ c ∈ x.cps.toList, c < 0x110000) (hl : x.length ≤ B) : Gd B 0 (.str x) := ⟨by
  simp only [PyData.canLay0, PyData.strOk]
  rw [← Array.all_toList]
  exact List.all_eq_true.mpr fun c hc => decide_eq_true (h c hc), Nat.le_refl _, List.all_eq_true.mpr fun c hc => decide_eq_true (Nat.lt_of_lt_of_le (h c hc) (by decide)), rfl, rfl, hl⟩
theorem Gd.non : Gd 0 0 .none := ⟨by simp [PyData.canLay0], Nat.le_refl _, rfl, rfl, rfl, Nat.le_refl _⟩
/-- rows of such data: B bounds the items together -/
structure GdAll (B n : Nat) (ds : List PyData) : Prop where
  lay : PyData.canLayAll0 ds = true
  deep : PyData.depthAll ds ≤ n
  short : PyData.leavesShortAll 13 ds = true
  show' : PyData.showableAll ds = true
  nod : PyData.hasDictAll ds = false
  bulk : PyData.bulkAll ds ≤ B
theorem GdAll.nil {n : Nat} : GdAll 0 n [] := ⟨rfl, Nat.zero_le _, rfl, rfl, rfl, Nat.le_refl _⟩
theorem GdAll.cons {B C n : Nat} {d : PyData} {ds : List PyData} (h : Gd B n d) (g : GdAll C n ds) : GdAll (B + 1 + C) n (d :: ds) := by
  refine ⟨?_, ?_, ?_, ?_, ?_, ?_⟩
  · simp only [PyData.canLayAll0, h.lay, g.lay, Bool.and_self]
  · have := h.deep
    have := g.deep
    simp only [PyData.depthAll]
    omega
  · simp only [PyData.leavesShortAll, h.short, g.short, Bool.and_self]
  · simp only [PyData.showableAll, h.show', g.show', Bool.and_self]
  · simp only [PyData.hasDictAll, h.nod, g.nod, Bool.or_self]
  · have := h.bulk
    have := g.bulk
    simp only [PyData.bulkAll]
    omega
theorem GdAll.le {B n B' n' : Nat} {d : List PyData} (h : GdAll B n d) (hB : B ≤ B') (hn : n ≤ n') : GdAll B' n' d := ⟨h.lay, Nat.le_trans h.deep hn, h.short, h.show', h.nod, Nat.le_trans h.bulk hB⟩
theorem GdAll.all {B n : Nat} : ∀ {ds : List PyData}, (∀ d ∈ ds, Gd B n d) → GdAll (ds.length * (B + 1)) n ds
  | [], _ => GdAll.nil.le (Nat.zero_le _) (Nat.le_refl _)
  | d :: r, h => ((GdAll.all fun z hz => h z (List.mem_cons_of_mem _ hz)).cons (h d List.mem_cons_self)).le (by rw [List.length_cons, Nat.succ_mul]; omega) (Nat.le_refl _)
theorem GdAll.tup {B n : Nat} {ds : List PyData} (h : GdAll B n ds) : Gd B (n + 1) (.tuple ds) := by
  refine ⟨?_, ?_, ?_, ?_, ?_, ?_⟩
  · simp only [PyData.canLay0, h.lay]
  · have := h.deep
    simp only [PyData.depth]
    omega
  · simp only [PyData.leavesShort, h.short]
  · simp only [PyData.showable, h.show']
  · simp only [PyData.hasDict, h.nod]
  · exact h.bulk
theorem GdAll.lst {B n : Nat} {ds : List PyData} (h : GdAll B n ds) : Gd B (n + 1) (.list ds) := by
  refine ⟨?_, ?_, ?_, ?_, ?_, ?_⟩
  · simp only [PyData.canLay0, h.lay]
  · have := h.deep
    simp only [PyData.depth]
    omega
  · simp only [PyData.leavesShort, h.short]
  · simp only [PyData.showable, h.show']
  · simp only [PyData.hasDict, h.nod]
  · exact h.bulk
theorem Gd.shaped {B n : Nat} {d : PyData} (h : Gd B n d) (hn : n ≤ 40) : SeqAt.shaped d = true := by
  refine Bool.and_eq_true_iff.mpr ⟨h.lay, decide_eq_true ?_⟩
  have := h.deep
  omega
theorem Gd.refl {B n : Nat} {d : PyData} (h : Gd B n d) : PyData.eqv d d = true := SeqAt.eqv_refl d h.lay
theorem Gd.showing {B n : Nat} {d : PyData} (h : Gd B n d) (hn : n ≤ 40) (hB : B ≤ 1000000) : d.showable = true ∧ d.hasDict = false ∧ d.depth ≤ 64 ∧ d.shown.length ≤ sizeLine := by
  have h1 := PyData.shown_le_bulk 13 (by decide) d h.short
  have := h.deep
  have := h.bulk
  refine ⟨h.show', h.nod, by omega, ?_⟩
  rw [sizeLine_eq]
  omega
/-! ### shapes -/
inductive Lf where
  | text (f : PyData)
  | button (w : PyData)
  | put (c : PyData) (fs : List PyData)
  | each (f m k c : PyData) (fs : List PyData)
inductive Sh where
  | leaf (l : Lf)
  | whn (f : PyData) (a b : Sh)
  | line (r : Bool) (ps : List Sh)
def sText : Str := Str.ofString "text"
def sButton : Str := Str.ofString "button"
def sPut : Str := Str.ofString "put"
def sEach : Str := Str.ofString "each"
def sWhen : Str := Str.ofString "when"
def sLine (r : Bool) : Str := if r = true then Str.ofString "row" else Str.ofString "col"
def Lf.enc : Lf → PyData
  | .text f => .tuple [.str sText, f]
  | .button w => .tuple [.str sButton, w]
  | .put c fs => .tuple [.str sPut, c, .tuple fs]
  | .each f m k c fs => .tuple [.str sEach, f, m, k, c, .tuple fs]
mutual
def Sh.enc : Sh → PyData
  | .leaf l => l.enc
  | .whn f a b => .tuple [.str sWhen, f, a.enc, b.enc]
  | .line r ps => .tuple [.str (sLine r), .tuple (Sh.encAll ps)]
def Sh.encAll : List Sh → List PyData
  | [] => []
  | p :: r => p.enc :: Sh.encAll r
end
mutual
def Sh.dep : Sh → Nat
  | .leaf _ => 1
  | .whn _ a b => Nat.max a.dep b.dep + 1
  | .line _ ps => Sh.depAll ps + 1
def Sh.depAll : List Sh → Nat
  | [] => 0
  | p :: r => Nat.max p.dep (Sh.depAll r)
end
mutual
def Sh.subs : Sh → List Sh
  | .leaf l => [.leaf l]
  | .whn f a b => .whn f a b :: (a.subs ++ (b.subs ++ []))
  | .line r ps => .line r ps :: Sh.subsAll ps
def Sh.subsAll : List Sh → List Sh
  | [] => []
  | p :: r => p.subs ++ Sh.subsAll r
end
def Sh.inner : Sh → List Sh
  | .leaf _ => []
  | .whn _ a b => [a, b]
  | .line _ ps => ps
theorem encAll_map : ∀ ps : List Sh, Sh.encAll ps = ps.map Sh.enc
  | [] => by rw [Sh.encAll, List.map_nil]
  | p :: r => by rw [Sh.encAll, encAll_map r, List.map_cons]
theorem subsAll_map : ∀ ps : List Sh, Sh.subsAll ps = (ps.map Sh.subs).flatten
  | [] => by rw [Sh.subsAll, List.map_nil, List.flatten_nil]
  | p :: r => by rw [Sh.subsAll, subsAll_map r, List.map_cons, List.flatten_cons]
theorem depAll_mem : ∀ {ps : List Sh} {p : Sh}, p ∈ ps → p.dep ≤ Sh.depAll ps
  | q :: r, p, h => by
    rw [Sh.depAll]
    rcases List.mem_cons.mp h with rfl | h
    · exact Nat.le_max_left _ _
    · exact Nat.le_trans (depAll_mem h) (Nat.le_max_right _ _)
theorem depAll_le : ∀ {ps : List Sh} {n : Nat}, (∀ p ∈ ps, p.dep ≤ n) → Sh.depAll ps ≤ n
  | [], n, _ => by rw [Sh.depAll]; exact Nat.zero_le _
  | q :: r, n, h => by
    rw [Sh.depAll]
    exact Nat.max_le.mpr ⟨h q List.mem_cons_self, depAll_le fun p hp => h p (List.mem_cons_of_mem _ hp)⟩
theorem dep_inner {s p : Sh} (h : p ∈ s.inner) : p.dep < s.dep := by
  cases s with
  | leaf l => cases h
  | whn f a b =>
    simp only [Sh.inner, List.mem_cons, List.not_mem_nil, or_false] at h
    rw [Sh.dep]
    rcases h with rfl | rfl
    · exact Nat.lt_succ_of_le (Nat.le_max_left _ _)
    · exact Nat.lt_succ_of_le (Nat.le_max_right _ _)
  | line r ps =>
    rw [Sh.dep]
    exact Nat.lt_succ_of_le (depAll_mem h)
theorem dep_pos (s : Sh) : 0 < s.dep := by
  cases s <;> rw [Sh.dep] <;> omega
theorem subs_eq (s : Sh) : s.subs = s :: (s.inner.map Sh.subs).flatten := by
  cases s with
  | leaf l => rw [Sh.subs]; rfl
  | whn f a b => rw [Sh.subs]; rfl
  | line r ps => rw [Sh.subs, subsAll_map]; rfl
theorem dep_eq (s : Sh) : s.dep = Sh.depAll s.inner + 1 := by
  cases s with
  | leaf l => rw [Sh.dep]; rfl
  | whn f a b =>
    rw [Sh.dep]
    simp only [Sh.inner, Sh.depAll, Nat.max_eq_left (Nat.zero_le _)]
  | line r ps => rw [Sh.dep]; rfl
/-- the parts of a shape stand behind it, in a row -/
theorem subs_slice : ∀ (n : Nat) (s : Sh), s.dep ≤ n → ∀ (i : Nat) (t : Sh), s.subs[i]? = some t → (s.subs.drop i).take t.subs.length = t.subs := by
  intro n
  induction n with
  | zero => intro s h; exact absurd (dep_pos s) (by omega)
  | succ n ih =>
    intro s hs i t hi
    rw [subs_eq s] at hi ⊢
    cases i with
    | zero =>
      cases hi
      rw [List.drop_zero, ← subs_eq]
      exact List.take_of_length_le (Nat.le_refl _)
    | succ i =>
      rw [List.getElem?_cons_succ] at hi
      rw [List.drop_succ_cons]
      have hd : ∀ p ∈ s.inner, p.dep ≤ n := fun p hp => by
        have := dep_inner hp
        omega
      revert hi hd
      generalize s.inner = ps
      intro hi hd
      induction ps generalizing i with
      | nil => simp at hi
      | cons p r ihp =>
        rw [List.map_cons, List.flatten_cons] at hi ⊢
        by_cases c : i < p.subs.length
        · rw [List.getElem?_append_left c] at hi
          have e := ih p (hd p List.mem_cons_self) i t hi
          have l1 : t.subs.length ≤ (p.subs.drop i).length := by
            have := congrArg List.length e
            rw [List.length_take] at this
            omega
          rw [List.drop_append_of_le_length (by omega), List.take_append_of_le_length l1]
          exact e
        · rw [List.getElem?_append_right (by omega)] at hi
          rw [List.drop_append, List.drop_of_length_le (by omega), List.nil_append]
          exact ihp _ hi fun q hq => hd q (List.mem_cons_of_mem _ hq)
/-- a shape that was drawn -/
def Lf.ok : Lf → Prop
  | .text f => Gd 150 3 f
  | .button w => Gd 8 0 w
  | .put c fs => Gd 8 0 c ∧ fs.length ≤ 3 ∧ ∀ f ∈ fs, Gd 50 2 f
  | .each f m k c fs => Gd 50 2 f ∧ Gd 24 2 m ∧ Gd 50 2 k ∧ Gd 8 0 c ∧ fs.length ≤ 3 ∧ ∀ f ∈ fs, Gd 50 2 f
def okLen (n : Nat) : Prop := n ≤ 8 ∨ n = 11
mutual
def Sh.ok : Sh → Prop
  | .leaf l => l.ok
  | .whn f a b => Gd 150 3 f ∧ a.ok ∧ b.ok
  | .line _ ps => okLen ps.length ∧ Sh.okAll ps
def Sh.okAll : List Sh → Prop
  | [] => True
  | p :: r => p.ok ∧ Sh.okAll r
end
theorem okAll_iff : ∀ {ps : List Sh}, Sh.okAll ps ↔ ∀ p ∈ ps, p.ok
  | [] => by rw [Sh.okAll]; exact ⟨fun _ _ h => (nomatch h), fun _ => trivial⟩
  | q :: r => by
    rw [Sh.okAll, okAll_iff (ps := r)]
    simp
theorem ok_inner {s p : Sh} (h : s.ok) (hp : p ∈ s.inner) : p.ok := by
  cases s with
  | leaf l => cases hp
  | whn f a b =>
    rw [Sh.ok] at h
    simp only [Sh.inner, List.mem_cons, List.not_mem_nil, or_false] at hp
    rcases hp with rfl | rfl
    · exact h.2.1
    · exact h.2.2
  | line r ps =>
    rw [Sh.ok, okAll_iff] at h
    exact h.2 p hp
theorem gstr (x : String) (B : Nat) (h : ((Str.ofString x).cps.toList.all fun c => decide (c < 0x110000)) = true) (hl : (Str.ofString x).length ≤ B) : Gd B 0 (.str (Str.ofString x)) := Gd.str (fun c hc => of_decide_eq_true (List.all_eq_true.mp h c hc)) hl
theorem Gd.up {B n : Nat} {d : PyData} (h : Gd B 0 d) : Gd B n d := h.le (Nat.le_refl _) (Nat.zero_le _)
theorem Lf.gd {l : Lf} (h : l.ok) : Gd 310 4 l.enc := by
  cases l with
  | text f => exact ((((GdAll.nil).cons (show Gd 150 3 f from h)).cons (gstr "text" 10 (by decide +kernel) (by decide +kernel)).up).tup).le (by omega) (Nat.le_refl _)
  | button w => exact ((((GdAll.nil (n := 0)).cons (show Gd 8 0 w from h)).cons (gstr "button" 10 (by decide +kernel) (by decide +kernel))).tup).le (by omega) (by omega)
  | put c fs =>
    obtain ⟨h1, h2, h3⟩ := h
    have hf := (GdAll.all h3).tup
    refine ((((GdAll.nil.cons hf).cons h1.up).cons (gstr "put" 10 (by decide +kernel) (by decide +kernel)).up).tup).le ?_ (Nat.le_refl _)
    omega
  | each f m k c fs =>
    obtain ⟨g1, g2, g3, h1, h2, h3⟩ := h
    have hf := (GdAll.all h3).tup
    refine (((((((GdAll.nil.cons hf).cons h1.up).cons (g3.le (Nat.le_refl _) (by omega))).cons (g2.le (Nat.le_refl _) (by omega))).cons (g1.le (Nat.le_refl _) (by omega))).cons (gstr "each" 10 (by decide +kernel) (by decide +kernel)).up).tup).le ?_ (Nat.le_refl _)
    omega
def Sh.cnt (s : Sh) : Nat := s.subs.length
theorem cnt_eq (s : Sh) : s.cnt = (s.inner.map Sh.cnt).sum + 1 := by
  unfold Sh.cnt
  rw [subs_eq, List.length_cons, List.length_flatten, List.map_map]
  rfl
theorem cnt_pos (s : Sh) : 0 < s.cnt := by rw [cnt_eq]; omega
theorem GdAll.shs {n B : Nat} : ∀ {ps : List Sh}, (∀ p ∈ ps, Gd (310 * p.cnt) n p.enc) → GdAll (310 * (ps.map Sh.cnt).sum + ps.length) n (ps.map Sh.enc)
  | [], _ => GdAll.nil.le (Nat.zero_le _) (Nat.le_refl _)
  | p :: r, h => ((GdAll.shs (B := B) fun z hz => h z (List.mem_cons_of_mem _ hz)).cons (h p List.mem_cons_self)).le (by simp only [List.map_cons, List.sum_cons, List.length_cons]; omega) (Nat.le_refl _)
theorem Sh.gd : ∀ (n : Nat) (s : Sh), s.dep ≤ n → s.ok → Gd (310 * s.cnt) (2 * n + 4) s.enc := by
  intro n
  induction n with
  | zero => intro s h; exact absurd (dep_pos s) (by omega)
  | succ n ih =>
    intro s hs ho
    have hi : ∀ p ∈ s.inner, Gd (310 * p.cnt) (2 * n + 4) p.enc := fun p hp => ih p (by have := dep_inner hp; omega) (ok_inner ho hp)
    have hc := cnt_eq s
    cases s with
    | leaf l =>
      rw [Sh.ok] at ho
      have hp := cnt_pos (.leaf l)
      exact (Lf.gd ho).le (by omega) (by omega)
    | whn f a b =>
      rw [Sh.ok] at ho
      have ga := hi a (by simp [Sh.inner])
      have gb := hi b (by simp [Sh.inner])
      rw [Sh.enc]
      refine (((((GdAll.nil.cons gb).cons ga).cons (ho.1.le (Nat.le_refl _) (by omega))).cons (gstr "when" 10 (by decide +kernel) (by decide +kernel)).up).tup).le ?_ (by omega)
      rw [hc]
      simp only [Sh.inner, List.map_cons, List.map_nil, List.sum_cons, List.sum_nil]
      omega
    | line r ps =>
      rw [Sh.ok] at ho
      have hl : ps.length ≤ 11 := by rcases ho.1 with z | z <;> omega
      have g := (GdAll.shs (B := 0) hi).tup
      have gs : Gd 10 0 (.str (sLine r)) := by
        unfold sLine
        cases r
        · exact gstr "col" 10 (by decide +kernel) (by decide +kernel)
        · exact gstr "row" 10 (by decide +kernel) (by decide +kernel)
      rw [Sh.enc, encAll_map]
      refine (((GdAll.nil.cons g).cons gs.up).tup).le ?_ (by omega)
      rw [hc]
      simp only [Sh.inner] at g ⊢
      omega
end D

/-! making an instance where its __init__ may raise, within a try or a def that lets the error out -/
namespace D
open PySem PySem.Spec PyProof.Rows L2
section
variable {X : Cx} {CX : CXT} {k : Nat} {f C : Addr} {fd : FuncData} {ps : List Str} {sp : Sp} {dvs : List V} {ds : List Value} {x : Str} {p pos : Pos} {e : Expr} {es : List Expr} {t : TA}
def tMakeS (C : Addr) (sp : Sp) (dvs : List V) (E : L2.St → XK) (t : TA) : TE := fun σ H Q => t σ H fun vs H1 => ∀ x dx, H1 x = none → H1 dx = none → dx ≠ x →
  sp (.ref x :: (vs ++ dvs)) (upd (upd H1 dx (.own x)) x (.ins C dx [])) (fun v H2 => v = .non ∧ Q (.ref x) H2) (E σ)
theorem run_makeS {E : XK} {pins : List (Addr × Obj)} {σ : L2.St} {H : Hp} {s : Shared} {Q : VK} {us : List Value} {vs : List V} (M : L2.Mk X.K C f) (F : FnOk X.prog X.w X.K X.mg X.base CX k f fd ps sp) (hr : Room (k + 1) X.A) (hb : Binds X.K fd ps ds) (hd : Vals dvs ds)
    (hx : PassesAt CX X σ E) (I : Inv X pins σ H s) (r : Vals vs us)
    (h : ∀ x dx, H x = none → H dx = none → dx ≠ x → sp (.ref x :: (vs ++ dvs)) (upd (upd H dx (.own x)) x (.ins C dx [])) (fun v H2 => v = .non ∧ Q (.ref x) H2) E) :
    wpAny (model X.prog X.w) X.A (call (.ref C) us) (EP X pins σ Q) X.xe s := by
  have hq := h (s.heap.objs.size + 1) s.heap.objs.size (I.hok.fresh (Nat.le_succ _)) (I.hok.fresh (Nat.le_refl _)) (Nat.ne_of_lt (Nat.lt_succ_self _))
  have I2 := Inv.made (C := C) I
  have r2 : Vals (V.ref (s.heap.objs.size + 1) :: (vs ++ dvs)) (Value.ref (s.heap.objs.size + 1) :: (us ++ ds)) := .cons rfl (r.append hd)
  have hl : (Value.ref (s.heap.objs.size + 1) :: us ++ ds).length = ps.length := by
    have e := r2.length
    rw [F.len _ _ _ _ hq] at e
    exact e.symm
  refine wpAny_call (make_map (f := f) I.kIn M.makes M.init (beq_iff_eq.mp M.fn) (codeAny_mono (F.run _ X.stack _ _ ⟨Value.ref (s.heap.objs.size + 1) :: us, []⟩ (Value.ref (s.heap.objs.size + 1) :: (us ++ ds)) _ _ E (hr.make C us [])
    (I2.env0.make C us []) (hb _ (Value.ref (s.heap.objs.size + 1) :: us) I2.kIn hl) r2 hq) fun r s' hq' => ?_))
  cases r with
  | error e => exact hx pins _ _ e s' I2 hq'
  | ok fl =>
    cases fl with
    | ret u =>
      obtain ⟨v, H', I3, rv, ev, q3⟩ := I2.after hq'
      subst ev
      exact ⟨rv, ⟨V.ref (s.heap.objs.size + 1), H', I3, rfl, q3⟩⟩
    | next => exact False.elim hq'
    | brk => exact False.elim hq'
    | cont => exact False.elim hq'
theorem pe_makeS {E : L2.St → XK} (M : L2.Mk X.K C f) (F : FnOk X.prog X.w X.K X.mg X.base CX k f fd ps sp) (hr : Room (k + 1) X.A) (hg : Gl X x) (hm : X.mg x = some (.ref C)) (hb : Binds X.K fd ps ds) (hd : Vals dvs ds) (hx : ∀ σ, PassesAt CX X σ (E σ))
    (ha : PA X (e :: es) t) (hdb : (x == ("__debug__" : Str)) = false := by decide) (he : starEach (e :: es) X.env = (false, eval e X.env) :: starEach es X.env := by rfl) (hpl : (backTo pos (starEach es X.env)).any (·.1) = false := by rfl) :
    PE X (.Call (.Name x p) (e :: es) [] pos) (tMakeS C sp dvs E t) := by
  refine ⟨fun pins s σ H Q I h => ?_⟩
  refine wpAny_Call_Name_kw (ld_glob I hg hm ?_ hdb)
  refine PySem.W.callWith_K (h₀ := X.base) I.ok.mod.kin M.kp (thn (ha.run pos pins s σ H _ I h) fun us s1 ⟨vs, H1, I1, r, q⟩ => ⟨I1.kIn, ?_⟩) he hpl
  exact run_makeS M F hr hb hd (hx σ) I1 r q
end
section
variable {X : Cx} {K : PySem.W.Frag}
/-- repr, its row's part of the module named: within a suite -/
theorem call_reprVK (hK : X.K = K) (gd : X.A.guards = some []) (hu : X.A.units + 200 < cLine) : CallR X (.builtin "repr") (fun vs H Q => ∃ v d, vs = [v] ∧ Dp K H v d ∧ d.showable = true ∧ d.hasDict = false ∧ d.depth ≤ 64 ∧ d.shown.length ≤ sizeLine ∧ Q (.str d.shown) H) := by
  subst hK
  exact call_reprV gd hu
end
section
variable {X : Cx} {K : PySem.W.Frag}
/-- t != u, two tuples of the same plain items, whatever their texts hold -/
def rNeSm (K : PySem.W.Frag) : R2 := fun x y H Q => ∃ a b xs, x = .ref a ∧ y = .ref b ∧ SqT K H a xs ∧ SqT K H b xs ∧ xs.all flatB = true ∧ Q (.bl false) H
theorem op_neSm (hK : X.K = K) (hu : X.A.units < cLine) : OpR X (compareOp .NotEq) (rNeSm K) := by
  subst hK
  intro pins s σ H x y v u Q I rx ry h
  obtain ⟨a, b, xs, rfl, rfl, ha, hb, hf, q⟩ := h
  cases (show v = Value.ref a from rx)
  cases (show u = Value.ref b from ry)
  obtain ⟨us, r1, p1, _⟩ := I.tuple ha
  obtain ⟨ws, r2, p2, _⟩ := I.tuple hb
  have l1 := r1.length
  have l2 := r2.length
  have k := SeqAt.RcNeAt.tuples (A := X.A) (e := fun _ => true) p1 p2 hu (fun j h1 h2 => by
    have hj1 : j < us.length := by simpa using h1
    have hj2 : j < ws.length := by simpa using h2
    have hx : xs[j]? = some (xs[j]'(by omega)) := List.getElem?_eq_getElem _
    have e1 := r1.get hx
    have e2 := r2.get hx
    obtain ⟨u1, g1, q1⟩ := e1
    obtain ⟨u2, g2, q2⟩ := e2
    rw [List.getElem?_eq_getElem hj1] at g1
    rw [List.getElem?_eq_getElem hj2] at g2
    cases g1
    cases g2
    have := eqAt_same (A := X.A.in1) (s := s) q1 q2 (List.all_eq_true.mp hf _ (List.getElem_mem _))
    simpa using this) X.prog X.w X.xe (fun z s' => EP X pins σ Q z s')
  refine k ?_
  have e : (!((List.range (min us.toArray.size ws.toArray.size)).all (fun _ => true) && us.toArray.size == ws.toArray.size)) = false := by
    have h1 : ((List.range (min us.toArray.size ws.toArray.size)).all fun _ => true) = true := List.all_eq_true.mpr fun _ _ => rfl
    rw [h1, List.size_toArray, List.size_toArray, ← l1, ← l2]
    simp
  rw [e]
  exact ⟨.bl false, H, I, rfl, q⟩
end
end D

/-! a bag and a row of data that stand together: what a law has drawn so far -/
namespace D
open PySem PySem.Spec PyProof.Rows L2
theorem RpAll.nth {M : Ms} {H : Hp} {vs : List V} {ds : List PyData} {v : V} {d : PyData} (h : RpAll M H vs ds) (i : Nat) (hv : vs[i]? = some v) (hd : ds[i]? = some d) : Rp M H v d := by
  obtain ⟨d', e, r⟩ := h.get hv
  rw [hd] at e
  cases e
  exact r
structure Ds (K : PySem.W.Frag) (M : Ms) (b : Addr) (H : Hp) (vs : List V) (ds : List PyData) : Prop where
  bag : Bag K M H b
  ok : Mk M H
  all : RpAll M H vs ds
namespace Ds
variable {K : PySem.W.Frag} {M : Ms} {b : Addr} {H H' : Hp} {vs us : List V} {ds es : List PyData} {v : V} {d : PyData} {p : Addr}
theorem same (E : Ds K M b H vs ds) (s : Same H H') : Ds K M b H' vs ds := ⟨E.bag.same s, E.ok.gr (Gr.same s), E.all.sx (Sx.same s)⟩
theorem push (E : Ds K M b H vs ds) (r : Rp M H v d) : Ds K M b H (v :: vs) (d :: ds) := ⟨E.bag, E.ok, .cons r E.all⟩
theorem step (E : Ds K M b H vs ds) (s : Sx (one b) H H') (g : Gr H H') (B : Bag K M H' b) : Ds K M b H' vs ds := ⟨B, E.ok.gr g, E.all.sx (s.le (one_le E.bag.w))⟩
theorem draw (E : Ds K M b H vs ds) (s : Sx (one b) H H') (g : Gr H H') (B : Bag K M H' b) (r : Rp M H' v d) : Ds K M b H' (v :: vs) (d :: ds) := (E.step s g B).push r
theorem pick (E : Ds K M b H vs ds) (hA : At b H H') (B : Bag K M H' b) : Ds K M b H' vs ds := E.step hA.sx (At.gr hA B.there) B
theorem tup (E : Ds K M b H vs ds) (hp : H p = none) (r : RpAll M H us es) : Ds K M b (upd H p (.tup us)) (.ref p :: vs) (.tuple es :: ds) := (E.same (same_new hp)).push (Rp.newT E.ok hp r)
theorem lst (E : Ds K M b H vs ds) (hp : H p = none) (r : RpAll M H us es) : Ds K M b (upd H p (.lst us)) (.ref p :: vs) (.list es :: ds) := (E.same (same_new hp)).push (Rp.newL E.ok hp r)
theorem new (E : Ds K M b H vs ds) (hp : H p = none) {o : HO} : Ds K M b (upd H p o) vs ds := E.same (same_new hp)
theorem at' (E : Ds K M b H vs ds) (i : Nat) (hv : vs[i]? = some v) (hd : ds[i]? = some d) : Rp M H v d := E.all.nth i hv hd
theorem tail (E : Ds K M b H (v :: vs) (d :: ds)) : Ds K M b H vs ds := ⟨E.bag, E.ok, by
  cases E.all with
  | cons _ r => exact r⟩
theorem cut (E : Ds K M b H vs ds) (n : Nat) : Ds K M b H (vs.take n) (ds.take n) := ⟨E.bag, E.ok, E.all.take n⟩
end Ds
end D

/-! a dict comprehension with two clauses, keys whole numbers or texts -/
namespace D
open PySem PySem.Spec PyProof.Rows L2
/-- the comprehension meant here -/
abbrev dcx (kx vx ta ia : Expr) (ca : List Expr) (tb ib : Expr) (cb : List Expr) (sc : Scope) (ps : Pos) : Expr := .DictComp kx vx [⟨ta, ia, ca, 0⟩, ⟨tb, ib, cb, 0⟩] sc ps
section
variable {P : Program} {w : World} {A : Around} {R : Result → Shared → Prop} {s : Shared} {kx vx ta ia tb ib : Expr} {ca cb : List Expr} {sc : Scope} {ps : Pos} {env : Env}
/-- the tests of a clause, one behind the other -/
abbrev testsOf (cs : List Expr) (env : Env) : Sem Bool := forIn cs true fun c r => if r = true then do let ok ← isTrue c env (eval c env); pure (ForInStep.yield ok) else pure (ForInStep.yield r)
theorem dcx_outer (it acc : Value) : compTurn (dcx kx vx ta ia ca tb ib cb sc ps) 0 it acc env = (do
      standAt ia.pos
      match ← pyNext it with
      | none => pure (.done .next)
      | some u =>
        letOwnedTupleGo ta it u
        assign ta env u
        let mut go := true
        for c in ca do
          if go then go ← isTrue c env (eval c env)
        if go then
          let y ← eval ib env
          standAt ib.pos
          let y ← foldedSetIterable ib env y
          let _ ← runOwn (.compStart (dcx kx vx ta ia ca tb ib cb sc ps) 1 (← holding [y] (pyIter y)) acc env) env
        again (.compLoop (dcx kx vx ta ia ca tb ib cb sc ps) 0 it acc env)) := by rfl
theorem dcx_inner (it : Value) (D : Addr) : compTurn (dcx kx vx ta ia ca tb ib cb sc ps) 1 it (.ref D) env = (do
      standAt ib.pos
      match ← pyNext it with
      | none => pure (.done .next)
      | some u =>
        letOwnedTupleGo tb it u
        assign tb env u
        let mut go := true
        for c in cb do
          if go then go ← isTrue c env (eval c env)
        if go then
          (do
            let k0 ← eval kx env
            let v0 ← holding [k0] (eval vx env)
            standAt { kx.pos with endLine := vx.pos.endLine, endCol := vx.pos.endCol }
            holding [k0, v0] (dictSet D k0 v0))
        again (.compLoop (dcx kx vx ta ia ca tb ib cb sc ps) 1 it (.ref D) env)) := by rfl
/-- what an error leaves, told with the frame -/
abbrev ErX (P : Program) (w : World) (A : Around) (env : Env) (R : Result → Shared → Prop) : Value → Shared → Prop := notedBy (model P w) A env fun e s' => R (.error e) s'
/-- one turn of the outer loop -/
theorem dcx_loopA {it acc : Value} (hs : ∀ x, foldedSetIterable ib env x = pure x) (J : Nat → Shared → Prop)
    (step : ∀ n s, J n s → wpAny (model P w) A (pyNext it) (fun r s1 => r.elim (R (.ok .next) s1) fun u => wpAny (model P w) A (letOwnedTupleGo ta it u) (fun _ s2 => wpAny (model P w) A (assign ta env u) (fun _ s3 => wpAny (model P w) A (testsOf ca env) (fun b s4 =>
        if b = true then wpAny (model P w) A (eval ib env) (fun y s5 => wpAny (model P w) A (pyIter y) (fun it1 s6 => codeAny (model P w) A (.compStart (dcx kx vx ta ia ca tb ib cb sc ps) 1 it1 acc env) (fun r s' => match r with | .ok _ => ∃ m, m < n ∧ J m s' | .error _ => False) s6) (ErX P w A env R) s5) (ErX P w A env R) s4
        else ∃ m, m < n ∧ J m s4) (ErX P w A env R) s3) (ErX P w A env R) s2) (ErX P w A env R) s1) (ErX P w A env R) s)
    (n : Nat) (j0 : J n s) : codeAny (model P w) A (.compLoop (dcx kx vx ta ia ca tb ib cb sc ps) 0 it acc env) R s := by
  refine codeAny_loop rfl J (fun n z hJ => ?_) n j0
  show wpAny _ A (Sem.onRaise (compTurn (dcx kx vx ta ia ca tb ib cb sc ps) 0 it acc env) fun x => do noteFrame x env; theTreesLotGoes x) _ _ z
  apply wpAny_noted
  rw [dcx_outer]
  refine wpAny_bind (wpAny_standAt (wpAny_bind (wpAny_mono (step n z hJ) (fun r z1 k1 => ?_) fun _ _ q => q)))
  match r, k1 with
  | none, k1 => exact wpAny_pure k1
  | some u, k1 =>
    refine wpAny_bind (wpAny_mono k1 (fun _ z2 k2 => wpAny_bind (wpAny_mono k2 (fun _ z3 k3 => ?_) fun _ _ q => q)) fun _ _ q => q)
    refine wpAny_bind (wpAny_mono k3 (fun b z4 k4 => ?_) fun _ _ q => q)
    match b, k4 with
    | false, k4 => exact wpAny_pure ⟨rfl, k4⟩
    | true, k4 =>
      refine wpAny_bind (wpAny_mono k4 (fun y z5 k5 => wpAny_bind (wpAny_standAt ?_)) fun _ _ q => q)
      refine wpAny_bind (wpAny_of_eq (hs y) (wpAny_bind (wpAny_holding (wpAny_mono k5 (fun it1 z6 k6 => wpAny_bind (wpAny_runOwn ?_)) fun _ _ q => q))))
      rw [Around.mark_none]
      refine codeAny_mono k6 fun r z7 k7 => ?_
      match r, k7 with
      | .error e, k7 => exact k7.elim
      | .ok f, k7 => first | exact wpAny_pure ⟨rfl, k7⟩ | exact wpAny_bind (wpAny_pure (wpAny_pure ⟨rfl, k7⟩))
/-- one turn of the inner loop -/
theorem dcx_loopB {it : Value} {D : Addr} (J : Nat → Shared → Prop)
    (step : ∀ n s, J n s → wpAny (model P w) A (pyNext it) (fun r s1 => r.elim (R (.ok .next) s1) fun u => wpAny (model P w) A (letOwnedTupleGo tb it u) (fun _ s2 => wpAny (model P w) A (assign tb env u) (fun _ s3 => wpAny (model P w) A (testsOf cb env) (fun b s4 =>
        if b = true then wpAny (model P w) A (eval kx env) (fun k0 s5 => wpAny (model P w) A (eval vx env) (fun v0 s6 => wpAny (model P w) A (dictSet D k0 v0) (fun _ s7 => ∃ m, m < n ∧ J m s7) (ErX P w A env R) s6) (ErX P w A env R) s5) (ErX P w A env R) s4
        else ∃ m, m < n ∧ J m s4) (ErX P w A env R) s3) (ErX P w A env R) s2) (ErX P w A env R) s1) (ErX P w A env R) s)
    (n : Nat) (j0 : J n s) : codeAny (model P w) A (.compLoop (dcx kx vx ta ia ca tb ib cb sc ps) 1 it (.ref D) env) R s := by
  refine codeAny_loop rfl J (fun n z hJ => ?_) n j0
  show wpAny _ A (Sem.onRaise (compTurn (dcx kx vx ta ia ca tb ib cb sc ps) 1 it (.ref D) env) fun x => do noteFrame x env; theTreesLotGoes x) _ _ z
  apply wpAny_noted
  rw [dcx_inner]
  refine wpAny_bind (wpAny_standAt (wpAny_bind (wpAny_mono (step n z hJ) (fun r z1 k1 => ?_) fun _ _ q => q)))
  match r, k1 with
  | none, k1 => exact wpAny_pure k1
  | some u, k1 =>
    refine wpAny_bind (wpAny_mono k1 (fun _ z2 k2 => wpAny_bind (wpAny_mono k2 (fun _ z3 k3 => ?_) fun _ _ q => q)) fun _ _ q => q)
    refine wpAny_bind (wpAny_mono k3 (fun b z4 k4 => ?_) fun _ _ q => q)
    match b, k4 with
    | false, k4 => exact wpAny_pure ⟨rfl, k4⟩
    | true, k4 =>
      refine wpAny_bind (wpAny_bind (wpAny_mono k4 (fun k0 z5 k5 => ?_) fun _ _ q => q))
      refine wpAny_bind (wpAny_holding (wpAny_mono k5 (fun v0 z6 k6 => wpAny_bind (wpAny_standAt ?_)) fun _ _ q => q))
      exact wpAny_holding (wpAny_mono k6 (fun _ z7 k7 => wpAny_pure ⟨rfl, k7⟩) fun _ _ q => q)
/-- the inner loop is begun -/
theorem dcx_startB {it acc : Value} (l0 : codeAny (model P w) A (.compLoop (dcx kx vx ta ia ca tb ib cb sc ps) 1 it acc env) R s)
    (li : wpAny (model P w) A (pyIter it) (fun i2 s' => codeAny (model P w) A (.compLoop (dcx kx vx ta ia ca tb ib cb sc ps) 1 i2 acc env) R s') (ErX P w A env R) s) :
    codeAny (model P w) A (.compStart (dcx kx vx ta ia ca tb ib cb sc ps) 1 it acc env) R s := by
  apply codeAny_of_tree
  show wpAny _ _ (Sem.onRaise (compStart (dcx kx vx ta ia ca tb ib cb sc ps) 1 it acc env) fun x => do noteFrame x env; standAt theWindowsPlace) _ _ s
  apply wpAny_notedAt
  unfold compStart
  show wpAny _ A (ask >>= _) _ _ s
  apply wpAny_bind
  apply wpAny_askSetting
  apply wpAny_ite
  split
  · first | exact wpAny_pure ⟨rfl, l0⟩ | exact wpAny_bind (wpAny_pure (wpAny_pure ⟨rfl, l0⟩))
  · have go := wpAny_mono li (Q' := fun i2 s' => wpAny (model P w) A (pure i2) (fun _ _ => True) (fun _ _ => True) s' ∧ codeAny (model P w) A (.compLoop (dcx kx vx ta ia ca tb ib cb sc ps) 1 i2 acc env) R s') (fun i2 s' q => ⟨wpAny_pure trivial, q⟩) fun _ _ q => q
    refine wpAny_bind (wpAny_rule ?_)
    show wpAny _ _ (standAt ib.pos >>= _) _ _ s
    exact wpAny_bind (wpAny_standAt (wpAny_bind (wpAny_mono go (fun i2 s' q => wpAny_pure ⟨rfl, q.2⟩) fun _ _ q => q)))
end
section
variable {X : Cx}
/-- {k: v for a in u if .. for b in z if ..}: D the new dict; the inner walk reaches Nx; vb: the names of the inner target -/
def tDc2 (wa : TI) (ga : TG) (ca : TT) (wb : TI) (gb : TG) (cb : TT) (tk tv : TE) (vs vb : List Nat) : TE := fun σ H Q => wa σ H fun J H1 => ∀ D, H1 D = none → ∃ W : Nat → Nat → Hp → Prop, (∃ m, W 0 m (upd H1 D (.dK []))) ∧ ∀ i m H, W i m H →
  (J.stop i H ∧ Q (.ref D) H) ∨ (J.go i H ∧ ∃ Nx : Hp → Prop, (∀ H', Nx H' → ∃ m', m' < m ∧ W (i + 1) m' H') ∧ ∀ x H', J.yld i H x H' → ga x (wipe σ vs) H' fun σ2 H2 => wipe σ2 vs = wipe σ vs ∧ ca σ2 H2 fun b H3 =>
    if b = true then wb σ2 H3 fun J1 H4 => ∃ V : Nat → Nat → Hp → Prop, (∃ m, V 0 m H4) ∧ ∀ j k H, V j k H →
      (J1.stop j H ∧ Nx H) ∨ (J1.go j H ∧ ∃ Ny : Hp → Prop, (∀ H', Ny H' → ∃ k', k' < k ∧ V (j + 1) k' H') ∧ ∀ x H', J1.yld j H x H' → gb x (wipe σ2 vb) H' fun σ3 H5 => wipe σ3 vb = wipe σ2 vb ∧ cb σ3 H5 fun b H6 =>
        if b = true then tk σ3 H6 fun y H7 => tv σ3 H7 fun z H8 => ∃ kvs q, y = kV q ∧ H8 D = some (.dK kvs) ∧ kvs.length < sizeLine ∧ Ny (upd H8 D (.dK (putK kvs q z))) else Ny H6)
    else Nx H3)
abbrev BlkF (X : Cx) (sc : Scope) (F : Cx → Prop) : Prop := ∀ (s : Shared) (H : Hp) (C : Addr) (cl : List (Str × Addr)) (fp : List Addr), F (X.blk s H sc (compEnvC sc cl C X.env) fp)
theorem pe_dc2 {kx vx ta ia tb ib : Expr} {ca cb : List Expr} {sc : Scope} {own : List (Str × Nat)} {vb : List Nat} {ps : Pos} {wa wb : TI} {ga gb : TG} {qa qb : TT} {tk tv : TE} (hc : X.calm = true) (hN : X.N.Nodup) (ha : PI X ta ia wa) (ok : BlkOk X.N X.env.scope sc own) (hvb : ∀ i ∈ vb, i ∈ own.map (·.2))
    (hga : BlkF X sc fun Y => PG Y ta ga) (hqa : BlkF X sc fun Y => PTs Y ca qa) (hb : BlkF X sc fun Y => PI Y tb ib wb) (hgb : BlkF X sc fun Y => PG Y tb gb) (hqb : BlkF X sc fun Y => PTs Y cb qb) (hk : BlkF X sc fun Y => PE Y kx tk) (hv : BlkF X sc fun Y => PE Y vx tv)
    (fa : ∀ x, foldedSetIterable ia X.env x = pure x := by intro _; rfl) (fb : ∀ env x, foldedSetIterable ib env x = pure x := by intro _ _; rfl) :
    PE X (dcx kx vx ta ia ca tb ib cb sc ps) (tDc2 wa ga qa wb gb qb tk tv (own.map (·.2)) vb) := by
  refine ⟨fun pins s σ H Q I h => ?_⟩
  rw [arm_eval_DictComp]
  have fre : ∀ y ∈ sc.names, y.2 = .free → ∃ c, X.env.cells.lookup y.1 = some c := fun y hy e => (ok.free y hy e).elim (fun k => I.ok.has _ (.inl k)) (fun k => I.ok.has _ (.inr k))
  refine wpAny_comprehension_free rfl fa (closure_ok fre) ok.kind (fun y hy e => by rw [ok.uniq y hy, e]) (thn (ha.run pins s σ H _ I h) fun _ sa hx => thn hx fun _ sb hy => ?_)
  obtain ⟨it, fp, tn, J, Hb, rfl, Ib, T, stb, fpb, q⟩ := hy
  refine wpAny_newObj_type (newEnv_comp ?_)
  generalize eD : sb.heap.objs.size = D
  have nD : Hb D = none := Ib.hok.fresh (Nat.le_of_eq eD)
  obtain ⟨W, ⟨m0, w0⟩, turn⟩ := q D nD
  generalize ec : ({ sb with heap := sb.heap.push { cls := .type "dict", data := .dict #[] } } : Shared) = sc3
  have Ic : Inv X pins σ (upd Hb D (.dK [])) sc3 := by
    rw [← ec, ← eD]
    exact Ib.laid (t' := sb.toks) (fun b o e => Heap.get?_push_of_some _ e) (Nat.le_refl _) (dk_empty sb.heap Ib.big)
  have hc3 : sc3.heap = sb.heap.push { cls := .type "dict", data := .dict #[] } := by rw [← ec]
  have lt : ∀ b ∈ fp, b < sb.heap.objs.size := fun b hb => by
    obtain ⟨_, e, _⟩ := T.obj _ _ stb b hb
    exact Heap.lt_size e
  have fpc : ∀ b ∈ fp, FpOk X pins (upd Hb D (.dK [])) b ∧ b < sc3.heap.objs.size := fun b hb => by
    have l := lt b hb
    constructor
    · refine ⟨?_, (fpb b hb).2⟩
      rw [upd_ne (by rw [← eD]; exact Nat.ne_of_lt l)]
      exact (fpb b hb).1
    · rw [hc3, Heap.size_push]
      exact Nat.lt_succ_of_lt l
  have stc : tn 0 sc3.heap := T.keep _ _ _ stb fun b _ o e => by rw [hc3]; exact Heap.get?_push_of_some _ e
  have I4 := block_start Ic ok hN fpc
  generalize eH : upd Hb D (.dK []) = H3 at Ic I4 w0 fpc
  have nfp : ∀ b ∈ fp, H3 b = none := fun b hb => (fpc b hb).1.1
  show codeAny _ _ (.compStart (dcx kx vx ta ia ca tb ib cb sc ps) 0 (.ref it) (.ref D) (compEnvC sc (cellsFrom (sc3.heap.objs.size + 1) sc.names (cloFrom X.env.cells sc.names [])) sc3.heap.objs.size X.env)) (compPost (model X.prog X.w) X.A X.xe none (fun v s' => EP X pins σ Q v s') (.ref D) sc3.heap.objs.size) { sc3 with heap := pushCells (sc3.heap.push { cls := .type "dict", data := .dict #[] }) sc.names }
  have p1 := hga sc3 H3 sc3.heap.objs.size (cellsFrom (sc3.heap.objs.size + 1) sc.names (cloFrom X.env.cells sc.names [])) fp
  have p2 := hqa sc3 H3 sc3.heap.objs.size (cellsFrom (sc3.heap.objs.size + 1) sc.names (cloFrom X.env.cells sc.names [])) fp
  have p3 := hb sc3 H3 sc3.heap.objs.size (cellsFrom (sc3.heap.objs.size + 1) sc.names (cloFrom X.env.cells sc.names [])) fp
  have p4 := hgb sc3 H3 sc3.heap.objs.size (cellsFrom (sc3.heap.objs.size + 1) sc.names (cloFrom X.env.cells sc.names [])) fp
  have p5 := hqb sc3 H3 sc3.heap.objs.size (cellsFrom (sc3.heap.objs.size + 1) sc.names (cloFrom X.env.cells sc.names [])) fp
  have p6 := hk sc3 H3 sc3.heap.objs.size (cellsFrom (sc3.heap.objs.size + 1) sc.names (cloFrom X.env.cells sc.names [])) fp
  have p7 := hv sc3 H3 sc3.heap.objs.size (cellsFrom (sc3.heap.objs.size + 1) sc.names (cloFrom X.env.cells sc.names [])) fp
  generalize ecn : compEnvC sc (cellsFrom (sc3.heap.objs.size + 1) sc.names (cloFrom X.env.cells sc.names [])) sc3.heap.objs.size X.env = ce at I4 p1 p2 p3 p4 p5 p6 p7 ⊢
  have cl : ce.locals = sc3.heap.objs.size := by rw [← ecn]; rfl
  generalize es : ({ sc3 with heap := pushCells (sc3.heap.push { cls := .type "dict", data := .dict #[] }) sc.names } : Shared) = s4 at I4 ⊢
  have st4 : tn 0 s4.heap := T.keep _ _ _ stc fun b _ o e => by rw [← es]; exact pushCells_keeps _ _ _ _ (Heap.get?_push_of_some _ e)
  have fpo : ∀ {σ' : L2.St} {H' : Hp} {s' : Shared}, Inv (X.blk sc3 H3 sc ce fp) [] σ' H' s' → (∀ b ∈ fp, H' b = none) → ∀ b ∈ fp, FpOk (X.blk sc3 H3 sc ce fp) [] H' b := fun Iz nz b hb => by
    have z := Iz.ok.exf b hb
    exact ⟨nz b hb, z.1, Iz.ok.exfs b hb, .inl hb, z.2, fun p hp => nomatch (show p ∈ ([] : List (Addr × Obj)) from hp)⟩
  -- what the outer loop keeps from turn to turn
  generalize eK : (fun (n : Nat) (s' : Shared) => ∃ i H', Inv (X.blk sc3 H3 sc ce fp) [] (wipe σ (own.map (·.2))) H' s' ∧ tn i s'.heap ∧ (∀ b ∈ fp, H' b = none) ∧ W i n H') = K
  have kin : ∀ {n i : Nat} {H' : Hp} {s' : Shared}, Inv (X.blk sc3 H3 sc ce fp) [] (wipe σ (own.map (·.2))) H' s' → tn i s'.heap → (∀ b ∈ fp, H' b = none) → W i n H' → K n s' := fun a b c d => by
    rw [← eK]
    exact ⟨_, _, a, b, c, d⟩
  have kout : ∀ {n : Nat} {s' : Shared}, K n s' → ∃ i H', Inv (X.blk sc3 H3 sc ce fp) [] (wipe σ (own.map (·.2))) H' s' ∧ tn i s'.heap ∧ (∀ b ∈ fp, H' b = none) ∧ W i n H' := fun k => by
    rw [← eK] at k
    exact k
  clear eK
  have loop : codeAny (model X.prog X.w) X.A (.compLoop (dcx kx vx ta ia ca tb ib cb sc ps) 0 (.ref it) (.ref D) ce) (compPost (model X.prog X.w) X.A X.xe none (fun v s' => EP X pins σ Q v s') (.ref D) sc3.heap.objs.size) s4 := by
    refine dcx_loopA (fb ce) K (fun n s5 kn => ?_) m0 (kin I4 st4 nfp w0)
    obtain ⟨i, H5, I5, st5, n5, w5⟩ := kout kn
    rcases turn i n H5 w5 with ⟨stop, fin⟩ | ⟨go, Nx, hNx, step⟩
    · refine thnF (T.done (X.blk sc3 H3 sc ce fp) rfl rfl rfl hc i [] s5 _ H5 (fun _ _ => False) I5 (fpo I5 n5) st5 stop) fun r s6 ⟨er, I6⟩ => ?_
      subst er
      have I7 : Inv X pins σ H5 s6 := Ic.call' (ch := fp) I6.os I6.base I6.hok I6.bare fun b hb => by
        obtain ⟨⟨_, z1, z2, z3, z4⟩, z5⟩ := fpc b hb
        first | exact ⟨z3, z1, z4.1, z4.2⟩ | exact ⟨z3, z1, z4⟩
      have nC : H5 sc3.heap.objs.size = none := cl ▸ I6.free
      obtain ⟨m, hns, _⟩ := I6.loc
      have hns : s6.heap.Ns sc3.heap.objs.size m := cl ▸ hns
      obtain ⟨f0, f1, f2, f3, f4, f5⟩ := Ic.fpOk (Nat.le_refl _) nC
      exact ⟨m, hns, fun h'' sb' => ⟨.ref D, H5, I7.turned (t' := s6.toks) (fun b o hb e => (sb'.2 b hb).trans e) f0 f1 f3 f4 f5, rfl, fin⟩⟩
    · refine thnF (T.item (X.blk sc3 H3 sc ce fp) rfl rfl rfl hc i [] s5 _ H5 (fun _ _ => False) I5 (fpo I5 n5) st5 go) fun r s6 ⟨u, er, h6⟩ => ?_
      subst er
      refine thnF h6 fun _ s7 ⟨x, H7, I7, r7, y7, st7, n7⟩ => ?_
      refine thnF (p1.run _ s7 _ H7 x u _ (I7.pinned (fpo I7 n7) (T.obj _ _ st7)) r7 (step x H7 y7)) fun _ s8 ⟨σ8, H8, I8, e8, q8⟩ => ?_
      refine thnF (p2.run _ s8 σ8 H8 _ I8 q8) fun b s9 ⟨H9, I9, q9⟩ => ?_
      -- from any slots that still know what the block knew
      have again : ∀ {τ : L2.St} {s' : Shared} {H' : Hp}, Inv (X.blk sc3 H3 sc ce fp) ([] ++ pinsAt fp s7.heap) τ H' s' → τ.length = (wipe σ (own.map (·.2))).length → (∀ (j : Nat) v, (wipe σ (own.map (·.2)))[j]? = some (some v) → τ[j]? = some (some v)) → Nx H' → ∃ m, m < n ∧ K m s' := fun {τ s' H'} Iz hl hk nx => by
        obtain ⟨m', lm, wm⟩ := hNx H' nx
        have held : ∀ b ∈ fp, ∀ o, s7.heap.get? b = some o → s'.heap.get? b = some o ∧ H' b = none := fun b hb o e => by
          have z := Iz.pin (b, o) (List.mem_append_right _ (List.mem_append_right _ (mem_pinsAt hb e)))
          exact ⟨z.1, z.2.1⟩
        refine ⟨m', lm, kin ((Iz.unpinned (pins := [])).weak hl.symm hk) (T.keep _ _ _ st7 fun b hb o e => (held b hb o e).1) (fun b hb => ?_) wm⟩
        obtain ⟨o, e, _⟩ := T.obj _ _ st7 b hb
        exact (held b hb o e).2
      have l8 : σ8.length = (wipe σ (own.map (·.2))).length := by rw [← e8, wipe_length]
      have k8 : ∀ (j : Nat) v, (wipe σ (own.map (·.2)))[j]? = some (some v) → σ8[j]? = some (some v) ∧ j ∉ own.map (·.2) := fun j v e => wipe_some (by rw [e8]; exact e)
      cases b with
      | false => exact again I9 l8 (fun j v e => (k8 j v e).1) q9
      | true =>
        refine thnF (p3.run _ s9 σ8 H9 _ I9 q9) fun _ sA hx => thnF hx fun _ sB hy => ?_
        obtain ⟨jt, gp, un, J1, HB, rfl, IB, U, suB, gpB, V, ⟨v0, hv0⟩, turnB⟩ := hy
        have gpo : ∀ {H' : Hp}, (∀ b ∈ gp, H' b = none) → ∀ b ∈ gp, FpOk (X.blk sc3 H3 sc ce fp) ([] ++ pinsAt fp s7.heap) H' b := fun nz b hb => ⟨nz b hb, (gpB b hb).2⟩
        have inner : codeAny (model X.prog X.w) X.A (.compLoop (dcx kx vx ta ia ca tb ib cb sc ps) 1 (.ref jt) (.ref D) ce) (fun r s' => match r with | .ok _ => ∃ m, m < n ∧ K m s' | .error _ => False) sB := by
          refine dcx_loopB (fun k s' => ∃ j H', Inv (X.blk sc3 H3 sc ce fp) ([] ++ pinsAt fp s7.heap) (wipe σ8 vb) H' s' ∧ un j s'.heap ∧ (∀ b ∈ gp, H' b = none) ∧ V j k H') (fun k sC => ?_) v0 ⟨0, HB, IB.weak (wipe_length _ _) (fun j v e => (wipe_some e).1), suB, fun b hb => (gpB b hb).1, hv0⟩
          rintro ⟨j, HC, IC, suC, nC, vC⟩
          rcases turnB j k HC vC with ⟨stopB, nx⟩ | ⟨goB, Ny, hNy, stepB⟩
          · refine thnF (U.done (X.blk sc3 H3 sc ce fp) rfl rfl rfl hc j _ sC (wipe σ8 vb) HC (fun _ _ => False) IC (gpo nC) suC stopB) fun r sE ⟨er, IE⟩ => ?_
            subst er
            refine again IE ((wipe_length σ8 vb).trans l8) (fun i v e => ?_) nx
            obtain ⟨z1, z2⟩ := k8 i v e
            rw [wipe_out fun z => z2 (hvb i z)]
            exact z1
          · refine thnF (U.item (X.blk sc3 H3 sc ce fp) rfl rfl rfl hc j _ sC (wipe σ8 vb) HC (fun _ _ => False) IC (gpo nC) suC goB) fun r sE ⟨uE, er, hE⟩ => ?_
            subst er
            refine thnF hE fun _ sF ⟨xF, HF, IF, rF, yF, suF, nF⟩ => ?_
            refine thnF (p4.run _ sF (wipe σ8 vb) HF xF uE _ (IF.pinned (gpo nF) (U.obj _ _ suF)) rF (stepB xF HF yF)) fun _ sG ⟨σG, HG, IG, eG, qG⟩ => ?_
            refine thnF (p5.run _ sG σG HG _ IG qG) fun bG sI ⟨HI, II, qI⟩ => ?_
            have more : ∀ {s' : Shared} {H' : Hp}, Inv (X.blk sc3 H3 sc ce fp) (([] ++ pinsAt fp s7.heap) ++ pinsAt gp sF.heap) σG H' s' → Ny H' → ∃ m, m < k ∧ ∃ j H', Inv (X.blk sc3 H3 sc ce fp) ([] ++ pinsAt fp s7.heap) (wipe σ8 vb) H' s' ∧ un j s'.heap ∧ (∀ b ∈ gp, H' b = none) ∧ V j m H' := fun {s' H'} Iz ny => by
              obtain ⟨m', lm, vm⟩ := hNy H' ny
              have held : ∀ b ∈ gp, ∀ o, sF.heap.get? b = some o → s'.heap.get? b = some o ∧ H' b = none := fun b hb o e => by
                have z := Iz.pin (b, o) (List.mem_append_right _ (List.mem_append_right _ (mem_pinsAt hb e)))
                exact ⟨z.1, z.2.1⟩
              refine ⟨m', lm, j + 1, H', Iz.unpinned.weak (by rw [← eG, wipe_length]) (fun i v e => (wipe_some (by rw [eG]; exact e)).1), U.keep _ _ _ suF fun b hb o e => (held b hb o e).1, fun b hb => ?_, vm⟩
              obtain ⟨o, e, _⟩ := U.obj _ _ suF b hb
              exact (held b hb o e).2
            cases bG with
            | false => exact more II qI
            | true =>
              refine thnF (p6.run _ sI σG HI _ II qI) fun z sK ⟨yK, HK, IK, rK, qK⟩ => ?_
              refine thnF (p7.run _ sK σG HK _ IK qK) fun z2 sL ⟨yL, HL, IL, rL, kvs, k1, ek, hD, hz, ny⟩ => ?_
              subst ek
              exact d_dictSet (X := X.blk sc3 H3 sc ce fp) IL hD hz rK rL fun sM IM => more IM ny
        exact dcx_startB inner (U.self X.A 0 _ _ _ suB inner)
  exact codeAny_compStart_dict loop (T.self X.A 0 _ _ _ st4 loop)
end
end D

namespace D
open PySem PySem.Spec PyProof.Rows L2
/-! ### a new thing that is never written again -/
def tFrz (t : TE) : TE := fun σ H Q => t σ H fun v H1 => ∃ d u, v = .ref d ∧ H1 d = some u ∧ Mut (some u) ∧ ∀ od, Q v (upd H1 d (.frz od u))
theorem pe_frz {X : Cx} {e : Expr} {t : TE} (h : PE X e t) : PE X e (tFrz t) := ⟨fun pins s σ H Q I q => thn (h.run pins s σ H _ I q) fun u s1 ⟨v, H1, I1, r, d, w, ev, hd, mu, q1⟩ => by
  obtain ⟨od, I2⟩ := I1.lock hd mu
  exact ⟨v, _, I2, r, q1 od⟩⟩
/-! ### a dict comprehension given to a name, keys whole numbers or texts -/
def PutK (D : Addr) (N : Hp → Prop) (y z : V) (G : Hp) : Prop := ∃ kvs k, y = kV k ∧ G D = some (.dK kvs) ∧ kvs.length < sizeLine ∧ N (upd G D (.dK (putK kvs k z)))
theorem stores_K {X : Cx} : Stores X PutK := by
  rintro B pins σ G t D N y z u r Q E e1 e2 e3 e4 I ⟨kvs, k, rfl, dict, room, nx⟩ ry rz h
  exact d_dictSet (X := B) I dict room ry rz fun t' I' => h t' _ I' nx
abbrev tDcK (walk : TI) (g : TG) (tt : TT) (tk tv : TE) (own : List Nat) : TE := tDcG (fun _ => .dK []) PutK walk g tt tk tv own
theorem ps_setDcK {X : Cx} {i : Nat} {y : Str} {py : Pos} {kx vx tgt it : Expr} {ifs : List Expr} {sc : Scope} {own : List (Str × Nat)} {pos spos : Pos} {walk : TI} {g : TG} {tt : TT} {tk tv : TE} (calm : X.calm = true) (nod : X.N.Nodup) (hy : X.N[i]? = some y) (hyl : X.env.scope.names.lookup y = some .local)
    (hsw : swapsWith (.DictComp kx vx [⟨tgt, it, ifs, 0⟩] sc pos) (some (.Name y py)) spos.line X.env = pure true)
    (pi : PI X tgt it walk) (bo : BlkOk X.N X.env.scope sc own) (pg : InBlk X sc fun B => PG B tgt g) (pt : InBlk X sc fun B => PTs B ifs tt) (pk : InBlk X sc fun B => PE B kx tk) (pv : InBlk X sc fun B => PE B vx tv)
    (plain : ∀ x, foldedSetIterable it X.env x = pure x := by intro _; rfl) :
    PS X (.Assign [.Name y py] (.DictComp kx vx [⟨tgt, it, ifs, 0⟩] sc pos) spos) (tAsg (tDcK walk g tt tk tv (own.map (·.2))) (gName i)) :=
  ps_setDcG (fun H h b => dk_empty h b) stores_K calm nod hy hyl hsw pi bo pg pt pk pv plain
/-! ### set(l), l empty -/
section
variable {X : Cx}
def rSetE (K : PySem.W.Frag) (P : Program) (w : World) : List V → Hp → VK → Prop := fun xs H Q => ∃ p, xs = [.ref p] ∧ SqL K H p [] ∧ ∀ q, H q = none → Q (.ref q) (upd H q (SetK P w q (fun _ => false) 0))
theorem call_setE (hc : X.calm = true) : CallR X (.type "set") (rSetE X.K X.prog X.w) := by
  intro pins s σ H xs us Q I r h
  obtain ⟨p, rfl, hq, q⟩ := h
  obtain ⟨u, rfl, ru⟩ := vals1 r
  cases ru
  obtain ⟨its, rv, pl, hz⟩ := I.list hq
  cases rv
  refine SS.call_set_listS (xs := []) (I.ok.hd hc) pl.isList (by exact .nil) (Nat.zero_le _) fun h' tk hS hk => ?_
  obtain ⟨o, es, ep, t, ho, hx, hd, hel, hmem, hsz, hf, hn⟩ := hS
  have e0 : es = #[] := Array.eq_empty_of_size_eq_zero (by simpa using hn)
  subst e0
  exact ⟨.ref _, upd H s.heap.objs.size (SetK X.prog X.w s.heap.objs.size (fun _ => false) 0), I.laid (t' := tk) (fun b u e => hk b u (Heap.lt_size e) e) (Nat.le_refl _) (setK_new ⟨o, #[], ep, t, ho, hx, hd, (fun e he => by simp at he), (fun k => by simp), by decide, hf, rfl⟩), rfl, q _ (I.hok.fresh (Nat.le_refl _))⟩
end
/-! ### iter(d), d a dict that is not written -/
def ItDk (d : Addr) (o : Obj) (n i : Nat) (it : Addr) : HO := .ext fun h => ∃ es ep, o.data = .dict es ep ∧ h.IsKeyIter it d i n ep
theorem itDk_ok {P : Program} {w : World} {H : Hp} {h : Heap} {d it : Addr} {o : Obj} {n i : Nat} {es : Array DictEntry} {ep : Nat} (hod : o.data = .dict es ep) (e : h.IsKeyIter it d i n ep) : ObjOk P w H h it (ItDk d o n i it) := by
  have ⟨oi, ho, _⟩ := e
  refine ⟨⟨es, ep, hod, e⟩, ⟨oi, ho⟩, fun h1 h2 q k => ?_⟩
  obtain ⟨es1, ep1, h3, h4⟩ := q
  exact ⟨es1, ep1, h3, h4.at fun x hx => k x hx⟩
section
variable {X : Cx}
def rIterD (n : Nat) : List V → Hp → VK → Prop := fun xs H Q => ∃ d o kvs, xs = [.ref d] ∧ H d = some (.frz o (.dK kvs)) ∧ ∀ it, H it = none → n ≤ it → Q (.ref it) (upd H it (ItDk d o kvs.length 0 it))
theorem call_iterD : CallR X (.builtin "iter") (rIterD X.s_0.heap.objs.size) := by
  intro pins s σ H xs us Q I r h
  obtain ⟨d, o, kvs, rfl, hd, q⟩ := h
  obtain ⟨u, rfl, ru⟩ := vals1 r
  cases ru
  obtain ⟨hs, hgd, hx, es, ep, vs, hdt, hsz, kv, hm⟩ := I.frzK hd
  refine Calls.call_function_entry (by decide +kernel) (by decide +kernel) PySem.W.kdk_entry_iter (PySem.W.kdk_args_iter _) ?_
  unfold Builtin.«iter»
  refine wpAny_bind (m := someArgs "iter" 1 2 _) (wpAny_of_eq (a := [Value.ref d]) (by first | rfl | kernel_rfl!) ?_)
  show wpAny _ _ (pyIter (.ref d) >>= _) _ _ _
  refine wpAny_bind (iter_keys hs hgd hx hdt (wpAny_pure ⟨_, rfl, ?_⟩))
  refine ⟨.ref s.heap.objs.size, _, I.laid (t' := s.toks) (fun b u e => Heap.get?_push_of_some _ e) (Nat.le_refl _) (itDk_ok (n := kvs.length) (i := 0) hdt ⟨_, Heap.get?_push_size _ rfl, rfl, by rw [hsz] <;> rfl⟩), rfl, q _ (I.hok.fresh (Nat.le_refl _)) I.sz⟩
end
/-! ### defs that know how many places were given when they were called -/
section
variable {P : Program} {w : World} {K : PySem.W.Frag} {mg : Str → Option Value} {base : Heap} {CX : CXT} {k : Nat} {f : Addr} {fd : FuncData} {ps : List Str}
structure FnW (P : Program) (w : World) (K : PySem.W.Frag) (mg : Str → Option Value) (base : Heap) (CX : CXT) (k : Nat) (f : Addr) (fd : FuncData) (ps : List Str) (sp : Nat → Sp) : Prop where
  ln : ∀ n vs H Q E, sp n vs H Q E → vs.length = ps.length
  go : ∀ (n : Nat) (A : Around) (fr : List Env) (s : Shared) (H : Hp) (args : Args) (us : List Value) (vs : List V) (Q : VK) (E : XK), n ≤ s.heap.objs.size → Room k A → Env0 P w K mg base A fr s H → BindsTo s fd args (ps.zip us) → Vals vs us → sp n vs H Q E → codeAny (model P w) A (.call (.ref f) args) (CR CX fr P w H s Q E) s
/-- a def's body, run from one state -/
theorem body_run {name qual : Str} {pr : Arguments} {body : List Stmt} {sc : Scope} {dV kV doc pm c ct oc : Value} {an od : Option Addr} {osl : Array (Option Value)} {N : List Str} {A : Around} {fr : List Env} {s : Shared} {H : Hp} {args : Args} {us : List Value} {vs : List V} {Q : VK} {E : XK}
    (lk : K.lookup f = some ⟨oc, od, .func (PySem.W.fnOf name qual pr body sc dV kV doc pm an c ct), osl⟩) (hc : PySem.W.codeIn K c qual = true) (S : FnScope N ps sc) (n1 : vs.length = ps.length) (hr : Room (k + 1) A) (e0 : Env0 P w K mg base A fr s H) (bd : BindsTo s (PySem.W.fnOf name qual pr body sc dV kV doc pm an c ct) args (ps.zip us)) (rv : Vals vs us)
    (hb : ∃ t, PSs (cxOf CX P w K mg base N qual sc f c A fr s H E) body t ∧ t { nx := fun _ H' => Q .non H', rt := Q } (start N vs) H) : codeAny (model P w) A (.call (.ref f) args) (CR CX fr P w H s Q E) s := by
  have kin : K.In s.heap := e0.mod.kin.keeps fun x o e => (e0.bs x o e).1
  have nl : s.heap.NoLimit := e0.mod.nolimit.keeps fun x o e => (e0.bs x o e).1
  have kd : ∀ y ∈ ps.zip us, sc.names.lookup y.1 = some .local ∨ (sc.names.lookup y.1 = some .cell ∧ ((cellsFrom (s.heap.objs.size + 1) sc.names []).lookup y.1).isSome = true) := by
    rintro ⟨m, v⟩ hy
    exact (S.par m (List.of_mem_zip hy).1).imp id fun z => ⟨z, PySem.W.cellsFrom_some _ _ _ (.inl z)⟩
  refine codeAny_call_function hr.depth (kin _ _ lk) rfl S.co S.gen rfl (PySem.W.codeRec_of kin hc) (bd _ _ _ _ (wpAny_newFunctionEnv_cells S.kind kd fun ev he s1 x => ?_))
  cases he
  refine ⟨nl.keeps x.toInCall.keep, codeAny_func ?_⟩
  obtain ⟨t, ht, hq⟩ := hb
  refine wpAny_mono (ht.run [] s1 (start N vs) H _ (inv_start S hr.hd e0 n1 rv x) hq) (fun fl s' z => ?_) fun e s' z => z
  cases fl with
  | ret u =>
    obtain ⟨v, σ', H', J, r, q⟩ := z
    exact ⟨v, H', J.os, J.bare, J.base, J.hok, r, q⟩
  | next =>
    obtain ⟨σ', H', J, q⟩ := z
    exact ⟨V.non, H', J.os, J.bare, J.base, J.hok, rfl, q⟩
  | brk =>
    obtain ⟨_, _, _, z⟩ := z
    exact False.elim z
  | cont =>
    obtain ⟨_, _, _, z⟩ := z
    exact False.elim z
theorem Fun.okW {x qual : Str} {st : Stmt} {N : List Str} {sp : Nat → Sp} (F : Fun K x qual st f fd) (S : FnScope N ps (defScope st)) (ln : ∀ n vs H Q E, sp n vs H Q E → vs.length = ps.length)
    (hb : ∀ (n : Nat) (c : Value) (A : Around) (fr : List Env) (s : Shared) (H : Hp) (vs : List V) (Q : VK) (E : XK), n ≤ s.heap.objs.size → Room k (A.deeper (envOfC qual (defScope st) s.heap.objs.size f c)) → sp n vs H Q E →
      ∃ t, PSs (cxOf CX0 P w K mg base N qual (defScope st) f c A fr s H E).nox (defBody st) t ∧ t { nx := fun _ H' => Q .non H', rt := Q } (start N vs) H) : FnW P w K mg base CX0 (k + 1) f fd ps sp := by
  obtain ⟨oc, od, kV, doc, pm, an, c, ct, osl, rfl, lk, hc⟩ := F.ex
  refine ⟨ln, fun n A fr s H args us vs Q E hn hr e0 bd rv hs => body_run lk hc S (ln _ _ _ _ _ hs) hr e0 bd rv ?_⟩
  obtain ⟨t, h, q⟩ := hb n c A fr s H vs Q E hn (hr.deeper _) hs
  exact ⟨t, h.nox, q⟩
end
/-! ### a walk over an instance whose __iter__ hands an iterator over a dict out -/
section
variable {X : Cx} {CI : CXT} {C fi : Addr} {fdI : FuncData} {psI : List Str} {spI : Nat → Sp} {EI : XK} {n : Nat} {tg e : Expr} {te : TE}
def iOwnD (te : TE) (C : Addr) (sp : Nat → Sp) (E : XK) : TI := fun σ H R => te σ H fun x H1 => ∃ a dx fs, x = .ref a ∧ H1 a = some (.ins C dx fs) ∧
  ∀ m, sp m [.ref a] H1 (fun v H' => ∃ it d o kvs, v = .ref it ∧ H' it = some (ItDk d o kvs.length 0 it) ∧ m ≤ it ∧ R (Itk d o kvs) (ItX.dropH H' it)) E
theorem pi_ownD (hc : ItK X.K C fi) (FI : FnW X.prog X.w X.K X.mg X.base CI n fi fdI psI spI) (bI : Binds X.K fdI psI []) (hr : Room n X.A) (xI : Passes CI X EI) (he : PE X e te) : PI X tg e (iOwnD te C spI EI) := by
  refine ⟨fun pins s0 σ H0 R I0 h0 => thn (he.run pins s0 σ H0 _ I0 h0) fun u s ⟨x, H, I, rx, a, dx, fs, ex, ha, hsp⟩ => ?_⟩
  subst ex
  cases rx
  obtain ⟨mA, J, _⟩ := ins_get I.hok ha
  obtain ⟨od, J, _⟩ := J.look
  obtain ⟨m0, hF⟩ := I.fr
  refine PySem.W.owit_iter hF I.ok.mod.kin J hc.it hc.itF ?_
  have e0 : Env0 X.prog X.w X.K X.mg X.base X.A X.stack s H := I.env0
  have hm := hsp s.heap.objs.size
  have hl := FI.ln _ _ _ _ _ hm
  have r2 : Vals [V.ref a] [Value.ref a] := .cons rfl .nil
  refine wpAny_call (codeAny_mono (FI.go _ X.A X.stack s H ⟨[.ref a], []⟩ [.ref a] [.ref a] _ EI (Nat.le_refl _) hr e0 (by
    have := bI s [.ref a] I.kIn (by simpa using hl)
    simpa using this) r2 hm) fun r s' hq' => ?_)
  cases r with
  | error e => exact xI pins σ H s e s' I hq'
  | ok fl =>
    cases fl with
    | next => exact False.elim hq'
    | brk => exact False.elim hq'
    | cont => exact False.elim hq'
    | ret u =>
      obtain ⟨v, H', I', rv, it, d, o, kvs, ev, hit, hn, hR⟩ := I.after hq'
      subst ev
      cases rv
      obtain ⟨es, ep, hod, hk⟩ := (I'.hok it _ hit).1
      unfold PySem.W.OwitIt
      refine wpAny_specialOf (hk.typeIs (s := s')) PySem.F.slot_dict_keyiterator_next.lookup ?_
      have hit' := hit
      unfold ItDk at hit'
      refine ⟨it, [it], _, Itk d o kvs, _, rfl, ItX.inv_drop I' hit', turn_keys it hod, hk, fun b hb => ?_, hR⟩
      have eb : b = it := by simpa using hb
      rw [eb]
      exact ItX.inv_fp I' hit (Nat.le_trans I.sz hn)
end
section
variable {X : Cx} {pins : List (Addr × Obj)} {σ : L2.St} {H : Hp} {s : Shared}
theorem itk_loop {A1 : Around} {it d q : Addr} {o : Obj} {kvs : List (Key × V)} {H0 : Hp} {Rs : Result → Shared → Prop} (hh : A1.handled = none) (nqi : q ≠ it) (hn : X.s_0.heap.objs.size ≤ it) (hl : kvs.length ≤ 1000)
    (hdone : ∀ H s, Inv X pins σ H s → (∀ b, b ≠ it → b ≠ q → H b = H0 b) → H q = some (.lst (kvs.map fun kv => kV kv.1)) → H it = none → Rs (.ok (.ret .none)) s) :
    ∀ (k i : Nat) (H : Hp) (s : Shared), kvs.length - i = k → i ≤ kvs.length → Inv X pins σ H s → (∀ b, b ≠ it → b ≠ q → H b = H0 b) → H d = some (.frz o (.dK kvs)) → H q = some (.lst ((kvs.take i).map fun kv => kV kv.1)) → H it = some (ItDk d o kvs.length i it) →
      codeAny (model X.prog X.w) A1 (.builtin "list.extend.loop" ⟨[.ref q, .ref it, .none], []⟩) Rs s := by
  intro k
  induction k with
  | zero =>
    intro i H s hk hi I hH hdi hq hit
    have ei : i = kvs.length := by omega
    subst ei
    obtain ⟨hs, hgd, hx, es', ep', vs, hdt, hsz, kv, hm⟩ := I.frzK hdi
    obtain ⟨es, ep, hod, hk⟩ := (I.hok it _ hit).1
    obtain ⟨rfl, rfl⟩ := dict_ep hod hdt
    refine codeAny_builtin PySem.F.entry_extend_loop ?_
    rw [Around.under_plainId PySem.F.plain_extend_loop _]
    show wpAny _ A1.in1 (pyNext (.ref it) >>= _) _ _ s
    have hit' := hit
    unfold ItDk at hit'
    obtain ⟨f0, f1, f2, f3, f4, f5⟩ := ItX.inv_fp I hit hn
    have I1 := ItX.inv_drop I hit'
    refine wpAny_bind (next_key_end hh hk hgd hdt hsz (Nat.le_refl _) fun h' eb => ?_)
    have I' : Inv X pins σ (ItX.dropH H it) { s with heap := h' } := I1.turned (t' := s.toks) (fun b o hb e => eb b o hb e) f0 f1 f3 f4 f5
    refine wpAny_pure (hdone _ _ I' (fun b h1 h2 => by rw [ItX.dropH_ne h1]; exact hH b h1 h2) ?_ ItX.dropH_same)
    rw [ItX.dropH_ne nqi, hq, List.take_length]
  | succ k ih =>
    intro i H s hk hi I hH hdi hq hit
    have hlt : i < kvs.length := by omega
    obtain ⟨hs, hgd, hx, es', ep', vs, hdt, hsz, kv, hm⟩ := I.frzK hdi
    obtain ⟨es, ep, hod, hki⟩ := (I.hok it _ hit).1
    obtain ⟨rfl, rfl⟩ := dict_ep hod hdt
    obtain ⟨⟨y, v⟩, hkv⟩ : ∃ p, kvs[i]? = some p := ⟨kvs[i], List.getElem?_eq_getElem hlt⟩
    obtain ⟨u, hu, ru⟩ := kv_get kv hkv
    have hlv : kvs.length = vs.length := Paired.length kv
    have nd : it ≠ d := fun z => by rw [z, hdi] at hit; cases hit
    have nq : q ≠ d := fun z => by rw [z, hdi] at hq; cases hq
    refine codeAny_builtin PySem.F.entry_extend_loop ?_
    rw [Around.under_plainId PySem.F.plain_extend_loop _]
    show wpAny _ A1.in1 (pyNext (.ref it) >>= _) _ _ s
    rw [hlv] at hki
    refine wpAny_bind (wpAny_pyNext_dict_item hki hm hu fun key h' hkey st' sb => ?_)
    have mu : Mut (H it) := by rw [hit]; exact True.intro
    have st2 := st'
    rw [← hlv] at st2
    have ⟨oi, hoi, _⟩ := st'
    have I' := I.write (x := it) (e := it) (t' := s.toks) (o := ItDk d o kvs.length (i + 1) it) (h' := h') mu (.inl rfl) (fun b o nb z => (sb.2 b nb).trans z) ⟨_, hoi⟩ (itDk_ok hod st2)
    have hq' : upd H it (ItDk d o kvs.length (i + 1) it) q = some (.lst ((kvs.take i).map fun kv => kV kv.1)) := by rw [upd_ne nqi]; exact hq
    show wpAny _ A1.in1 (updateSeq q (·.push key) >>= _) _ _ _
    obtain ⟨z, its2, c, r2, hl2, e⟩ := I'.lstM hq'
    have l2 : its2.length = i := by rw [← r2.length, List.length_map, List.length_take]; omega
    refine wpAny_bind (wpAny_updateSeq e rfl (wpAny_pure ⟨plainId_quiet PySem.F.plain_extend_loop _, ?_⟩) (by rw [List.size_toArray, l2, sizeLine_eq]; omega) (by show (its2.toArray.push key).size ≤ sizeLine + 1; rw [Array.size_push, List.size_toArray, l2, sizeLine_eq]; omega))
    refine ih (i + 1) _ _ (by omega) hlt (I'.lset (its' := its2 ++ [key]) (ys := (kvs.take (i + 1)).map fun kv => kV kv.1) (t' := s.toks) hq' e (by simp) ?_ (by rw [List.length_map, List.length_take, sizeLine_eq]; omega)) (fun b h1 h2 => ?_) ?_ upd_same ?_
    · rw [List.take_add_one, hkv, List.map_append]
      exact r2.append (.cons (relV_key (show keyIs y key = true from hkey)) .nil)
    · rw [upd_ne h2, upd_ne h1]
      exact hH b h1 h2
    · rw [upd_ne (Ne.symm nq), upd_ne (Ne.symm nd)]
      exact hdi
    · rw [upd_ne (Ne.symm nqi), upd_same]
/-- list(o): __iter__ hands an iterator over a dict out -/
def rListDk (C : Addr) (sp : Nat → Sp) (E : XK) : List V → Hp → VK → Prop := fun xs H Q => ∃ a dx fs, xs = [.ref a] ∧ H a = some (.ins C dx fs) ∧
  ∀ m q, H q = none → sp m [.ref a] (upd H q (.lst [])) (fun v H' => ∃ it d o kvs, v = .ref it ∧ H' it = some (ItDk d o kvs.length 0 it) ∧ m ≤ it ∧ H' d = some (.frz o (.dK kvs)) ∧ H' q = some (.lst []) ∧ H' a = some (.ins C dx fs) ∧ kvs.length ≤ 1000 ∧
    Q (.ref q) (upd (ItX.dropH H' it) q (.lst (kvs.map fun kv => kV kv.1)))) E
variable {CI : CXT} {C fi : Addr} {fdI : FuncData} {psI : List Str} {spI : Nat → Sp} {EI : XK} {n : Nat}
theorem extend_dk {a dx q : Addr} {fs : List (Str × V)} {Hq : Hp} {Q : VK} (sb : Sub X n X.A.in1.in1) (hA : X.A.in1.handled = none) (hc : ItK X.K C fi) (FI : FnW X.prog X.w X.K X.mg X.base CI n fi fdI psI spI) (bI : Binds X.K fdI psI []) (xI : Passes CI X EI) (I2 : Inv X pins σ Hq s) (hqq : Hq q = some (.lst [])) (ha2 : Hq a = some (.ins C dx fs))
    (hsp : ∀ m, spI m [.ref a] Hq (fun v H' => ∃ it d o kvs, v = .ref it ∧ H' it = some (ItDk d o kvs.length 0 it) ∧ m ≤ it ∧ H' d = some (.frz o (.dK kvs)) ∧ H' q = some (.lst []) ∧ H' a = some (.ins C dx fs) ∧ kvs.length ≤ 1000 ∧
      Q (.ref q) (upd (ItX.dropH H' it) q (.lst (kvs.map fun kv => kV kv.1)))) EI) :
    wpAny (model X.prog X.w) X.A.in1.in1 (Builtin.List.listExtendWith (.ref q) (.ref a) .none)
      (fun fin s' => match fin with | .done f => wants (fun r s₂ => r = .none ∧ EP X pins σ Q (.ref q) s₂) X.xe (.ok f) s' | .again c' => c'.quiet = true ∧ codeAny (model X.prog X.w) X.A.in1 c' (wants (fun r s₂ => r = .none ∧ EP X pins σ Q (.ref q) s₂) X.xe) s') (fun e s' => wants (fun r s₂ => r = .none ∧ EP X pins σ Q (.ref q) s₂) X.xe (.error e) s') s := by
  have hne : q ≠ a := ne_of hqq ha2 (fun z => nomatch z)
  obtain ⟨mA, J, _⟩ := ins_get I2.hok ha2
  obtain ⟨od, J, _⟩ := J.look
  obtain ⟨m0, hF⟩ := I2.fr
  unfold Builtin.List.listExtendWith
  refine wpAny_bind (J.type.here ?_)
  have h1 : Builtin.List.listSameRef (.ref q) (.ref a) = false := by simp [Builtin.List.listSameRef, hne]
  have h2 : (Value.ref C == Value.type "list") = false := rfl
  have h3 : (Value.ref C == Value.type "tuple") = false := rfl
  simp only [h1, h2, h3, Bool.or_false, Bool.false_eq_true, if_false]
  refine wpAny_bind (PySem.W.owit_iter hF I2.ok.mod.kin J hc.it hc.itF ?_)
  have e0 : Env0 X.prog X.w X.K X.mg X.base X.A.in1.in1 X.stack s Hq := by
    have e := I2.env0
    exact ⟨by rw [sb.fr]; exact e.frames, e.mod, e.bs, e.bsz, e.funs, e.frf, e.hok, e.bare⟩
  have hm := hsp s.heap.objs.size
  have hl := FI.ln _ _ _ _ _ hm
  have r2 : Vals [V.ref a] [Value.ref a] := .cons rfl .nil
  refine wpAny_call (codeAny_mono (FI.go _ X.A.in1.in1 X.stack s Hq ⟨[.ref a], []⟩ [.ref a] [.ref a] _ EI (Nat.le_refl _) sb.room e0 (by
    have := bI s [.ref a] I2.kIn (by simpa using hl)
    simpa using this) r2 hm) fun r s' hq' => ?_)
  cases r with
  | error e => exact xI pins σ Hq s e s' I2 hq'
  | ok fl =>
    cases fl with
    | next => exact False.elim hq'
    | brk => exact False.elim hq'
    | cont => exact False.elim hq'
    | ret u =>
      obtain ⟨v, H', I', rv, it, d, o, kvs, ev, hit, hnn, hT, hq2, ha', hz, q2⟩ := I2.after hq'
      subst ev
      cases rv
      unfold PySem.W.OwitIt
      obtain ⟨es, ep, hod, hk⟩ := (I'.hok it _ hit).1
      refine wpAny_specialOf (hk.typeIs (s := s')) PySem.F.slot_dict_keyiterator_next.lookup ?_
      obtain ⟨mA', J', _⟩ := ins_get I'.hok ha'
      obtain ⟨od', J', _⟩ := J'.look
      refine wpAny_bind (wpAny_holding (hintK hc I'.kIn J' ?_))
      obtain ⟨z, its, k, r3, hl3, e3⟩ := I'.lstM hq2
      cases r3
      have nqi : q ≠ it := fun z => by rw [z, hit] at hq2; cases hq2
      have eq5 : ∀ H5 : Hp, (∀ b, b ≠ it → b ≠ q → H5 b = H' b) → H5 q = some (.lst (kvs.map fun kv => kV kv.1)) → H5 it = none → Q (.ref q) H5 := fun H5 a1 a2 a3 => by
        have : H5 = upd (ItX.dropH H' it) q (.lst (kvs.map fun kv => kV kv.1)) := by
          funext b
          by_cases hb : b = q
          · rw [hb, upd_same, a2]
          · rw [upd_ne hb]
            by_cases hi : b = it
            · rw [hi, a3, ItX.dropH_same]
            · rw [ItX.dropH_ne hi, a1 b hi hb]
        rw [this]
        exact q2
      have hloop : ∀ s2, Inv X pins σ H' s2 → codeAny (model X.prog X.w) X.A.in1 (.builtin "list.extend.loop" ⟨[.ref q, .ref it, .none], []⟩) (wants (fun r s₂ => r = .none ∧ EP X pins σ Q (.ref q) s₂) X.xe) s2 := fun s2 I4 =>
        itk_loop (A1 := X.A.in1) hA nqi (Nat.le_trans I2.sz hnn) hz (H0 := H') (fun H5 s5 I5 a1 a2 a3 => ⟨rfl, .ref q, H5, I5, rfl, eq5 H5 a1 a2 a3⟩) _ 0 H' s2 rfl (Nat.zero_le _) I4 (fun _ _ _ => rfl) hT hq2 hit
      refine wpAny_ite_split (fun _ => ?_) (fun _ => wpAny_pure ⟨plainId_quiet PySem.F.plain_extend_loop _, hloop s' I'⟩)
      refine wpAny_bind (wpAny_rule ?_)
      refine wpAny_bind ?_
      show wpAny _ _ (updateSeq q (·.push .none) >>= fun _ => updateSeq q (·.pop)) _ _ _
      refine wpAny_bind (wpAny_updateSeq e3 rfl ?_)
      have I3 := I'.lset (f := (·.push Value.none)) (its' := [Value.none]) (ys := [.non]) (t' := s'.toks) hq2 e3 (by simp) (.cons rfl .nil) (by rw [List.length_singleton, sizeLine_eq]; decide)
      obtain ⟨z4, its4, k4, r4, hl4, e4⟩ := I3.lstM upd_same
      obtain ⟨u4, rfl, ru4⟩ := r4.one
      refine wpAny_updateSeq e4 rfl ?_ (by show 1 ≤ sizeLine; rw [sizeLine_eq]; decide) (by show 0 ≤ sizeLine + 1; exact Nat.zero_le _)
      refine wpAny_pure ⟨plainId_quiet PySem.F.plain_extend_loop _, hloop _ ?_⟩
      have I5 := I3.lset (f := (·.pop)) (its := [u4]) (its' := []) (ys := []) (t' := s'.toks) upd_same e4 (by rfl) .nil (Nat.zero_le _)
      rw [upd_upd] at I5
      have hH : upd H' q (.lst []) = H' := by
        funext b
        by_cases hb : b = q
        · rw [hb, upd_same, hq2]
        · rw [upd_ne hb]
      rw [hH] at I5
      exact I5
theorem call_listDk (hc : ItK X.K C fi) (FI : FnW X.prog X.w X.K X.mg X.base CI n fi fdI psI spI) (bI : Binds X.K fdI psI []) (xI : Passes CI X EI) (hr : Room (n + 2) X.A) : CallR X (.type "list") (rListDk C spI EI) := by
  intro pins s σ H xs us Q I rv h
  obtain ⟨a, dx, fs, rfl, ha, hq⟩ := h
  obtain ⟨u, rfl, ru⟩ := rv.one
  cases ru
  have sb : Sub X n X.A.in1.in1 := (Sub.in1 (Sub.in1 (⟨hr, rfl⟩ : Sub X (n + 2) X.A)))
  refine callType_codes (Q₁ := fun obj s₁ => obj = .ref s.heap.objs.size ∧ s₁ = { s with heap := s.heap.push { cls := .type "list", data := .seq #[] } }) PySem.F.called_list (PySem.F.typeCall_list_1 _) PySem.F.entry_list_init
    (code_list_new _ ⟨rfl, rfl⟩) fun obj s₁ h₁ => ?_
  obtain ⟨rfl, rfl⟩ := h₁
  have hS : (s.heap.push { cls := .type "list", data := .seq #[] }).get? s.heap.objs.size = some { cls := .type "list", data := .seq #[] } := Heap.get?_push_size _ rfl
  refine ⟨⟨_, hS, rfl⟩, PySem.F.args_list_init_2 _ _, ?_⟩
  have fr : H s.heap.objs.size = none := I.hok.fresh (Nat.le_refl _)
  have hsp := fun m => hq m _ fr
  have I1 : Inv X pins σ (upd H s.heap.objs.size (.lst [])) { s with heap := s.heap.push { cls := .type "list", data := .seq #[] } } := I.lnew (its := []) (t' := s.toks) .nil (Nat.zero_le _)
  show wpAny _ _ (do let old ← Builtin.List.listItems (.ref s.heap.objs.size); Builtin.List.listUpdate (.ref s.heap.objs.size) (fun _ => #[]); letGo old.toList.reverse; Builtin.List.listExtendWith (.ref s.heap.objs.size) (.ref a) .none) _ _ _
  refine wpAny_bind ?_
  unfold Builtin.List.listItems
  refine wpAny_bind (wpAny_seqItems hS rfl (wpAny_pure ?_))
  show wpAny _ _ (updateSeq s.heap.objs.size (fun _ => #[]) >>= fun _ => letGo (#[] : Array Value).toList.reverse >>= fun _ => Builtin.List.listExtendWith (.ref s.heap.objs.size) (.ref a) .none) _ _ _
  refine wpAny_bind (wpAny_updateSeq hS rfl ?_)
  have I2 := I1.lset (f := fun _ => #[]) (its := []) (its' := []) (ys := []) (t' := s.toks) upd_same hS rfl .nil (Nat.zero_le _)
  rw [upd_upd] at I2
  refine wpAny_bind (wpAny_letGo ?_)
  have ha2 : upd H s.heap.objs.size (.lst []) a = some (.ins C dx fs) := by rw [upd_ne (ne_of_none ha fr)]; exact ha
  exact extend_dk sb hr.hd hc FI bI xI I2 upd_same ha2 hsp
end
end D

/-! trees of marks and labels -/
namespace D
open PySem PySem.Spec PyProof.Rows L2
inductive Nd where
  | mk (m l : Str) (ks : List Nd)
namespace Nd
def mark : Nd → Str | mk m _ _ => m
def label : Nd → Str | mk _ l _ => l
def kids : Nd → List Nd | mk _ _ ks => ks
mutual
def enc : Nd → PyData
  | mk m l ks => .tuple [.str m, .str l, .tuple (encs ks)]
def encs : List Nd → List PyData
  | [] => []
  | k :: r => k.enc :: encs r
end
mutual
def dep : Nd → Nat
  | mk _ _ ks => deps ks + 1
def deps : List Nd → Nat
  | [] => 0
  | k :: r => Nat.max k.dep (deps r)
end
-- the nodes in page order
mutual
def subs : Nd → List Nd
  | mk m l ks => mk m l ks :: subss ks
def subss : List Nd → List Nd
  | [] => []
  | k :: r => k.subs ++ subss r
end
mutual
def sz : Nd → Int × Int
  | mk _ l ks => szf l (szs ks)
def szs : List Nd → List (Int × Int)
  | [] => []
  | k :: r => k.sz :: szs r
end
-- each node behind what stands beneath it
mutual
def post : Nd → List Nd
  | mk m l ks => posts ks ++ [mk m l ks]
def posts : List Nd → List Nd
  | [] => []
  | k :: r => k.post ++ posts r
end
-- where each node stands, from x, y on
mutual
def rects : Nd → Int → Int → List (Nd × Int × Int)
  | mk m l ks, x, y => (mk m l ks, x, y) :: rectss (decide (l = sRow)) ks x y
def rectss (row : Bool) : List Nd → Int → Int → List (Nd × Int × Int)
  | [], _, _ => []
  | k :: r, x, y => k.rects x y ++ rectss row r (if row = true then x + k.sz.1 else x) (if row = true then y else y + k.sz.2)
end
theorem encs_map : ∀ ks : List Nd, encs ks = ks.map enc
  | [] => by rw [encs, List.map_nil]
  | k :: r => by rw [encs, encs_map r, List.map_cons]
theorem subss_map : ∀ ks : List Nd, subss ks = (ks.map subs).flatten
  | [] => by rw [subss, List.map_nil, List.flatten_nil]
  | k :: r => by rw [subss, subss_map r, List.map_cons, List.flatten_cons]
theorem szs_map : ∀ ks : List Nd, szs ks = ks.map sz
  | [] => by rw [szs, List.map_nil]
  | k :: r => by rw [szs, szs_map r, List.map_cons]
theorem posts_map : ∀ ks : List Nd, posts ks = (ks.map post).flatten
  | [] => by rw [posts, List.map_nil, List.flatten_nil]
  | k :: r => by rw [posts, posts_map r, List.map_cons, List.flatten_cons]
theorem enc_eq (n : Nd) : n.enc = .tuple [.str n.mark, .str n.label, .tuple (n.kids.map enc)] := by
  cases n with | mk m l ks => rw [enc, encs_map]; rfl
theorem subs_eq (n : Nd) : n.subs = n :: (n.kids.map subs).flatten := by
  cases n with | mk m l ks => rw [subs, subss_map]; rfl
theorem sz_eq (n : Nd) : n.sz = szf n.label (n.kids.map sz) := by
  cases n with | mk m l ks => rw [sz, szs_map]; rfl
theorem post_eq (n : Nd) : n.post = (n.kids.map post).flatten ++ [n] := by
  cases n with | mk m l ks => rw [post, posts_map]; rfl
theorem rects_eq (n : Nd) (x y : Int) : n.rects x y = (n, x, y) :: rectss (decide (n.label = sRow)) n.kids x y := by
  cases n with | mk m l ks => rw [rects]; rfl
theorem dep_eq (n : Nd) : n.dep = deps n.kids + 1 := by
  cases n with | mk m l ks => rw [dep]; rfl
theorem deps_mem : ∀ {ks : List Nd} {k : Nd}, k ∈ ks → k.dep ≤ deps ks
  | q :: r, k, h => by
    rw [deps]
    rcases List.mem_cons.mp h with rfl | h
    · exact Nat.le_max_left _ _
    · exact Nat.le_trans (deps_mem h) (Nat.le_max_right _ _)
theorem deps_le : ∀ {ks : List Nd} {n : Nat}, (∀ k ∈ ks, k.dep ≤ n) → deps ks ≤ n
  | [], n, _ => by rw [deps]; exact Nat.zero_le _
  | q :: r, n, h => by
    rw [deps]
    exact Nat.max_le.mpr ⟨h q List.mem_cons_self, deps_le fun k hk => h k (List.mem_cons_of_mem _ hk)⟩
theorem dep_kid {n k : Nd} (h : k ∈ n.kids) : k.dep < n.dep := by
  rw [dep_eq n]
  exact Nat.lt_succ_of_le (deps_mem h)
theorem dep_pos (n : Nd) : 0 < n.dep := by rw [dep_eq]; omega
def marks (n : Nd) : List Str := n.subs.map mark
theorem subs_len_pos (n : Nd) : 0 < n.subs.length := by rw [subs_eq]; exact Nat.succ_pos _
/-- by the depth of trees -/
theorem ind {p : Nd → Prop} (h : ∀ n, (∀ k ∈ n.kids, p k) → p n) : ∀ n, p n := by
  have : ∀ (d : Nat) (n : Nd), n.dep ≤ d → p n := by
    intro d
    induction d with
    | zero => exact fun n hn => absurd n.dep_pos (by omega)
    | succ d ih => exact fun n hn => h n fun k hk => ih k (by have := dep_kid hk; omega)
  exact fun n => this n.dep n (Nat.le_refl _)
theorem perm_flat {α β : Type} {f g : α → List β} : ∀ (ks : List α), (∀ k ∈ ks, (f k).Perm (g k)) → (ks.map f).flatten.Perm (ks.map g).flatten
  | [], _ => by simp
  | k :: r, h => by
    rw [List.map_cons, List.map_cons, List.flatten_cons, List.flatten_cons]
    exact (h k List.mem_cons_self).append (perm_flat r fun x hx => h x (List.mem_cons_of_mem _ hx))
theorem post_perm : ∀ n : Nd, n.post.Perm n.subs := ind fun n ih => by
  rw [post_eq, subs_eq]
  exact (List.perm_append_singleton _ _).trans ((perm_flat n.kids ih).cons n)
theorem post_nodup {n : Nd} (h : n.marks.Nodup) : (n.post.map mark).Nodup := ((post_perm n).map mark).nodup_iff.mpr h
theorem rectss_map : ∀ (row : Bool) (ks : List Nd) (x y : Int), (∀ k ∈ ks, ∀ x y, (k.rects x y).map (·.1) = k.subs) → (rectss row ks x y).map (·.1) = (ks.map subs).flatten
  | row, [], x, y, _ => by rw [rectss]; rfl
  | row, k :: r, x, y, h => by
    rw [rectss, List.map_append, h k List.mem_cons_self, rectss_map row r _ _ fun q hq => h q (List.mem_cons_of_mem _ hq), List.map_cons, List.flatten_cons]
theorem rects_map (n : Nd) : ∀ x y, (n.rects x y).map (·.1) = n.subs := ind (p := fun n => ∀ x y, (n.rects x y).map (·.1) = n.subs) (fun n ih x y => by
  rw [rects_eq, subs_eq, List.map_cons, rectss_map _ _ _ _ ih]) n
/-- moved by dx, dy -/
def mv (dx dy : Int) (p : Nd × Int × Int) : Nd × Int × Int := (p.1, p.2.1 + dx, p.2.2 + dy)
theorem rectss_mv (row : Bool) (dx dy : Int) : ∀ (ks : List Nd) (x y : Int), (∀ k ∈ ks, ∀ x y, k.rects (x + dx) (y + dy) = (k.rects x y).map (mv dx dy)) → rectss row ks (x + dx) (y + dy) = (rectss row ks x y).map (mv dx dy)
  | [], x, y, _ => by rw [rectss, rectss]; rfl
  | k :: r, x, y, h => by
    rw [rectss, rectss, List.map_append, h k List.mem_cons_self]
    congr 1
    have e := rectss_mv row dx dy r (if row = true then x + k.sz.1 else x) (if row = true then y else y + k.sz.2) fun q hq => h q (List.mem_cons_of_mem _ hq)
    rw [← e]
    cases row
    · simp only [Bool.false_eq_true, if_false]
      rw [show y + dy + k.sz.2 = y + k.sz.2 + dy by omega]
    · simp only [if_true]
      rw [show x + dx + k.sz.1 = x + k.sz.1 + dx by omega]
theorem rects_mv (dx dy : Int) (n : Nd) : ∀ x y, n.rects (x + dx) (y + dy) = (n.rects x y).map (mv dx dy) := ind (p := fun n => ∀ x y, n.rects (x + dx) (y + dy) = (n.rects x y).map (mv dx dy)) (fun n ih x y => by
  rw [rects_eq, rects_eq, List.map_cons, rectss_mv _ dx dy _ _ _ ih]
  rfl) n
theorem rectss_app (row : Bool) : ∀ (a b : List Nd) (x y : Int), rectss row (a ++ b) x y = rectss row a x y ++ rectss row b (if row = true then x + (a.map fun k => k.sz.1).sum else x) (if row = true then y else y + (a.map fun k => k.sz.2).sum)
  | [], b, x, y => by
    rw [List.nil_append]
    cases row <;> simp [rectss]
  | k :: r, b, x, y => by
    rw [List.cons_append, rectss, rectss, rectss_app row r b, List.append_assoc]
    congr 2
    cases row
    · simp only [Bool.false_eq_true, if_false, List.map_cons, List.sum_cons]
      rw [Int.add_assoc]
    · simp only [if_true, List.map_cons, List.sum_cons]
      rw [Int.add_assoc]
end Nd
/-! ### dicts by text -/
def kvS (ps : List (Str × V)) : List (Key × V) := ps.map fun p => (Sum.inr p.1, p.2)
theorem kvS_len (ps : List (Str × V)) : (kvS ps).length = ps.length := List.length_map _
theorem putK_new {ps : List (Str × V)} {m : Str} {v : V} (h : m ∉ ps.map (·.1)) : putK (kvS ps) (.inr m) v = kvS (ps ++ [(m, v)]) := by
  unfold putK
  rw [if_neg]
  · unfold kvS
    rw [List.map_append]
    rfl
  · intro z
    rw [List.any_eq_true] at z
    obtain ⟨p, hp, e⟩ := z
    obtain ⟨q, hq, rfl⟩ := List.mem_map.mp hp
    have e := of_decide_eq_true e
    injection e with e
    exact h (List.mem_map.mpr ⟨q, hq, e⟩)
theorem valS_of : ∀ {ps : List (Str × V)} {m : Str} {v : V} {i : Nat}, (ps.map (·.1)).Nodup → ps[i]? = some (m, v) → valV (kvS ps) (.inr m) = some v
  | [], m, v, i, _, e => by simp at e
  | p :: r, m, v, 0, _, e => by
    cases e
    simp [kvS, valV]
  | p :: r, m, v, i + 1, h, e => by
    rw [List.map_cons, List.nodup_cons] at h
    have hm : m ∈ r.map (·.1) := List.mem_map.mpr ⟨(m, v), List.mem_of_getElem? e, rfl⟩
    have ne : ¬ p.1 = m := fun z => h.1 (by rw [z]; exact hm)
    have ih := valS_of (ps := r) (i := i) h.2 e
    unfold kvS valV at ih ⊢
    rw [List.map_cons, List.find?_cons]
    have ne2 : decide ((Sum.inr p.1 : Key) = .inr m) = false := decide_eq_false fun z => ne (by injection z)
    rw [ne2]
    exact ih
theorem valS_none {ps : List (Str × V)} {m : Str} (h : m ∉ ps.map (·.1)) : valV (kvS ps) (.inr m) = none := by
  unfold valV
  rw [List.find?_eq_none.mpr]
  · rfl
  · intro p hp e
    obtain ⟨q, hq, rfl⟩ := List.mem_map.mp hp
    have e := of_decide_eq_true e
    injection e with e
    exact h (List.mem_map.mpr ⟨q, hq, e⟩)
/-! ### texts of plain signs -/
def asc (z : Str) : Prop := ∀ c ∈ z.cps.toList, c < 128
theorem asc_app {a b : Str} (h : asc a) (g : asc b) : asc (a ++ b) := fun c hc => by
  have e : (a ++ b).cps.toList = a.cps.toList ++ b.cps.toList := Array.toList_append
  rw [e] at hc
  exact (List.mem_append.mp hc).elim (h c) (g c)
theorem asc_cut {z : Str} {lo hi : Option Int} (h : asc z) : asc (cutS z lo hi) := fun c hc => by
  unfold cutS at hc
  exact h c (List.mem_of_mem_drop (List.mem_of_mem_take (show c ∈ ((z.cps.toList.drop (HT.sIx z.length 0 lo)).take (HT.sIx z.length z.length hi - HT.sIx z.length 0 lo)) from hc)))
theorem asc_gd {z : Str} (h : asc z) : Gd z.length 0 (.str z) := Gd.str (fun c hc => Nat.lt_of_lt_of_le (h c hc) (by decide)) (Nat.le_refl _)
end D

/-! a property's setter by x.f = v; a def with defaults -/
namespace D
open PySem PySem.Spec PyProof.Rows L2
/-- the class has the name as a property at p whose setter is the def at g -/
structure PropSet (K : PySem.W.Frag) (C : Addr) (f : Str) (p g : Addr) : Prop where
  tk : PySem.W.takerIn K C f = some (some (.ref p))
  ty : PySem.W.typeIn K (.ref p) = some (.type "property")
  rec_ : ∃ a rest, PySem.W.recIn K p "property" = some (a :: .ref g :: rest)
section
variable {X : Cx} {CX : CXT} {k : Nat} {C p g a dx : Addr} {fs : List (Str × V)} {f : Str} {fd : FuncData} {ps : List Str} {sp : Sp} {pos pos' : Pos}
theorem setprop_ok {pins : List (Addr × Obj)} {σ : L2.St} {H : Hp} {s : Shared} {Q : VK} {E : XK} {v : V} {u : Value} {R : Unit → Shared → Prop} (I : Inv X pins σ H s) (ea : H a = some (.ins C dx fs)) (c : Cls X.K C) (hp : PropSet X.K C f p g)
    (F : FnOk X.prog X.w X.K X.mg X.base CX k g fd ps sp) (hr : Room (k + 2) X.A) (hb : Binds X.K fd ps []) (hx : PassesAt CX X σ E) (rv : RelV v u) (h : sp [.ref a, v] H Q E)
    (hR : ∀ v' H' s', Inv X pins σ H' s' → Q v' H' → R () s') :
    wpAny (model X.prog X.w) X.A (setAttr (.ref a) f u) R X.xe s := by
  obtain ⟨mA, O, _⟩ := ins_get I.hok ea
  obtain ⟨od, J, _⟩ := O.look
  obtain ⟨m, hF⟩ := I.fr
  obtain ⟨q, rest, hrec⟩ := hp.rec_
  have I1 := I.tok (s.toks + 1)
  have size : ([Value.ref a, u] ++ []).length = ps.length := by rw [List.append_nil, ← F.len _ _ _ _ h]; rfl
  have bd := hb { s with toks := s.toks + 1 } [.ref a, u] I1.kIn size
  rw [List.append_nil] at bd
  refine PySem.W.set_prop hF I.ok.mod.kin J c.sa c.po hp.tk hp.ty hrec (codeAny_mono (F.run X.A.in1.in1 X.stack { s with toks := s.toks + 1 } H ⟨[.ref a, u], []⟩ [.ref a, u] [.ref a, v] Q E (room_in1 (room_in1 hr)) I1.env0.in1.in1 bd (.cons rfl (.cons rv .nil)) h) fun r s' told => ?_)
  match r, told with
  | .error e, told => exact hx pins H _ e s' I1 told
  | .ok (.ret w), told =>
    obtain ⟨v', H', I3, _, q3⟩ := I1.after told
    exact hR v' H' s' I3 q3
  | .ok .next, told => exact False.elim told
  | .ok .brk, told => exact False.elim told
  | .ok .cont, told => exact False.elim told
def sPropS (C : Addr) (sp : Sp) (E : L2.St → XK) (ta tv : TE) : TS := fun D σ H => tv σ H fun y H1 => ta σ H1 fun x H2 => ∃ a dx fs, x = .ref a ∧ H2 a = some (.ins C dx fs) ∧ sp [x, y] H2 (fun _ H3 => D.nx σ H3) (E σ)
/-- x.f = v, f a property, its setter may raise -/
theorem ps_propS {o value : Expr} {ta tv : TE} {E : L2.St → XK} (ha : PE X o ta) (hv : PE X value tv) (c : Cls X.K C) (hp : PropSet X.K C f p g) (F : FnOk X.prog X.w X.K X.mg X.base CX k g fd ps sp) (hr : Room (k + 2) X.A) (hb : Binds X.K fd ps [])
    (hx : ∀ σ, PassesAt CX X σ (E σ)) (hs : swapsWith value (some (.Attribute o f pos')) pos.line X.env = pure false) : PS X (.Assign [.Attribute o f pos'] value pos) (sPropS C sp E ta tv) := by
  refine ⟨fun pins s σ H D I h => ?_⟩
  refine plainObj_wpAny_Assign_Attribute (thn (hv.run pins s σ H _ I h) fun u s1 ⟨y, H1, I1, ry, q⟩ => thn (ha.run pins s1 σ H1 _ I1 q) fun ov s2 ⟨x, H2, I2, rx, a, dx, fs, ex, ea, q2⟩ => ?_) hs
  subst ex
  obtain rfl : ov = Value.ref a := rx
  exact setprop_ok I2 ea c hp F hr hb (hx σ) ry q2 fun v' H' s' I3 q3 => ⟨σ, H', I3, q3⟩
/-- .. that lets nothing out -/
theorem ps_prop {o value : Expr} {ta tv : TE} (ha : PE X o ta) (hv : PE X value tv) (c : Cls X.K C) (hp : PropSet X.K C f p g) (F : FnOk X.prog X.w X.K X.mg X.base CX0 k g fd ps sp) (hr : Room (k + 2) X.A) (hb : Binds X.K fd ps [])
    (hs : swapsWith value (some (.Attribute o f pos')) pos.line X.env = pure false) : PS X (.Assign [.Attribute o f pos'] value pos) (sPropS C sp (fun _ => E0) ta tv) :=
  ps_propS ha hv c hp F hr hb (fun _ _ _ _ _ _ _ h => h.elim) hs
end
/-! ### a def with defaults -/
section
variable {P : Program} {w : World} {K : PySem.W.Frag} {mg : Str → Option Value} {base : Heap} {x qual : Str} {params : Arguments} {body : List Stmt} {scope : Scope} {dvs : List V} {kws : List (Str × V)} {f : Addr} {fd : FuncData}
/-- for a def that lets nothing out -/
theorem _root_.L2.FunD.ok0 {N ps : List Str} {k : Nat} {sp : Sp} (F : L2.FunD K x qual params body scope dvs kws f fd) (S : FnScope N ps scope) (len : ∀ vs H Q E, sp vs H Q E → vs.length = ps.length)
    (hbody : ∀ (cdv : Value) (A : Around) (outer : List Env) (s : Shared) (H : Hp) (vs : List V) (Q : VK) (E : XK), Room k (A.deeper (envOfC qual scope s.heap.objs.size f cdv)) → sp vs H Q E →
      ∃ t, PSs (cxOf CX0 P w K mg base N qual scope f cdv A outer s H E).nox body t ∧ t { nx := fun _ H' => Q .non H', rt := Q } (start N vs) H) : FnOk P w K mg base CX0 (k + 1) f fd ps sp := by
  obtain ⟨oc, od, dV, kV, doc, pm, an, cdv, ct, osl, rfl, lk, hcd, _, _⟩ := F.ex
  refine fn_of lk hcd S len fun A outer s H vs Q E hr hsp => ?_
  obtain ⟨t, h, q⟩ := hbody cdv A outer s H vs Q E hr hsp
  exact ⟨t, h.nox, q⟩
theorem funD_mk {st : Stmt} {T : Addr} {oc : Value} {od an : Option Addr} {osl : Array (Option Value)} {kV doc pm cdv ct : Value} {arr : Array Value} {n : Nat} (hd : dvs ≠ [])
    (l : K.lookup f = some ⟨oc, od, .func (PySem.W.fnOf x qual (defArgs st) (defBody st) (defScope st) (.ref T) kV doc pm an cdv ct), osl⟩)
    (c : PySem.W.codeIn K cdv qual = true) (k : PySem.W.keepIn K (.ref f) = true) (lt : K.lookup T = some ⟨.type "tuple", none, .seq arr n, #[]⟩) (v : Vals dvs arr.toList) :
    L2.FunD K x qual (defArgs st) (defBody st) (defScope st) dvs [] f (PySem.W.fnOf x qual (defArgs st) (defBody st) (defScope st) (.ref T) kV doc pm an cdv ct) :=
  ⟨⟨oc, od, _, kV, doc, pm, an, cdv, ct, osl, rfl, l, c, .inr ⟨hd, T, _, arr.toList, n, rfl, lt, rfl, v⟩, .inl rfl⟩, k⟩
theorem binds_all {ps : List Str} (F : L2.FunD K x qual params body scope dvs [] f fd) (hd : dvs ≠ [])
    (h : ∀ (T : Addr) (kV doc pm : Value) (an : Option Addr) (cdv ct : Value) (us its : List Value), us.length = ps.length → its.length = dvs.length →
      ∃ k, bindArgs (PySem.W.fnOf x qual params body scope (.ref T) kV doc pm an cdv ct) ⟨us, []⟩ = seqItems? (.ref T) >>= k ∧ k (some its.toArray) = pure (ps.zip us)) : Binds K fd ps [] := by
  obtain ⟨ds, v, b⟩ := F.binds1 (ps := ps) ps.length dvs.length hd (by omega) fun T kV doc pm an cdv ct us its l1 l2 => by
    obtain ⟨k, e1, e2⟩ := h T kV doc pm an cdv ct us its l1 l2
    refine ⟨k, e1, ?_⟩
    rw [e2, List.drop_eq_nil_of_le (by omega), List.append_nil]
  rw [List.drop_eq_nil_of_le (Nat.le_refl _)] at v
  cases v
  exact b
end
section
variable {X : Cx} {K : PySem.W.Frag}
theorem pg_lstK {es : List Expr} {k n : Nat} {t : TGs} {pos : Pos} (hK : X.K = K) (hc : X.calm = true) (h : PGs X es t)
    (hn : (assignEach es X.env).length = n := by rfl) (hst : (assignEach es X.env).findIdx? (·.1) = none := by rfl) : PG X (.Tuple es k pos) (gLst K n t) := by subst hK; exact pg_lst hc h hn hst
def rTIdxS (K : PySem.W.Frag) : V → List V → Hp → VK → Prop := fun x xs H Q => ∃ p, ∃ ys : List Str, ∃ z j, x = .ref p ∧ xs = [.str z] ∧ SqT K H p (ys.map V.str) ∧ ys[j]? = some z ∧ (∀ m, m < j → ys[m]? ≠ some z) ∧ Q (.int (j : Nat)) H
theorem mt_tup_indexS (hK : X.K = K) : MtR X "tuple.index" (rTIdxS K) := by subst hK; exact mt_tup_index
end
end D

/-! x != y by an own __eq__; a call of a class by a keyword; a tuple read from behind -/
namespace D
open PySem PySem.Spec PyProof.Rows L2
section
open PySem.W
variable {prog : Program} {w : World} {A : Around} {E : Value → Shared → Prop} {s : Shared} {K : PySem.W.Frag} {x C L f : Addr} {h₀ : Heap} {m : Str → Option Value} {ox : Obj} {od : Option Obj} {b tb : Value} {name : Str}
theorem ifBound_B {M : Model} {args : List Value} {Q : Option Value → Shared → Prop} {id : String} (X : K.In s.heap) (I : InstAt s.heap x ox C od) (hs : findIn K (.ref C) name = some (some (.builtin id))) (hb : ∀ self, bindSpecial (.builtin id) self = pure (.builtin id, [self]))
    (h : wpAny M A (call (.builtin id) (.ref x :: args)) (fun v => Q (some v)) E s) : wpAny M A (callSpecialIfBound? (.ref x) name args) Q E s := by
  simp only [callSpecialIfBound?, bindSpecialIfBound?]
  refine wpAny_holding (wpAny_bind (wpAny_bind (wpAny_bind (I.type.here ((looks_findIn X hs).here ?_)))))
  refine wpAny_bind (wpAny_askSetting (wpAny_ite ?_))
  have fin : wpAny M A (call (.builtin id) ([.ref x] ++ args) >>= fun v => pure (some v)) Q E s := wpAny_bind (wpAny_mono h (fun v s' h' => wpAny_pure h') fun _ _ h' => h')
  split
  · exact wpAny_bind ((Looks.of_pure (hb _)).here (wpAny_pure (by exact fin)))
  · exact wpAny_tryCatch (wpAny_bind ((Looks.of_pure (hb _)).here (wpAny_pure (by exact fin))))
/-- x != y where the class of x has an own __eq__ and object's __ne__ -/
theorem ne_K {Q : Value → Shared → Prop} (hu : A.units + 1 < cLine) (F : Fr h₀ L s.heap m) (X₀ : K.In h₀) (I : InstAt s.heap x ox C od) (hb : Looks (model prog w) s.heap (typeOf b) tb) (hn : notFirst K C tb = true)
    (hs : findIn K (.ref C) "__ne__" = some (some (.builtin "object.__ne__"))) (he : findIn K (.ref C) "__eq__" = some (some (.ref f))) (hf : isFn K (.ref f) = true) (ho : mroIn K C (.type "object") = some true)
    (h : wpAny (model prog w) A.in1 (call (.ref f) [.ref x, b]) (fun v s' => ∃ c, v = .bool c ∧ Q (.bool (!c)) s') E s) : wpAny (model prog w) A (richCompare .NotEq (.ref x) b) Q E s := by
  have X := X₀.keeps F.keep
  have sub : Looks (model prog w) s.heap (isInstance (.ref x) (.type "object")) true := I.type.andThen (looks_mroIn X ho)
  have one : wpAny (model prog w) A (tryCompare (.ref x) "__ne__" b) (fun r s' => ∃ v, r = some v ∧ Q v s') E s := by
    unfold tryCompare
    refine wpAny_bind (ifBound_B X I hs PySem.F.cmp_object.ne.bind ?_)
    refine wpAny_call (codeAny_call_builtin PySem.F.cmp_object.ne.plain PySem.F.cmpEntry_ne (@check_slot (model prog w) _ _ s "object.__ne__" "object" "__ne__" (.ref x) [b] [] _ PySem.F.cmpKind_ne PySem.F.cmpSplit_ne sub (PySem.F.cmpArgs_ne _ _) ?_))
    unfold Builtin.«object.__ne__»
    repeat (first
      | with_reducible refine wpAny_cRoomFor (show A.in1.units < cLine from hu) ?_
      | (refine wpAny_bind (m := callSpecialIfBound? (.ref x) (Str.ofString "__eq__") [b])
          (ifBound_K X I he hf (wpAny_mono h (fun r s' hr => by
            obtain ⟨c, rfl, hq⟩ := hr
            repeat (first | exact hq | exact ⟨_, rfl, hq⟩ | exact wpAny_pure hq | exact wpAny_truthy_bool hq | (refine wpAny_bind (m := truthy (.bool _)) (wpAny_truthy_bool ?_)) | wp_step)) fun _ _ e => e)))
      | wp_step)
  unfold richCompare
  simp only [oneThing_ref]
  refine wpAny_holding (wpAny_bind (wpAny_cRoomFor (Nat.lt_of_succ_lt hu) ?_))
  refine wpAny_bind (I.type.here (wpAny_bind (hb.here ?_)))
  split
  · rename_i q
    have e : subIn K tb (.ref C) = some false := by
      rcases Bool.or_eq_true_iff.mp hn with e | e
      · rw [beq_iff_eq.mp e] at q; simp at q
      · exact beq_iff_eq.mp e
    refine wpAny_bind ((looks_subIn X e).here ?_)
    simp only [Bool.false_eq_true, if_false]
    refine wpAny_bind (wpAny_mono one (fun r s' z => ?_) fun _ _ e => e)
    obtain ⟨v, rfl, hq⟩ := z
    exact wpAny_pure hq
  · refine wpAny_bind (wpAny_pure ?_)
    simp only [Bool.false_eq_true, if_false]
    refine wpAny_bind (wpAny_mono one (fun r s' z => ?_) fun _ _ e => e)
    obtain ⟨v, rfl, hq⟩ := z
    exact wpAny_pure hq
end
/-- x != y, two instances of one class with its own __eq__ -/
def rNeOwn (C : Addr) (sp : Sp) (E : XK) : R2 := fun x y H Q => ∃ a dx fs b dy gs, x = .ref a ∧ y = .ref b ∧ H a = some (.ins C dx fs) ∧ H b = some (.ins C dy gs) ∧ sp [x, y] H (fun v H' => ∃ c, v = .bl c ∧ Q (.bl (!c)) H') E
section
variable {X : Cx} {C g : Addr} {n : Nat} {CX : CXT} {sp : Sp} {E : XK} {fd : FuncData} {ps : List Str}
theorem op_neOwn (hs : PySem.W.findIn X.K (.ref C) "__ne__" = some (some (.builtin "object.__ne__"))) (he : PySem.W.findIn X.K (.ref C) "__eq__" = some (some (.ref g))) (hf : PySem.W.isFn X.K (.ref g) = true) (hn : PySem.W.notFirst X.K C (.ref C) = true)
    (ho : PySem.W.mroIn X.K C (.type "object") = some true) (F : FnOk X.prog X.w X.K X.mg X.base CX n g fd ps sp) (hb : Binds X.K fd ps []) (hr : Room (n + 1) X.A) (hx : Passes CX X E) : OpR X (compareOp .NotEq) (rNeOwn C sp E) := by
  intro pins s σ H x y v u Q I rx ry h
  obtain ⟨a, dx, fs, b, dy, gs, rfl, rfl, ha, hb2, q⟩ := h
  cases (show v = Value.ref a from rx)
  cases (show u = Value.ref b from ry)
  obtain ⟨mA, O, _⟩ := ins_get I.hok ha
  obtain ⟨od, J, _⟩ := O.look
  obtain ⟨mA', O', _⟩ := ins_get I.hok hb2
  obtain ⟨od', J', _⟩ := O'.look
  obtain ⟨m, hF⟩ := I.fr
  show wpAny _ _ (richCompare .NotEq (.ref a) (.ref b)) _ _ _
  refine ne_K (tb := .ref C) (hu_of hr) hF I.ok.mod.kin J J'.type hn hs he hf ho ?_
  refine wpAny_mono (run_in1 (us := [.ref a, .ref b]) (vs := [.ref a, .ref b]) F hr hb hx I (.cons rfl (.cons rfl .nil)) q) (fun w s' z => ?_) fun _ _ x => x
  obtain ⟨z', H', I', rz, c, ez, qz⟩ := z
  subst ez
  exact ⟨c, rz, .bl (!c), H', I', rfl, qz⟩
end
/-! ### a class with a default, called by keyword -/
theorem binds_kw {K : PySem.W.Frag} {x qual : Str} {params : Arguments} {body : List Stmt} {scope : Scope} {dvs : List V} {f : Addr} {fd : FuncData} {ps ks : List Str} {n : Nat} (F : L2.FunD K x qual params body scope dvs [] f fd) (hd : dvs ≠ [])
    (h : ∀ (T : Addr) (kV doc pm : Value) (an : Option Addr) (cdv ct : Value) (us its ws : List Value), us.length = n → its.length = dvs.length → ws.length = ks.length →
      ∃ k, bindArgs (PySem.W.fnOf x qual params body scope (.ref T) kV doc pm an cdv ct) ⟨us, ks.zip ws⟩ = seqItems? (.ref T) >>= k ∧ k (some its.toArray) = pure (ps.zip (us ++ ws))) : KBn K fd ps n ks (fun us ws => us ++ ws) (fun vs zs => vs ++ zs) := by
  obtain ⟨its, b⟩ := F.kbindsD n ks (fun us _ ws => us ++ ws) hd (fun a _ c => a.append c) h
  exact b
/-! ### t[::-1] of a tuple -/
section
open HT
variable {prog : Program} {w : World} {A : Around} {E : Value → Shared → Prop} {s : Shared}
theorem sliceApplied_rev {sl : Addr} {vs : Value} {n : Nat} {Q : Int × Int × Nat → Shared → Prop} (hs : s.heap.IsSliceOf sl .none .none vs) (ps : IsPart vs (some (-1)))
    (h : Q ((n : Int) - 1, -1, n) s) : wpAny (model prog w) A (Builtin.Slice.sliceApplied (.ref sl) (pure (n : Int))) Q E s := by
  obtain ⟨os, hos, hcs, hds⟩ := id hs
  unfold Builtin.Slice.sliceApplied Builtin.Slice.sliceFields
  refine wpAny_bind (wpAny_bind (wpAny_field hos hds (x := .none) rfl (wpAny_bind (wpAny_field hos hds (x := .none) rfl (wpAny_bind (wpAny_field hos hds (x := vs) rfl (wpAny_pure ?_)))))))
  refine wpAny_bind (slicePart_ ps ?_)
  show wpAny _ _ (if ((-1 : Int) == 0) = true then _ else _) _ _ s
  rw [if_neg (by decide)]
  refine wpAny_bind (slicePart_none (wpAny_bind (slicePart_none (wpAny_bind (wpAny_pure ?_)))))
  show wpAny _ _ (match Builtin.Slice.sliceAdjust none none (-1) (n : Int) with | (lo, hi) => pure (lo, (-1 : Int), Builtin.Slice.slicePlaces lo hi (-1))) _ _ s
  have e1 : Builtin.Slice.sliceAdjust none none (-1) (n : Int) = ((n : Int) - 1, -1) := by
    simp [Builtin.Slice.sliceAdjust]
  have e2 : Builtin.Slice.slicePlaces ((n : Int) - 1) (-1) (-1) = n := by
    unfold Builtin.Slice.slicePlaces
    simp
    omega
  rw [e1]
  show wpAny _ _ (pure ((n : Int) - 1, (-1 : Int), Builtin.Slice.slicePlaces ((n : Int) - 1) (-1) (-1))) _ _ s
  rw [e2]
  exact wpAny_pure h
theorem filterMap_same {α β : Type} {f g : α → Option β} : ∀ {l : List α}, (∀ k ∈ l, f k = g k) → l.filterMap f = l.filterMap g
  | [], _ => rfl
  | a :: r, h => by
    rw [List.filterMap_cons, List.filterMap_cons, h a List.mem_cons_self, filterMap_same fun k hk => h k (List.mem_cons_of_mem _ hk)]
theorem pick_rev (xs : Array Value) : ((List.range xs.size).filterMap fun (k : Nat) => xs[(((xs.size : Int) - 1) + (k : Int) * (-1)).toNat]?).toArray = xs.toList.reverse.toArray := by
  congr 1
  have e : ∀ k ∈ List.range xs.size, xs[(((xs.size : Int) - 1) + (k : Int) * (-1)).toNat]? = xs[xs.size - 1 - k]? := fun k hk => by
    have := List.mem_range.mp hk
    congr 1
    omega
  rw [filterMap_same e]
  have e2 : (List.range xs.size).filterMap (fun k => xs[xs.size - 1 - k]?) = ((List.range xs.size).map fun k => xs.size - 1 - k).filterMap (xs[·]?) := by
    rw [List.filterMap_map]
    rfl
  rw [e2, PySem.W.krv_range, List.filterMap_reverse, PySem.W.krv_all]
theorem getItem_tuple_rev {t sl : Addr} {items : Array Value} {vs : Value} {Q : Value → Shared → Prop} (ht : IsTup s.heap t items) (hs : s.heap.IsSliceOf sl .none .none vs) (ps : IsPart vs (some (-1)))
    (h : Q (.ref s.heap.objs.size) { s with heap := s.heap.push { cls := .type "tuple", data := .seq items.toList.reverse.toArray } })
    (hsz : items.size ≤ sizeLine) : wpAny (model prog w) A (getItem (.ref t) (.ref sl)) Q E s := by
  have htake : sizeOk (.seq items.toList.reverse.toArray) := by
    show items.toList.reverse.toArray.size ≤ sizeLine
    rw [List.size_toArray, List.length_reverse, Array.length_toList]
    exact hsz
  obtain ⟨os, hos, hcs, hds⟩ := id hs
  have hTs : s.TypeIs (.ref sl) "slice" := ⟨os, hos, hcs⟩
  unfold getItem
  try with_reducible refine wpAny_holding ?_
  first | refine wpAny_bind (wpAny_pure ?_) | skip
  refine wpAny_bind (wpAny_sequenceKey ht.typeIs (by decide) ?_)
  refine wpAny_bind (wpAny_callSpecial?_slot (name := Str.ofString "__getitem__") ht.typeIs PyProof.Rows.slot_tuple_getitem
    (wpAny_call_entry PyProof.Rows.slot_tuple_getitem ht.typeIs entry_tuple_getitem ?_ (args_tuple_getitem _ _)))
  show wpAny _ _ (Builtin.Tuple.tupleItemsOf (.ref t) >>= _) _ _ s
  refine wpAny_bind (tupleItemsOf_ ht ?_)
  refine wpAny_bind (wpAny_typeOf hTs ?_)
  rw [if_pos (by decide)]
  refine wpAny_bind (sliceApplied_rev hs ps ?_)
  have hno : ¬ (((items.size : Int) - 1 == 0 && (-1 : Int) == 1 && items.size == items.size) = true) := by
    intro q
    rw [Bool.and_eq_true, Bool.and_eq_true] at q
    exact absurd (eq_of_beq q.1.2) (by decide)
  show wpAny _ _ (if ((items.size : Int) - 1 == 0 && (-1 : Int) == 1 && items.size == items.size) = true then _ else _) _ _ s
  rw [if_neg hno, pick_rev]
  first
    | exact wpAny_bind (m := Builtin.Tuple.tupleExact _) (wpAny_newObj_type (wpAny_pure ⟨_, rfl, wpAny_pure h⟩) htake)
    | exact wpAny_bind (m := Builtin.Tuple.tupleExact _) (wpAny_newObj_type (wpAny_bind (wpAny_pure (wpAny_pure ⟨_, rfl, wpAny_pure h⟩))) htake)
    | exact wpAny_bind (wpAny_bind (m := Builtin.Tuple.tupleExact _) (wpAny_newObj_type (wpAny_pure (wpAny_pure ⟨_, rfl, wpAny_pure h⟩)) htake))
    | exact wpAny_bind (wpAny_bind (m := Builtin.Tuple.tupleExact _) (wpAny_newObj_type (wpAny_pure ⟨_, rfl, wpAny_pure h⟩) htake))
end
def tRevT (K : PySem.W.Frag) (te : TE) : TE := fun σ H Q => te σ H fun x H1 => ∃ a xs, x = .ref a ∧ SqT K H1 a xs ∧ ∀ p, H1 p = none → Q (.ref p) (upd H1 p (.tup xs.reverse))
section
variable {X : Cx} {K : PySem.W.Frag}
theorem pe_revT (hK : X.K = K) {e : Expr} {te : TE} {k : Nat} {p1 p2 p3 pos : Pos} (he : PE X e te) : PE X (.Subscript e (.Slice none none (some (.UnaryOp .USub (.Constant (.int 1) k p1) p2)) p3) pos) (tRevT K te) := by
  subst hK
  refine ⟨fun pins s σ H Q I h => ?_⟩
  refine Subscript_ (thn (he.run pins s σ H _ I h) fun v s1 ⟨x, H1, I1, r1, q1⟩ => ?_)
  obtain ⟨a, xs, ex, hx, q⟩ := q1
  subst ex
  cases r1
  have hst : PO X (some (.UnaryOp .USub (.Constant (.int 1) k p1) p2)) (tPart (tUn (rU fun i => .int (-i)) (tC (.int 1)))) := po_some (pe_un un_neg pe_int)
  refine wpAny_Slice (thn (po_none.run pins s1 σ H1 (fun o H2 => o = none ∧ H2 = H1) I1 ⟨rfl, rfl⟩) fun vl s2 ⟨l, H2, I2, pl, el, e2⟩ => ?_)
  subst el e2
  refine thn (po_none.run pins s2 σ H2 (fun o H3 => o = none ∧ H3 = H2) I2 ⟨rfl, rfl⟩) fun vu s3 ⟨u, H3, I3, pu, eu, e3⟩ => ?_
  subst eu e3
  refine thn (hst.run pins s3 σ H3 (fun o H4 => o = some (-1) ∧ H4 = H3) I3 ⟨1, rfl, -1, rfl, rfl, rfl⟩) fun vs s4 ⟨o, H4, I4, ps, eo, e4⟩ => ?_
  subst eo e4
  cases pl
  cases pu
  have I5 : Inv X pins σ H4 { s4 with heap := s4.heap.push { cls := .type "slice", data := .fields #[.none, .none, vs] } } := I4.kept (t' := s4.toks) fun b ob q => Heap.get?_push_of_some _ q
  obtain ⟨its, r, ht, hz⟩ := I5.tuple hx
  have hlen := r.length
  show wpAny (model X.prog X.w) X.A (subscriptTail e (.Slice none none (some (.UnaryOp .USub (.Constant (.int 1) k p1) p2)) p3) (.ref a) (.ref s4.heap.objs.size)) (EP X pins σ Q) X.xe { s4 with heap := s4.heap.push { cls := .type "slice", data := .fields #[.none, .none, vs] } }
  refine tail_any (ops := [.ref a, .ref s4.heap.objs.size]) ht.typeIs PyProof.Rows.slot_tuple_getitem.lookup ?_ (by with_unfolding_all rfl)
  refine getItem_tuple_rev ht (Heap.IsSliceOf.new _ .none .none vs) ps ?_ (by rw [List.size_toArray]; omega)
  refine ⟨.ref _, _, I5.laid (t' := s4.toks) (o := .tup xs.reverse) (fun b ob q => Heap.get?_push_of_some _ q) (Nat.le_refl _) ?_, rfl, q _ (I5.hok.fresh (Nat.le_refl _))⟩
  refine ⟨by rw [List.length_reverse]; exact hz, _, r.reverse, ?_⟩
  have := IsTup.new { s4 with heap := s4.heap.push { cls := .type "slice", data := .fields #[.none, .none, vs] } }.heap its.toArray.toList.reverse.toArray
  simpa using this
end
end D

/-! objects of one of several classes: made without __init__, a method called, <= with the reflected side asked first -/
namespace D
open PySem PySem.Spec PyProof.Rows L2
/-- C() where there is no __init__ but object's -/
structure Mk0 (K : PySem.W.Frag) (C : Addr) : Prop where
  makes : PySem.W.makesIn K C = true
  init : PySem.W.findIn K (.ref C) "__init__" = some (some (.builtin "object.__init__"))
  kp : PySem.W.keepIn K (.ref C) = true
  top : PySem.W.mroIn K C (.type "object") = some true
def tMk0 (C : Addr) : TE := fun _ H Q => ∀ x dx, H x = none → H dx = none → dx ≠ x → Q (.ref x) (upd (upd H dx (.own x)) x (.ins C dx []))
section
variable {X : Cx} {C : Addr} {x : Str} {p pos : Pos}
theorem run_make0 {pins : List (Addr × Obj)} {σ : L2.St} {H : Hp} {s : Shared} {Q : VK} (M : Mk0 X.K C) (I : Inv X pins σ H s)
    (h : ∀ x dx, H x = none → H dx = none → dx ≠ x → Q (.ref x) (upd (upd H dx (.own x)) x (.ins C dx []))) :
    wpAny (model X.prog X.w) X.A (call (.ref C) []) (EP X pins σ Q) X.xe s := by
  have hq := h (s.heap.objs.size + 1) s.heap.objs.size (I.hok.fresh (Nat.le_succ _)) (I.hok.fresh (Nat.le_refl _)) (Nat.ne_of_lt (Nat.lt_succ_self _))
  have I2 := Inv.made (C := C) I
  have e2 : ((s.heap.push PySem.W.emptyDict).push (PySem.W.instObj C s.heap.objs.size)).get? (s.heap.objs.size + 1) = some (PySem.W.instObj C s.heap.objs.size) := by
    have := Heap.get?_push_size (s.heap.push PySem.W.emptyDict) (o := PySem.W.instObj C s.heap.objs.size) rfl
    rwa [Heap.size_push] at this
  have t1 : PySem.W.Looks (model X.prog X.w) ((s.heap.push PySem.W.emptyDict).push (PySem.W.instObj C s.heap.objs.size)) (typeOf (.ref (s.heap.objs.size + 1))) (.ref C) := NwA.type_at e2 rfl
  have t2 : PySem.W.Looks (model X.prog X.w) ((s.heap.push PySem.W.emptyDict).push (PySem.W.instObj C s.heap.objs.size)) (isInstance (.ref (s.heap.objs.size + 1)) (.type "object")) true := t1.andThen (PySem.W.looks_mroIn I2.kIn M.top)
  refine wpAny_call (make_map0 I.kIn M.makes M.init (fun self => PySem.W.Looks.of_pure (PySem.W.oi_bind _)) ?_)
  refine codeAny_call_builtin PySem.W.oi_plain PySem.W.entry_oi (@PySem.W.check_slot (model X.prog X.w) _ _ _ "object.__init__" "object" "__init__" (.ref (s.heap.objs.size + 1)) [] [] _ PySem.W.oi_kind PySem.W.oi_split t2 (NwA.oi_args_any _ [] []) ?_)
  rw [PySem.W.oi_run]
  exact wpAny_pure ⟨rfl, ⟨V.ref (s.heap.objs.size + 1), _, I2, rfl, hq⟩⟩
theorem pe_make00 (M : Mk0 X.K C) (hg : Gl X x) (hm : X.mg x = some (.ref C)) (hdb : (x == ("__debug__" : Str)) = false := by decide) : PE X (.Call (.Name x p) [] [] pos) (tMk0 C) := by
  refine ⟨fun pins s σ H Q I h => ?_⟩
  refine wpAny_Call_Name_kw (ld_glob I hg hm ?_ hdb)
  exact PySem.W.callWith_K0 I.kIn M.kp (run_make0 M I h)
end
/-! ### o.m(e, ..), o of one of several classes -/
def tMethW (W : Type) (cls : W → Addr) (m : Str) (sp : W → Sp) (E : XK) (ta : TE) (t : TA) : TE := fun σ H Q => ta σ H fun x H1 => ∃ (w : W) (a dx : Addr) (fs : List (Str × V)), x = .ref a ∧ H1 a = some (.ins (cls w) dx fs) ∧ fs.lookup m = none ∧
  t σ H1 fun vs H2 => sp w (x :: vs) H2 Q E
/-- the class of each kind has the method -/
def MethW (prog : Program) (w : World) (K : PySem.W.Frag) (mg : Str → Option Value) (base : Heap) (CX : CXT) (k : Nat) (W : Type) (cls : W → Addr) (m : Str) (sp : W → Sp) : Prop :=
  ∀ i, Cls K (cls i) ∧ ∃ f fd ps, Meth K (cls i) m f ∧ FnOk prog w K mg base CX k f fd ps (sp i) ∧ Binds K fd ps []
section
variable {X : Cx} {CX : CXT} {k : Nat} {W : Type} {cls : W → Addr} {m : Str} {sp : W → Sp} {E : XK} {o e : Expr} {es : List Expr} {ta : TE} {t : TA} {apos pos : Pos}
theorem pe_methW {pl : Sem Bool} (he : PE X o ta) (U : MethW X.prog X.w X.K X.mg X.base CX k W cls m sp) (hr : Room k X.A) (hx : Passes CX X E) (ha : PA X (e :: es) t)
    (hst : starEach (e :: es) X.env = (false, eval e X.env) :: starEach es X.env := by rfl) (hpl : (backTo pos (starEach es X.env)).any (·.1) = false := by rfl)
    (ht : eval (.Call (.Attribute o m apos) (e :: es) [] pos) X.env = (do
      let ov ← eval o X.env
      standAt apos.atName
      let (f, first) ← holding [ov] (getMethod ov m pl)
      callWith pos f first (backTo pos (starEach (e :: es) X.env)) (backToKw pos (keywordEach [] X.env))) := by rfl) :
    PE X (.Call (.Attribute o m apos) (e :: es) [] pos) (tMethW W cls m sp E ta t) := by
  refine ⟨fun pins s σ H Q I h => ?_⟩
  refine PySem.W.methodCall_KW (pl := pl) (thn (he.run pins s σ H _ I h) fun u s1 ⟨x, H1, I1, rx, w, a, dx, fs, ex, ea, l, q⟩ => ?_) ht
  subst ex
  obtain rfl : u = Value.ref a := rx
  obtain ⟨c, f, fd, ps, hm, F, hb⟩ := U w
  refine getmeth_ok I1 ea c hm l ?_
  refine PySem.W.callWith_K (first := [.ref a]) (h₀ := X.base) I.ok.mod.kin hm.kp (thn (ha.run pos pins s1 σ H1 _ I1 q) fun us s2 ⟨vs, H2, I2, r, q2⟩ => ⟨I2.kIn, ?_⟩) hst hpl
  exact run_fn (dvs := []) (ds := []) (us := .ref a :: us) (vs := .ref a :: vs) F hr hb .nil hx I2 (.cons rfl r) (by rw [List.append_nil]; exact q2)
end
/-! ### x <= y, both of one of several classes -/
section
open PySem.W
variable {prog : Program} {w : World} {A : Around} {E : Value → Shared → Prop} {s : Shared} {K : PySem.W.Frag} {x y C C' L f : Addr} {h₀ : Heap} {m : Str → Option Value} {ox oy : Obj} {od od' : Option Obj} {r : Bool}
theorem ge_kind : builtinKind "object.__ge__" = some .slot := by decide +kernel
theorem ge_split : splitId "object.__ge__" = some ("object", "__ge__") := by decide +kernel
theorem ge_args (a b : Value) : argsOk "object.__ge__" ⟨[a, b], []⟩ := by unfold argsOk; kernel_rfl
theorem ge_entry : entryFor table "object.__ge__" = some Builtin.«object.__ge__» := entryFor_of_tree (by kernel_rfl)
theorem ge_plain : plainId "object.__ge__" = true := by decide +kernel
theorem ge_bind (self : Value) : bindSpecial (.builtin "object.__ge__") self = pure (.builtin "object.__ge__", [self]) :=
  (Slot.of (T := "object") (name := "__ge__") (owner := "object") (n := "__ge__") (by rw [typeLookup_type, builtinLookup_eq_fast]; kernel_rfl) (by decide +kernel) (by decide +kernel) (by decide +kernel)
    (.inl (by decide +kernel)) (by rw [isSubtype_type]; kernel_rfl)).bind self
theorem ge_run (a b : Value) : Builtin.«object.__ge__» ⟨[a, b], []⟩ = pure (.done (.ret .notImplemented)) := by kernel_rfl
theorem le_K {Q : Value → Shared → Prop} (hu : A.units < cLine) (F : Fr h₀ L s.heap m) (X₀ : K.In h₀) (I : InstAt s.heap x ox C od) (J : InstAt s.heap y oy C' od') (hn : subIn K (.ref C') (.ref C) = some r)
    (hg : findIn K (.ref C') "__ge__" = some (some (.builtin "object.__ge__"))) (ho : mroIn K C' (.type "object") = some true)
    (hs : findIn K (.ref C) "__le__" = some (some (.ref f))) (hf : isFn K (.ref f) = true)
    (h : wpAny (model prog w) A (call (.ref f) [.ref x, .ref y]) (PySem.W.CmpBack Q) E s) : wpAny (model prog w) A (richCompare .LtE (.ref x) (.ref y)) Q E s := by
  have X := X₀.keeps F.keep
  have one : wpAny (model prog w) A (tryCompare (.ref x) "__le__" (.ref y)) (fun r s' => ∃ v, r = some v ∧ Q v s') E s := by
    unfold tryCompare
    refine wpAny_bind (ifBound_K X I hs hf (wpAny_mono h (fun v s' hv => ?_) fun _ _ e => e))
    cases v <;> first | exact hv.elim | exact wpAny_pure ⟨_, rfl, hv⟩
  have sub : Looks (model prog w) s.heap (isInstance (.ref y) (.type "object")) true := J.type.andThen (looks_mroIn X ho)
  have two : ∀ P : Option Value → Shared → Prop, P none s → wpAny (model prog w) A (tryCompare (.ref y) "__ge__" (.ref x)) P E s := fun P hp => by
    unfold tryCompare
    refine wpAny_bind (ifBound_B X J hg ge_bind ?_)
    refine wpAny_call (codeAny_call_builtin ge_plain ge_entry (@check_slot (model prog w) _ _ s "object.__ge__" "object" "__ge__" (.ref y) [.ref x] [] _ ge_kind ge_split sub (ge_args _ _) ?_))
    rw [ge_run]
    exact wpAny_pure (wpAny_pure hp)
  unfold richCompare
  simp only [oneThing_ref]
  refine wpAny_holding (wpAny_bind (wpAny_cRoomFor hu ?_))
  refine wpAny_bind (I.type.here (wpAny_bind (J.type.here ?_)))
  split
  · refine wpAny_bind ((looks_subIn X hn).here ?_)
    cases r with
    | false =>
      simp only [Bool.false_eq_true, if_false]
      refine wpAny_bind (wpAny_mono one (fun r s' z => ?_) fun _ _ e => e)
      obtain ⟨v, rfl, hq⟩ := z
      exact wpAny_pure hq
    | true =>
      simp only [if_true]
      refine wpAny_bind (two _ ?_)
      refine wpAny_bind (wpAny_mono one (fun r s' z => ?_) fun _ _ e => e)
      obtain ⟨v, rfl, hq⟩ := z
      exact wpAny_pure hq
  · refine wpAny_bind (wpAny_pure ?_)
    simp only [Bool.false_eq_true, if_false]
    refine wpAny_bind (wpAny_mono one (fun r s' z => ?_) fun _ _ e => e)
    obtain ⟨v, rfl, hq⟩ := z
    exact wpAny_pure hq
end
/-- what the classes must have for x <= y -/
def LeW (prog : Program) (w : World) (K : PySem.W.Frag) (mg : Str → Option Value) (base : Heap) (CX : CXT) (k : Nat) (W : Type) (cls : W → Addr) (sp : W → Sp) : Prop :=
  (∀ i, PySem.W.findIn K (.ref (cls i)) "__ge__" = some (some (.builtin "object.__ge__")) ∧ PySem.W.mroIn K (cls i) (.type "object") = some true ∧
    ∃ f fd ps, PySem.W.findIn K (.ref (cls i)) "__le__" = some (some (.ref f)) ∧ PySem.W.isFn K (.ref f) = true ∧ FnOk prog w K mg base CX k f fd ps (sp i) ∧ Binds K fd ps []) ∧
  ∀ i j, ∃ r, PySem.W.subIn K (.ref (cls j)) (.ref (cls i)) = some r
def rLeW (W : Type) (cls : W → Addr) (sp : W → Sp) (E : XK) : R2 := fun x y H Q => ∃ (i j : W) (a dx : Addr) (fs : List (Str × V)) (b dy : Addr) (gs : List (Str × V)), x = .ref a ∧ y = .ref b ∧ H a = some (.ins (cls i) dx fs) ∧ H b = some (.ins (cls j) dy gs) ∧
  sp i [x, y] H (fun v H' => ∃ c, v = .bl c ∧ Q (.bl c) H') E
theorem op_leW {X : Cx} {CX : CXT} {k : Nat} {W : Type} {cls : W → Addr} {sp : W → Sp} {E : XK} (U : LeW X.prog X.w X.K X.mg X.base CX k W cls sp) (hr : Room k X.A) (hx : Passes CX X E) : OpR X (compareOp .LtE) (rLeW W cls sp E) := by
  intro pins s σ H x y v u Q I rx ry h
  obtain ⟨i, j, a, dx, fs, b, dy, gs, rfl, rfl, ha, hb2, q⟩ := h
  cases (show v = Value.ref a from rx)
  cases (show u = Value.ref b from ry)
  obtain ⟨mA, O, _⟩ := ins_get I.hok ha
  obtain ⟨od, J, _⟩ := O.look
  obtain ⟨mA', O', _⟩ := ins_get I.hok hb2
  obtain ⟨od', J', _⟩ := O'.look
  obtain ⟨m, hF⟩ := I.fr
  obtain ⟨_, _, f, fd, ps, hl, hf, F, hb⟩ := U.1 i
  obtain ⟨hg, ho, _⟩ := U.1 j
  obtain ⟨r, hs⟩ := U.2 i j
  show wpAny _ _ (richCompare .LtE (.ref a) (.ref b)) _ _ _
  refine le_K hr.units0 hF I.ok.mod.kin J J' hs hg ho hl hf ?_
  refine wpAny_mono (run_fn (dvs := []) (ds := []) (us := [.ref a, .ref b]) (vs := [.ref a, .ref b]) F hr hb .nil hx I (.cons rfl (.cons rfl .nil)) q) (fun w s' z => ?_) fun _ _ x => x
  obtain ⟨z', H', I', rz, c, ez, qz⟩ := z
  subst ez
  cases (show w = Value.bool c from rz)
  exact ⟨.bl c, H', I', rfl, qz⟩
theorem pe_conK {X : Cx} {K : PySem.W.Frag} {e : Expr} {f : Str} {pos : Pos} {ta : TE} (h : X.K = K) (he : PE X e ta) (hb : attributeBase e f X.env (eval e X.env) = eval e X.env) : PE X (.Attribute e f pos) (tCon K ta f) := by subst h; exact pe_con he hb
end D

namespace D
open PySem PySem.Spec PyProof.Rows L2
local macro_rules | `(tactic| walk_at "st") => `(tactic| first | exact SqT.of (by assumption) | exact Or.inl (by assumption) | exact SqT.of upd_same | fail "st")
local macro_rules | `(tactic| walk_at "ixt") => `(tactic| refine ⟨_, _, _, _, rfl, rfl, (by walk_at "st" : SqT _ _ _ _), by rfl, ?_⟩)
local macro_rules | `(tactic| walk_at "sq") => `(tactic| first | exact SqL.of (by assumption) | assumption | exact Or.inl (by assumption) | exact SqL.of upd_same | fail "sq")
local macro_rules | `(tactic| walk_at "ix") => `(tactic| refine ⟨_, _, _, _, rfl, rfl, (by walk_at "sq" : SqL _ _ _ _), by rfl, ?_⟩)
local macro_rules | `(tactic| walk_at "set") => `(tactic| refine ⟨_, _, _, _, rfl, rfl, by first | assumption | exact upd_same, by rfl, ?_⟩)
local macro_rules | `(tactic| walk_at "len") => `(tactic| refine ⟨_, _, rfl, Or.inl (by walk_at "sq" : SqL _ _ _ _), ?_⟩)
local macro_rules | `(tactic| walk_at "g") => `(tactic| repeat (first | refine ⟨_, rfl, ?_⟩ | refine ⟨_, _, rfl, rfl, ?_⟩ | refine ⟨Or.inr (by decide), ?_⟩ | refine ⟨Or.inl (by decide), ?_⟩ | refine ⟨(by decide : (0 : Int) < _), ?_⟩ | refine ⟨(⟨by decide, by decide⟩ : CDiv _ _), ?_⟩ | refine ⟨(⟨by decide, by decide, by decide⟩ : CPow _ _), ?_⟩ | refine Or.inl ⟨_, rfl, ?_⟩ | refine ⟨rfl, ?_⟩ | walk_at "ix" | walk_at "ixt" | walk_at "len" | fail "g"))
local macro_rules | `(tactic| walk_at "if") => `(tactic| refine ite2 (fun e => ?_) (fun e => ?_))
def topS (i : Nat) : Stmt := PySem.Challenge.pw_drawnanew_k45_fences_let.main.body.getD i (.Pass ⟨0, 0, 0, 0⟩)
abbrev s__wall : Stmt := topS 0
theorem sc__wall : FnScope ["k"] ["k"] (defScope s__wall) := ⟨rfl, rfl, rfl, by decide +kernel, rfl, by decide +kernel, by decide +kernel⟩
abbrev s_BadFence___init__ : Stmt := inClass (topS 3) 0
theorem sc_BadFence___init__ : FnScope ["self", "fence"] ["self", "fence"] (defScope s_BadFence___init__) := ⟨rfl, rfl, rfl, by decide +kernel, rfl, by decide +kernel, by decide +kernel⟩
abbrev s_NoAnswer___init__ : Stmt := inClass (topS 4) 0
theorem sc_NoAnswer___init__ : FnScope ["self", "number"] ["self", "number"] (defScope s_NoAnswer___init__) := ⟨rfl, rfl, rfl, by decide +kernel, rfl, by decide +kernel, by decide +kernel⟩
abbrev s_Entry___init__ : Stmt := inClass (topS 7) 0
theorem sc_Entry___init__ : FnScope ["self", "owner", "word", "who", "ticket", "question", "answer"] ["self", "owner", "word", "who", "ticket", "question", "answer"] (defScope s_Entry___init__) := ⟨rfl, rfl, rfl, by decide +kernel, rfl, by decide +kernel, by decide +kernel⟩
abbrev s_Line___init__ : Stmt := inClass (topS 8) 0
theorem sc_Line___init__ : FnScope ["self", "far", "room"] ["self", "far", "room"] (defScope s_Line___init__) := ⟨rfl, rfl, rfl, by decide +kernel, rfl, by decide +kernel, by decide +kernel⟩
abbrev s_Line_edition : Stmt := inClass (topS 8) 1
theorem sc_Line_edition : FnScope ["self"] ["self"] (defScope s_Line_edition) := ⟨rfl, rfl, rfl, by decide +kernel, rfl, by decide +kernel, by decide +kernel⟩
abbrev s_Line_send : Stmt := inClass (topS 8) 2
theorem sc_Line_send : FnScope ["self", "owner", "word", "who", "question", "entry"] ["self", "owner", "word", "who", "question"] (defScope s_Line_send) := ⟨rfl, rfl, rfl, by decide +kernel, rfl, by decide +kernel, by decide +kernel⟩
abbrev s_Line_take : Stmt := inClass (topS 8) 3
theorem sc_Line_take : FnScope ["self", "number"] ["self", "number"] (defScope s_Line_take) := ⟨rfl, rfl, rfl, by decide +kernel, rfl, by decide +kernel, by decide +kernel⟩
abbrev s_Line_entries : Stmt := inClass (topS 8) 4
theorem sc_Line_entries : FnScope ["self"] ["self"] (defScope s_Line_entries) := ⟨rfl, rfl, rfl, by decide +kernel, rfl, by decide +kernel, by decide +kernel⟩
abbrev s_Line_turn : Stmt := inClass (topS 8) 5
theorem sc_Line_turn : FnScope ["self"] ["self"] (defScope s_Line_turn) := ⟨rfl, rfl, rfl, by decide +kernel, rfl, by decide +kernel, by decide +kernel⟩
abbrev s_Line_has_next : Stmt := inClass (topS 8) 6
theorem sc_Line_has_next : FnScope ["self"] ["self"] (defScope s_Line_has_next) := ⟨rfl, rfl, rfl, by decide +kernel, rfl, by decide +kernel, by decide +kernel⟩
abbrev s_Line_copy : Stmt := inClass (topS 8) 7
theorem sc_Line_copy : FnScope ["self"] ["self"] (defScope s_Line_copy) := ⟨rfl, rfl, rfl, by decide +kernel, rfl, by decide +kernel, by decide +kernel⟩
abbrev s__reads_no_less : Stmt := topS 9
theorem sc__reads_no_less : FnScope ["first", "second", "word"] ["first", "second"] (defScope s__reads_no_less) := ⟨rfl, rfl, rfl, by decide +kernel, rfl, by decide +kernel, by decide +kernel⟩
abbrev s_Fence_lets : Stmt := inClass (topS 10) 1
theorem sc_Fence_lets : FnScope ["self", "entry", "who", "question", "ticket"] ["self", "entry", "who", "question", "ticket"] (defScope s_Fence_lets) := ⟨rfl, rfl, rfl, by decide +kernel, rfl, by decide +kernel, by decide +kernel⟩
abbrev s_Fence___le__ : Stmt := inClass (topS 10) 2
theorem sc_Fence___le__ : FnScope ["self", "other"] ["self", "other"] (defScope s_Fence___le__) := ⟨rfl, rfl, rfl, by decide +kernel, rfl, by decide +kernel, by decide +kernel⟩
abbrev s_Own_lets : Stmt := inClass (topS 11) 1
theorem sc_Own_lets : FnScope ["self", "entry", "who", "question", "ticket"] ["self", "entry", "who", "question", "ticket"] (defScope s_Own_lets) := ⟨rfl, rfl, rfl, by decide +kernel, rfl, by decide +kernel, by decide +kernel⟩
abbrev s_Own___le__ : Stmt := inClass (topS 11) 2
theorem sc_Own___le__ : FnScope ["self", "other"] ["self", "other"] (defScope s_Own___le__) := ⟨rfl, rfl, rfl, by decide +kernel, rfl, by decide +kernel, by decide +kernel⟩
abbrev s_Same_lets : Stmt := inClass (topS 12) 1
theorem sc_Same_lets : FnScope ["self", "entry", "who", "question", "ticket"] ["self", "entry", "who", "question", "ticket"] (defScope s_Same_lets) := ⟨rfl, rfl, rfl, by decide +kernel, rfl, by decide +kernel, by decide +kernel⟩
abbrev s_Same___le__ : Stmt := inClass (topS 12) 2
theorem sc_Same___le__ : FnScope ["self", "other"] ["self", "other"] (defScope s_Same___le__) := ⟨rfl, rfl, rfl, by decide +kernel, rfl, by decide +kernel, by decide +kernel⟩
abbrev s_Both_lets : Stmt := inClass (topS 13) 1
theorem sc_Both_lets : FnScope ["self", "entry", "who", "question", "ticket"] ["self", "entry", "who", "question", "ticket"] (defScope s_Both_lets) := ⟨rfl, rfl, rfl, by decide +kernel, rfl, by decide +kernel, by decide +kernel⟩
abbrev s_Both___le__ : Stmt := inClass (topS 13) 2
theorem sc_Both___le__ : FnScope ["self", "other"] ["self", "other"] (defScope s_Both___le__) := ⟨rfl, rfl, rfl, by decide +kernel, rfl, by decide +kernel, by decide +kernel⟩
abbrev s_Last_lets : Stmt := inClass (topS 14) 1
theorem sc_Last_lets : FnScope ["self", "entry", "who", "question", "ticket"] ["self", "entry", "who", "question", "ticket"] (defScope s_Last_lets) := ⟨rfl, rfl, rfl, by decide +kernel, rfl, by decide +kernel, by decide +kernel⟩
abbrev s_Last___le__ : Stmt := inClass (topS 14) 2
theorem sc_Last___le__ : FnScope ["self", "other"] ["self", "other"] (defScope s_Last___le__) := ⟨rfl, rfl, rfl, by decide +kernel, rfl, by decide +kernel, by decide +kernel⟩
abbrev s_fence_of : Stmt := topS 15
theorem sc_fence_of : FnScope ["word"] ["word"] (defScope s_fence_of) := ⟨rfl, rfl, rfl, by decide +kernel, rfl, by decide +kernel, by decide +kernel⟩
abbrev s__law_mixed : Stmt := topS 17
theorem sc__law_mixed : FnScope ["_law_number", "_law_turn", "_law_first", "_law_second"] ["_law_number", "_law_turn"] (defScope s__law_mixed) := ⟨rfl, rfl, rfl, by decide +kernel, rfl, by decide +kernel, by decide +kernel⟩
abbrev s__law_bag : Stmt := topS 18
theorem sc__law_bag : FnScope ["_law_script", "_law_cell", "_law_numbers", "_law_seed", "_law_at"] ["_law_script"] (defScope s__law_bag) := ⟨rfl, rfl, rfl, by decide +kernel, rfl, by decide +kernel, by decide +kernel⟩
abbrev s__law_pick : Stmt := topS 19
theorem sc__law_pick : FnScope ["_law_bag_here", "_law_many", "_law_turn", "_law_cell", "_law_worth"] ["_law_bag_here", "_law_many"] (defScope s__law_pick) := ⟨rfl, rfl, rfl, by decide +kernel, rfl, by decide +kernel, by decide +kernel⟩
abbrev s__law_mingled : Stmt := topS 20
theorem sc__law_mingled : FnScope ["_law_bag_here", "_law_things", "_law_left", "_law_out", "_law_step"] ["_law_bag_here", "_law_things"] (defScope s__law_mingled) := ⟨rfl, rfl, rfl, by decide +kernel, rfl, by decide +kernel, by decide +kernel⟩
abbrev s__law_new_name : Stmt := topS 21
theorem sc__law_new_name : FnScope ["_law_bag_here", "_law_used", "_law_letters", "_law_told", "_law_near", "_law_at", "_law_tails", "_law_step", "_law_k", "_law_tail"] ["_law_bag_here", "_law_used"] (defScope s__law_new_name) := ⟨rfl, rfl, rfl, by decide +kernel, rfl, by decide +kernel, by decide +kernel⟩
abbrev s__law_words : Stmt := topS 22
theorem sc__law_words : FnScope [] [] (defScope s__law_words) := ⟨rfl, rfl, rfl, by decide +kernel, rfl, by decide +kernel, by decide +kernel⟩
abbrev s__law_lets : Stmt := topS 23
theorem sc__law_lets : FnScope ["_law_word", "_law_own", "_law_same", "_law_last"] ["_law_word", "_law_own", "_law_same", "_law_last"] (defScope s__law_lets) := ⟨rfl, rfl, rfl, by decide +kernel, rfl, by decide +kernel, by decide +kernel⟩
abbrev s__law_cases : Stmt := topS 24
theorem sc__law_cases : FnScope ["_law_out", "_law_own", "_law_same", "_law_last"] [] (defScope s__law_cases) := ⟨rfl, rfl, rfl, by decide +kernel, rfl, by decide +kernel, by decide +kernel⟩
abbrev s__law_at_most : Stmt := topS 25
theorem sc__law_at_most : FnScope ["_law_first", "_law_second", "_law_own", "_law_same", "_law_last"] ["_law_first", "_law_second"] (defScope s__law_at_most) := ⟨rfl, rfl, rfl, by decide +kernel, rfl, by decide +kernel, by decide +kernel⟩
abbrev s__law_truth : Stmt := topS 26
theorem sc__law_truth : FnScope ["_law_told", "_law_due"] ["_law_told", "_law_due"] (defScope s__law_truth) := ⟨rfl, rfl, rfl, by decide +kernel, rfl, by decide +kernel, by decide +kernel⟩
abbrev s__law_any_number : Stmt := topS 27
theorem sc__law_any_number : FnScope ["_law_bag_here"] ["_law_bag_here"] (defScope s__law_any_number) := ⟨rfl, rfl, rfl, by decide +kernel, rfl, by decide +kernel, by decide +kernel⟩
abbrev s__law_other : Stmt := topS 28
theorem sc__law_other : FnScope ["_law_bag_here", "_law_number"] ["_law_bag_here", "_law_number"] (defScope s__law_other) := ⟨rfl, rfl, rfl, by decide +kernel, rfl, by decide +kernel, by decide +kernel⟩
abbrev s__law_entry : Stmt := topS 29
theorem sc__law_entry : FnScope ["_law_bag_here", "_law_row", "_law_line", "_law_entry_here", "_law_step"] ["_law_bag_here", "_law_row"] (defScope s__law_entry) := ⟨rfl, rfl, rfl, by decide +kernel, rfl, by decide +kernel, by decide +kernel⟩
abbrev s__law_fields : Stmt := topS 30
theorem sc__law_fields : FnScope ["_law_entry_here"] ["_law_entry_here"] (defScope s__law_fields) := ⟨rfl, rfl, rfl, by decide +kernel, rfl, by decide +kernel, by decide +kernel⟩
abbrev s__law_asked : Stmt := topS 31
theorem sc__law_asked : FnScope ["_law_bag_here", "_law_fences", "_law_entry_here", "_law_row", "_law_own", "_law_same", "_law_last", "_law_who", "_law_question", "_law_ticket", "_law_word", "_law_fence", "_law_due"] ["_law_bag_here", "_law_fences", "_law_entry_here", "_law_row"] (defScope s__law_asked) := ⟨rfl, rfl, rfl, by decide +kernel, rfl, by decide +kernel, by decide +kernel⟩
abbrev s__law_classes : Stmt := topS 32
theorem sc__law_classes : FnScope ["_law_fences", "_law_word", "_law_fence"] ["_law_fences"] (defScope s__law_classes) := ⟨rfl, rfl, rfl, by decide +kernel, rfl, by decide +kernel, by decide +kernel⟩
abbrev s__law_none : Stmt := topS 33
theorem sc__law_none : FnScope ["_law_bag_here", "_law_letters", "_law_word", "_law_at", "_law_sign", "_law_way"] ["_law_bag_here"] (defScope s__law_none) := ⟨rfl, rfl, rfl, by decide +kernel, rfl, by decide +kernel, by decide +kernel⟩
abbrev s__law_refused : Stmt := topS 34
theorem sc__law_refused : FnScope ["_law_word", "error"] ["_law_word"] (defScope s__law_refused) := ⟨rfl, rfl, rfl, by decide +kernel, rfl, by decide +kernel, by decide +kernel⟩
abbrev s_law : Stmt := topS 35
theorem sc_law : FnScope ["_law_script", "_law_bag_here", "_law_made", "_law_word", "_law_turn", "_law_path", "_law_row", "_law_entry_here", "_law_first", "_law_one", "_law_second", "_law_two", "_law_step"] ["_law_script"] (defScope s_law) := ⟨rfl, rfl, rfl, by decide +kernel, rfl, by decide +kernel, by decide +kernel⟩

structure Txt (K : PySem.W.Frag) (mg : Str → Option Value) where
  f__wall : Addr
  d__wall : FuncData
  F__wall : Fun K "_wall" "_wall" s__wall f__wall d__wall
  b__wall : Binds K d__wall ["k"] []
  g__wall : mg "_wall" = some (.ref f__wall)
  f__reads_no_less : Addr
  d__reads_no_less : FuncData
  F__reads_no_less : Fun K "_reads_no_less" "_reads_no_less" s__reads_no_less f__reads_no_less d__reads_no_less
  b__reads_no_less : Binds K d__reads_no_less ["first", "second"] []
  g__reads_no_less : mg "_reads_no_less" = some (.ref f__reads_no_less)
  f_fence_of : Addr
  d_fence_of : FuncData
  F_fence_of : Fun K "fence_of" "fence_of" s_fence_of f_fence_of d_fence_of
  b_fence_of : Binds K d_fence_of ["word"] []
  g_fence_of : mg "fence_of" = some (.ref f_fence_of)
  f__law_mixed : Addr
  d__law_mixed : FuncData
  F__law_mixed : Fun K "_law_mixed" "_law_mixed" s__law_mixed f__law_mixed d__law_mixed
  b__law_mixed : Binds K d__law_mixed ["_law_number", "_law_turn"] []
  g__law_mixed : mg "_law_mixed" = some (.ref f__law_mixed)
  f__law_bag : Addr
  d__law_bag : FuncData
  F__law_bag : Fun K "_law_bag" "_law_bag" s__law_bag f__law_bag d__law_bag
  b__law_bag : Binds K d__law_bag ["_law_script"] []
  g__law_bag : mg "_law_bag" = some (.ref f__law_bag)
  f__law_pick : Addr
  d__law_pick : FuncData
  F__law_pick : Fun K "_law_pick" "_law_pick" s__law_pick f__law_pick d__law_pick
  b__law_pick : Binds K d__law_pick ["_law_bag_here", "_law_many"] []
  g__law_pick : mg "_law_pick" = some (.ref f__law_pick)
  f__law_mingled : Addr
  d__law_mingled : FuncData
  F__law_mingled : Fun K "_law_mingled" "_law_mingled" s__law_mingled f__law_mingled d__law_mingled
  b__law_mingled : Binds K d__law_mingled ["_law_bag_here", "_law_things"] []
  g__law_mingled : mg "_law_mingled" = some (.ref f__law_mingled)
  f__law_new_name : Addr
  d__law_new_name : FuncData
  F__law_new_name : Fun K "_law_new_name" "_law_new_name" s__law_new_name f__law_new_name d__law_new_name
  b__law_new_name : Binds K d__law_new_name ["_law_bag_here", "_law_used"] []
  g__law_new_name : mg "_law_new_name" = some (.ref f__law_new_name)
  f__law_words : Addr
  d__law_words : FuncData
  F__law_words : Fun K "_law_words" "_law_words" s__law_words f__law_words d__law_words
  b__law_words : Binds K d__law_words [] []
  g__law_words : mg "_law_words" = some (.ref f__law_words)
  f__law_lets : Addr
  d__law_lets : FuncData
  F__law_lets : Fun K "_law_lets" "_law_lets" s__law_lets f__law_lets d__law_lets
  b__law_lets : Binds K d__law_lets ["_law_word", "_law_own", "_law_same", "_law_last"] []
  g__law_lets : mg "_law_lets" = some (.ref f__law_lets)
  f__law_cases : Addr
  d__law_cases : FuncData
  F__law_cases : Fun K "_law_cases" "_law_cases" s__law_cases f__law_cases d__law_cases
  b__law_cases : Binds K d__law_cases [] []
  g__law_cases : mg "_law_cases" = some (.ref f__law_cases)
  f__law_at_most : Addr
  d__law_at_most : FuncData
  F__law_at_most : Fun K "_law_at_most" "_law_at_most" s__law_at_most f__law_at_most d__law_at_most
  b__law_at_most : Binds K d__law_at_most ["_law_first", "_law_second"] []
  g__law_at_most : mg "_law_at_most" = some (.ref f__law_at_most)
  f__law_truth : Addr
  d__law_truth : FuncData
  F__law_truth : Fun K "_law_truth" "_law_truth" s__law_truth f__law_truth d__law_truth
  b__law_truth : Binds K d__law_truth ["_law_told", "_law_due"] []
  g__law_truth : mg "_law_truth" = some (.ref f__law_truth)
  f__law_any_number : Addr
  d__law_any_number : FuncData
  F__law_any_number : Fun K "_law_any_number" "_law_any_number" s__law_any_number f__law_any_number d__law_any_number
  b__law_any_number : Binds K d__law_any_number ["_law_bag_here"] []
  g__law_any_number : mg "_law_any_number" = some (.ref f__law_any_number)
  f__law_other : Addr
  d__law_other : FuncData
  F__law_other : Fun K "_law_other" "_law_other" s__law_other f__law_other d__law_other
  b__law_other : Binds K d__law_other ["_law_bag_here", "_law_number"] []
  g__law_other : mg "_law_other" = some (.ref f__law_other)
  f__law_entry : Addr
  d__law_entry : FuncData
  F__law_entry : Fun K "_law_entry" "_law_entry" s__law_entry f__law_entry d__law_entry
  b__law_entry : Binds K d__law_entry ["_law_bag_here", "_law_row"] []
  g__law_entry : mg "_law_entry" = some (.ref f__law_entry)
  f__law_fields : Addr
  d__law_fields : FuncData
  F__law_fields : Fun K "_law_fields" "_law_fields" s__law_fields f__law_fields d__law_fields
  b__law_fields : Binds K d__law_fields ["_law_entry_here"] []
  g__law_fields : mg "_law_fields" = some (.ref f__law_fields)
  f__law_asked : Addr
  d__law_asked : FuncData
  F__law_asked : Fun K "_law_asked" "_law_asked" s__law_asked f__law_asked d__law_asked
  b__law_asked : Binds K d__law_asked ["_law_bag_here", "_law_fences", "_law_entry_here", "_law_row"] []
  g__law_asked : mg "_law_asked" = some (.ref f__law_asked)
  f__law_classes : Addr
  d__law_classes : FuncData
  F__law_classes : Fun K "_law_classes" "_law_classes" s__law_classes f__law_classes d__law_classes
  b__law_classes : Binds K d__law_classes ["_law_fences"] []
  g__law_classes : mg "_law_classes" = some (.ref f__law_classes)
  f__law_none : Addr
  d__law_none : FuncData
  F__law_none : Fun K "_law_none" "_law_none" s__law_none f__law_none d__law_none
  b__law_none : Binds K d__law_none ["_law_bag_here"] []
  g__law_none : mg "_law_none" = some (.ref f__law_none)
  f__law_refused : Addr
  d__law_refused : FuncData
  F__law_refused : Fun K "_law_refused" "_law_refused" s__law_refused f__law_refused d__law_refused
  b__law_refused : Binds K d__law_refused ["_law_word"] []
  g__law_refused : mg "_law_refused" = some (.ref f__law_refused)
  f_law : Addr
  d_law : FuncData
  F_law : Fun K "law" "law" s_law f_law d_law
  b_law : Binds K d_law ["_law_script"] []
  g_law : mg "law" = some (.ref f_law)
  C_Entry : Addr
  g_Entry : mg "Entry" = some (.ref C_Entry)
  cl_Entry : Cls K C_Entry
  mk_Entry : PySem.W.makesIn K C_Entry = true
  kc_Entry : PySem.W.keepIn K (.ref C_Entry) = true
  nf_Entry : PySem.W.notFirst K C_Entry (.ref C_Entry) = true
  in_Entry : C8.InsC K C_Entry
  nA_Entry_answer : NoAttr K C_Entry "answer"
  nA_Entry_owner : NoAttr K C_Entry "owner"
  nA_Entry_question : NoAttr K C_Entry "question"
  nA_Entry_ticket : NoAttr K C_Entry "ticket"
  nA_Entry_who : NoAttr K C_Entry "who"
  nA_Entry_word : NoAttr K C_Entry "word"
  f_Entry___init__ : Addr
  d_Entry___init__ : FuncData
  F_Entry___init__ : Fun K "__init__" "Entry.__init__" s_Entry___init__ f_Entry___init__ d_Entry___init__
  b_Entry___init__ : Binds K d_Entry___init__ ["self", "owner", "word", "who", "ticket", "question", "answer"] []
  a_Entry___init__ : PySem.W.findIn K (.ref C_Entry) "__init__" = some (some (.ref f_Entry___init__))
  i_Entry___init__ : PySem.W.isFn K (.ref f_Entry___init__) = true
  n_Entry___init__ : PySem.W.fnIn K f_Entry___init__ = true
  C_Line : Addr
  g_Line : mg "Line" = some (.ref C_Line)
  cl_Line : Cls K C_Line
  mk_Line : PySem.W.makesIn K C_Line = true
  kc_Line : PySem.W.keepIn K (.ref C_Line) = true
  nf_Line : PySem.W.notFirst K C_Line (.ref C_Line) = true
  in_Line : C8.InsC K C_Line
  nA_Line__edition : NoAttr K C_Line "_edition"
  nA_Line__entries : NoAttr K C_Line "_entries"
  nA_Line__far : NoAttr K C_Line "_far"
  nA_Line__room : NoAttr K C_Line "_room"
  nA_Line__tickets : NoAttr K C_Line "_tickets"
  f_Line___init__ : Addr
  d_Line___init__ : FuncData
  F_Line___init__ : Fun K "__init__" "Line.__init__" s_Line___init__ f_Line___init__ d_Line___init__
  b_Line___init__ : Binds K d_Line___init__ ["self", "far", "room"] []
  a_Line___init__ : PySem.W.findIn K (.ref C_Line) "__init__" = some (some (.ref f_Line___init__))
  i_Line___init__ : PySem.W.isFn K (.ref f_Line___init__) = true
  n_Line___init__ : PySem.W.fnIn K f_Line___init__ = true
  f_Line_edition : Addr
  d_Line_edition : FuncData
  F_Line_edition : Fun K "edition" "Line.edition" s_Line_edition f_Line_edition d_Line_edition
  b_Line_edition : Binds K d_Line_edition ["self"] []
  p_Line_edition : Addr
  P_Line_edition : PropOf K C_Line "edition" p_Line_edition f_Line_edition
  f_Line_send : Addr
  d_Line_send : FuncData
  F_Line_send : Fun K "send" "Line.send" s_Line_send f_Line_send d_Line_send
  b_Line_send : Binds K d_Line_send ["self", "owner", "word", "who", "question"] []
  a_Line_send : PySem.W.findIn K (.ref C_Line) "send" = some (some (.ref f_Line_send))
  i_Line_send : PySem.W.isFn K (.ref f_Line_send) = true
  n_Line_send : PySem.W.fnIn K f_Line_send = true
  f_Line_take : Addr
  d_Line_take : FuncData
  F_Line_take : Fun K "take" "Line.take" s_Line_take f_Line_take d_Line_take
  b_Line_take : Binds K d_Line_take ["self", "number"] []
  a_Line_take : PySem.W.findIn K (.ref C_Line) "take" = some (some (.ref f_Line_take))
  i_Line_take : PySem.W.isFn K (.ref f_Line_take) = true
  n_Line_take : PySem.W.fnIn K f_Line_take = true
  f_Line_entries : Addr
  d_Line_entries : FuncData
  F_Line_entries : Fun K "entries" "Line.entries" s_Line_entries f_Line_entries d_Line_entries
  b_Line_entries : Binds K d_Line_entries ["self"] []
  a_Line_entries : PySem.W.findIn K (.ref C_Line) "entries" = some (some (.ref f_Line_entries))
  i_Line_entries : PySem.W.isFn K (.ref f_Line_entries) = true
  n_Line_entries : PySem.W.fnIn K f_Line_entries = true
  f_Line_turn : Addr
  d_Line_turn : FuncData
  F_Line_turn : Fun K "turn" "Line.turn" s_Line_turn f_Line_turn d_Line_turn
  b_Line_turn : Binds K d_Line_turn ["self"] []
  a_Line_turn : PySem.W.findIn K (.ref C_Line) "turn" = some (some (.ref f_Line_turn))
  i_Line_turn : PySem.W.isFn K (.ref f_Line_turn) = true
  n_Line_turn : PySem.W.fnIn K f_Line_turn = true
  f_Line_has_next : Addr
  d_Line_has_next : FuncData
  F_Line_has_next : Fun K "has_next" "Line.has_next" s_Line_has_next f_Line_has_next d_Line_has_next
  b_Line_has_next : Binds K d_Line_has_next ["self"] []
  a_Line_has_next : PySem.W.findIn K (.ref C_Line) "has_next" = some (some (.ref f_Line_has_next))
  i_Line_has_next : PySem.W.isFn K (.ref f_Line_has_next) = true
  n_Line_has_next : PySem.W.fnIn K f_Line_has_next = true
  f_Line_copy : Addr
  d_Line_copy : FuncData
  F_Line_copy : Fun K "copy" "Line.copy" s_Line_copy f_Line_copy d_Line_copy
  b_Line_copy : Binds K d_Line_copy ["self"] []
  a_Line_copy : PySem.W.findIn K (.ref C_Line) "copy" = some (some (.ref f_Line_copy))
  i_Line_copy : PySem.W.isFn K (.ref f_Line_copy) = true
  n_Line_copy : PySem.W.fnIn K f_Line_copy = true
  C_Fence : Addr
  g_Fence : mg "Fence" = some (.ref C_Fence)
  cl_Fence : Cls K C_Fence
  mk_Fence : PySem.W.makesIn K C_Fence = true
  kc_Fence : PySem.W.keepIn K (.ref C_Fence) = true
  nf_Fence : PySem.W.notFirst K C_Fence (.ref C_Fence) = true
  in_Fence : C8.InsC K C_Fence
  m0_Fence : Mk0 K C_Fence
  ge_Fence : PySem.W.findIn K (.ref C_Fence) "__ge__" = some (some (.builtin "object.__ge__"))
  f_Fence_lets : Addr
  d_Fence_lets : FuncData
  F_Fence_lets : Fun K "lets" "Fence.lets" s_Fence_lets f_Fence_lets d_Fence_lets
  b_Fence_lets : Binds K d_Fence_lets ["self", "entry", "who", "question", "ticket"] []
  a_Fence_lets : PySem.W.findIn K (.ref C_Fence) "lets" = some (some (.ref f_Fence_lets))
  i_Fence_lets : PySem.W.isFn K (.ref f_Fence_lets) = true
  n_Fence_lets : PySem.W.fnIn K f_Fence_lets = true
  f_Fence___le__ : Addr
  d_Fence___le__ : FuncData
  F_Fence___le__ : Fun K "__le__" "Fence.__le__" s_Fence___le__ f_Fence___le__ d_Fence___le__
  b_Fence___le__ : Binds K d_Fence___le__ ["self", "other"] []
  a_Fence___le__ : PySem.W.findIn K (.ref C_Fence) "__le__" = some (some (.ref f_Fence___le__))
  i_Fence___le__ : PySem.W.isFn K (.ref f_Fence___le__) = true
  n_Fence___le__ : PySem.W.fnIn K f_Fence___le__ = true
  C_Own : Addr
  g_Own : mg "Own" = some (.ref C_Own)
  cl_Own : Cls K C_Own
  mk_Own : PySem.W.makesIn K C_Own = true
  kc_Own : PySem.W.keepIn K (.ref C_Own) = true
  nf_Own : PySem.W.notFirst K C_Own (.ref C_Own) = true
  in_Own : C8.InsC K C_Own
  m0_Own : Mk0 K C_Own
  ge_Own : PySem.W.findIn K (.ref C_Own) "__ge__" = some (some (.builtin "object.__ge__"))
  f_Own_lets : Addr
  d_Own_lets : FuncData
  F_Own_lets : Fun K "lets" "Own.lets" s_Own_lets f_Own_lets d_Own_lets
  b_Own_lets : Binds K d_Own_lets ["self", "entry", "who", "question", "ticket"] []
  a_Own_lets : PySem.W.findIn K (.ref C_Own) "lets" = some (some (.ref f_Own_lets))
  i_Own_lets : PySem.W.isFn K (.ref f_Own_lets) = true
  n_Own_lets : PySem.W.fnIn K f_Own_lets = true
  f_Own___le__ : Addr
  d_Own___le__ : FuncData
  F_Own___le__ : Fun K "__le__" "Own.__le__" s_Own___le__ f_Own___le__ d_Own___le__
  b_Own___le__ : Binds K d_Own___le__ ["self", "other"] []
  a_Own___le__ : PySem.W.findIn K (.ref C_Own) "__le__" = some (some (.ref f_Own___le__))
  i_Own___le__ : PySem.W.isFn K (.ref f_Own___le__) = true
  n_Own___le__ : PySem.W.fnIn K f_Own___le__ = true
  C_Same : Addr
  g_Same : mg "Same" = some (.ref C_Same)
  cl_Same : Cls K C_Same
  mk_Same : PySem.W.makesIn K C_Same = true
  kc_Same : PySem.W.keepIn K (.ref C_Same) = true
  nf_Same : PySem.W.notFirst K C_Same (.ref C_Same) = true
  in_Same : C8.InsC K C_Same
  m0_Same : Mk0 K C_Same
  ge_Same : PySem.W.findIn K (.ref C_Same) "__ge__" = some (some (.builtin "object.__ge__"))
  f_Same_lets : Addr
  d_Same_lets : FuncData
  F_Same_lets : Fun K "lets" "Same.lets" s_Same_lets f_Same_lets d_Same_lets
  b_Same_lets : Binds K d_Same_lets ["self", "entry", "who", "question", "ticket"] []
  a_Same_lets : PySem.W.findIn K (.ref C_Same) "lets" = some (some (.ref f_Same_lets))
  i_Same_lets : PySem.W.isFn K (.ref f_Same_lets) = true
  n_Same_lets : PySem.W.fnIn K f_Same_lets = true
  f_Same___le__ : Addr
  d_Same___le__ : FuncData
  F_Same___le__ : Fun K "__le__" "Same.__le__" s_Same___le__ f_Same___le__ d_Same___le__
  b_Same___le__ : Binds K d_Same___le__ ["self", "other"] []
  a_Same___le__ : PySem.W.findIn K (.ref C_Same) "__le__" = some (some (.ref f_Same___le__))
  i_Same___le__ : PySem.W.isFn K (.ref f_Same___le__) = true
  n_Same___le__ : PySem.W.fnIn K f_Same___le__ = true
  C_Both : Addr
  g_Both : mg "Both" = some (.ref C_Both)
  cl_Both : Cls K C_Both
  mk_Both : PySem.W.makesIn K C_Both = true
  kc_Both : PySem.W.keepIn K (.ref C_Both) = true
  nf_Both : PySem.W.notFirst K C_Both (.ref C_Both) = true
  in_Both : C8.InsC K C_Both
  m0_Both : Mk0 K C_Both
  ge_Both : PySem.W.findIn K (.ref C_Both) "__ge__" = some (some (.builtin "object.__ge__"))
  f_Both_lets : Addr
  d_Both_lets : FuncData
  F_Both_lets : Fun K "lets" "Both.lets" s_Both_lets f_Both_lets d_Both_lets
  b_Both_lets : Binds K d_Both_lets ["self", "entry", "who", "question", "ticket"] []
  a_Both_lets : PySem.W.findIn K (.ref C_Both) "lets" = some (some (.ref f_Both_lets))
  i_Both_lets : PySem.W.isFn K (.ref f_Both_lets) = true
  n_Both_lets : PySem.W.fnIn K f_Both_lets = true
  f_Both___le__ : Addr
  d_Both___le__ : FuncData
  F_Both___le__ : Fun K "__le__" "Both.__le__" s_Both___le__ f_Both___le__ d_Both___le__
  b_Both___le__ : Binds K d_Both___le__ ["self", "other"] []
  a_Both___le__ : PySem.W.findIn K (.ref C_Both) "__le__" = some (some (.ref f_Both___le__))
  i_Both___le__ : PySem.W.isFn K (.ref f_Both___le__) = true
  n_Both___le__ : PySem.W.fnIn K f_Both___le__ = true
  C_Last : Addr
  g_Last : mg "Last" = some (.ref C_Last)
  cl_Last : Cls K C_Last
  mk_Last : PySem.W.makesIn K C_Last = true
  kc_Last : PySem.W.keepIn K (.ref C_Last) = true
  nf_Last : PySem.W.notFirst K C_Last (.ref C_Last) = true
  in_Last : C8.InsC K C_Last
  m0_Last : Mk0 K C_Last
  ge_Last : PySem.W.findIn K (.ref C_Last) "__ge__" = some (some (.builtin "object.__ge__"))
  f_Last_lets : Addr
  d_Last_lets : FuncData
  F_Last_lets : Fun K "lets" "Last.lets" s_Last_lets f_Last_lets d_Last_lets
  b_Last_lets : Binds K d_Last_lets ["self", "entry", "who", "question", "ticket"] []
  a_Last_lets : PySem.W.findIn K (.ref C_Last) "lets" = some (some (.ref f_Last_lets))
  i_Last_lets : PySem.W.isFn K (.ref f_Last_lets) = true
  n_Last_lets : PySem.W.fnIn K f_Last_lets = true
  f_Last___le__ : Addr
  d_Last___le__ : FuncData
  F_Last___le__ : Fun K "__le__" "Last.__le__" s_Last___le__ f_Last___le__ d_Last___le__
  b_Last___le__ : Binds K d_Last___le__ ["self", "other"] []
  a_Last___le__ : PySem.W.findIn K (.ref C_Last) "__le__" = some (some (.ref f_Last___le__))
  i_Last___le__ : PySem.W.isFn K (.ref f_Last___le__) = true
  n_Last___le__ : PySem.W.fnIn K f_Last___le__ = true
  C_ScreenError : Addr
  g_ScreenError : mg "ScreenError" = some (.ref C_ScreenError)
  hd_ScreenError : PySem.W.hasDictIn K C_ScreenError = true
  ty_ScreenError : PySem.W.typeIn K (.ref C_ScreenError) = some (.type "type")
  be_ScreenError : PySem.W.subIn K (.ref C_ScreenError) (.type "BaseException") = some true
  vb_ScreenError : PySem.W.subIn K (.ref C_ScreenError) (.type "ValueError") = some true
  C_BadFence : Addr
  g_BadFence : mg "BadFence" = some (.ref C_BadFence)
  hd_BadFence : PySem.W.hasDictIn K C_BadFence = true
  ty_BadFence : PySem.W.typeIn K (.ref C_BadFence) = some (.type "type")
  be_BadFence : PySem.W.subIn K (.ref C_BadFence) (.type "BaseException") = some true
  vb_BadFence : PySem.W.subIn K (.ref C_BadFence) (.type "ValueError") = some true
  ox_BadFence : OexC K C_BadFence
  xf_BadFence : XfC K C_BadFence
  is_BadFence : ExcC K C_BadFence
  f_BadFence___init__ : Addr
  d_BadFence___init__ : FuncData
  F_BadFence___init__ : Fun K "__init__" "BadFence.__init__" s_BadFence___init__ f_BadFence___init__ d_BadFence___init__
  b_BadFence___init__ : Binds K d_BadFence___init__ ["self", "fence"] []
  iC_BadFence : PySem.W.findIn K (.ref C_BadFence) "__init__" = some (some (.ref f_BadFence___init__))
  tI_BadFence : PySem.W.typeIn K (.ref f_BadFence___init__) = some (.type "function")
  nf_BadFence_fence : PySem.W.findIn K (.ref C_BadFence) "fence" = some none
  C_NoAnswer : Addr
  g_NoAnswer : mg "NoAnswer" = some (.ref C_NoAnswer)
  hd_NoAnswer : PySem.W.hasDictIn K C_NoAnswer = true
  ty_NoAnswer : PySem.W.typeIn K (.ref C_NoAnswer) = some (.type "type")
  be_NoAnswer : PySem.W.subIn K (.ref C_NoAnswer) (.type "BaseException") = some true
  vb_NoAnswer : PySem.W.subIn K (.ref C_NoAnswer) (.type "ValueError") = some true
  ox_NoAnswer : OexC K C_NoAnswer
  xf_NoAnswer : XfC K C_NoAnswer
  is_NoAnswer : ExcC K C_NoAnswer
  f_NoAnswer___init__ : Addr
  d_NoAnswer___init__ : FuncData
  F_NoAnswer___init__ : Fun K "__init__" "NoAnswer.__init__" s_NoAnswer___init__ f_NoAnswer___init__ d_NoAnswer___init__
  b_NoAnswer___init__ : Binds K d_NoAnswer___init__ ["self", "number"] []
  iC_NoAnswer : PySem.W.findIn K (.ref C_NoAnswer) "__init__" = some (some (.ref f_NoAnswer___init__))
  tI_NoAnswer : PySem.W.typeIn K (.ref f_NoAnswer___init__) = some (.type "function")
  nf_NoAnswer_number : PySem.W.findIn K (.ref C_NoAnswer) "number" = some none
  ne_BadFence_ScreenError : C_BadFence ≠ C_ScreenError
  s_BadFence_ScreenError : PySem.W.subIn K (.ref C_BadFence) (.ref C_ScreenError) = some true
  ne_BadFence_NoAnswer : C_BadFence ≠ C_NoAnswer
  s_BadFence_NoAnswer : PySem.W.subIn K (.ref C_BadFence) (.ref C_NoAnswer) = some false
  ne_NoAnswer_ScreenError : C_NoAnswer ≠ C_ScreenError
  s_NoAnswer_ScreenError : PySem.W.subIn K (.ref C_NoAnswer) (.ref C_ScreenError) = some true
  ne_NoAnswer_BadFence : C_NoAnswer ≠ C_BadFence
  s_NoAnswer_BadFence : PySem.W.subIn K (.ref C_NoAnswer) (.ref C_BadFence) = some false
  sub_Fence_Fence : PySem.W.subIn K (.ref C_Fence) (.ref C_Fence) = some true
  kit_Fence_Fence : PySem.W.kitOne K (.ref C_Fence) (.ref C_Fence) = some true
  sub_Fence_Own : PySem.W.subIn K (.ref C_Fence) (.ref C_Own) = some false
  kit_Fence_Own : PySem.W.kitOne K (.ref C_Fence) (.ref C_Own) = some false
  sub_Fence_Same : PySem.W.subIn K (.ref C_Fence) (.ref C_Same) = some false
  kit_Fence_Same : PySem.W.kitOne K (.ref C_Fence) (.ref C_Same) = some false
  sub_Fence_Both : PySem.W.subIn K (.ref C_Fence) (.ref C_Both) = some false
  kit_Fence_Both : PySem.W.kitOne K (.ref C_Fence) (.ref C_Both) = some false
  sub_Fence_Last : PySem.W.subIn K (.ref C_Fence) (.ref C_Last) = some false
  kit_Fence_Last : PySem.W.kitOne K (.ref C_Fence) (.ref C_Last) = some false
  sub_Own_Fence : PySem.W.subIn K (.ref C_Own) (.ref C_Fence) = some true
  kit_Own_Fence : PySem.W.kitOne K (.ref C_Own) (.ref C_Fence) = some true
  sub_Own_Own : PySem.W.subIn K (.ref C_Own) (.ref C_Own) = some true
  kit_Own_Own : PySem.W.kitOne K (.ref C_Own) (.ref C_Own) = some true
  sub_Own_Same : PySem.W.subIn K (.ref C_Own) (.ref C_Same) = some false
  kit_Own_Same : PySem.W.kitOne K (.ref C_Own) (.ref C_Same) = some false
  sub_Own_Both : PySem.W.subIn K (.ref C_Own) (.ref C_Both) = some false
  kit_Own_Both : PySem.W.kitOne K (.ref C_Own) (.ref C_Both) = some false
  sub_Own_Last : PySem.W.subIn K (.ref C_Own) (.ref C_Last) = some false
  kit_Own_Last : PySem.W.kitOne K (.ref C_Own) (.ref C_Last) = some false
  sub_Same_Fence : PySem.W.subIn K (.ref C_Same) (.ref C_Fence) = some true
  kit_Same_Fence : PySem.W.kitOne K (.ref C_Same) (.ref C_Fence) = some true
  sub_Same_Own : PySem.W.subIn K (.ref C_Same) (.ref C_Own) = some false
  kit_Same_Own : PySem.W.kitOne K (.ref C_Same) (.ref C_Own) = some false
  sub_Same_Same : PySem.W.subIn K (.ref C_Same) (.ref C_Same) = some true
  kit_Same_Same : PySem.W.kitOne K (.ref C_Same) (.ref C_Same) = some true
  sub_Same_Both : PySem.W.subIn K (.ref C_Same) (.ref C_Both) = some false
  kit_Same_Both : PySem.W.kitOne K (.ref C_Same) (.ref C_Both) = some false
  sub_Same_Last : PySem.W.subIn K (.ref C_Same) (.ref C_Last) = some false
  kit_Same_Last : PySem.W.kitOne K (.ref C_Same) (.ref C_Last) = some false
  sub_Both_Fence : PySem.W.subIn K (.ref C_Both) (.ref C_Fence) = some true
  kit_Both_Fence : PySem.W.kitOne K (.ref C_Both) (.ref C_Fence) = some true
  sub_Both_Own : PySem.W.subIn K (.ref C_Both) (.ref C_Own) = some true
  kit_Both_Own : PySem.W.kitOne K (.ref C_Both) (.ref C_Own) = some true
  sub_Both_Same : PySem.W.subIn K (.ref C_Both) (.ref C_Same) = some true
  kit_Both_Same : PySem.W.kitOne K (.ref C_Both) (.ref C_Same) = some true
  sub_Both_Both : PySem.W.subIn K (.ref C_Both) (.ref C_Both) = some true
  kit_Both_Both : PySem.W.kitOne K (.ref C_Both) (.ref C_Both) = some true
  sub_Both_Last : PySem.W.subIn K (.ref C_Both) (.ref C_Last) = some false
  kit_Both_Last : PySem.W.kitOne K (.ref C_Both) (.ref C_Last) = some false
  sub_Last_Fence : PySem.W.subIn K (.ref C_Last) (.ref C_Fence) = some true
  kit_Last_Fence : PySem.W.kitOne K (.ref C_Last) (.ref C_Fence) = some true
  sub_Last_Own : PySem.W.subIn K (.ref C_Last) (.ref C_Own) = some false
  kit_Last_Own : PySem.W.kitOne K (.ref C_Last) (.ref C_Own) = some false
  sub_Last_Same : PySem.W.subIn K (.ref C_Last) (.ref C_Same) = some false
  kit_Last_Same : PySem.W.kitOne K (.ref C_Last) (.ref C_Same) = some false
  sub_Last_Both : PySem.W.subIn K (.ref C_Last) (.ref C_Both) = some false
  kit_Last_Both : PySem.W.kitOne K (.ref C_Last) (.ref C_Both) = some false
  sub_Last_Last : PySem.W.subIn K (.ref C_Last) (.ref C_Last) = some true
  kit_Last_Last : PySem.W.kitOne K (.ref C_Last) (.ref C_Last) = some true
  m_ValueError : mg "ValueError" = none
  m_abs : mg "abs" = none
  m_all : mg "all" = none
  m_bool : mg "bool" = none
  m_enumerate : mg "enumerate" = none
  m_int : mg "int" = none
  m_isinstance : mg "isinstance" = none
  m_len : mg "len" = none
  m_list : mg "list" = none
  m_range : mg "range" = none
  m_tuple : mg "tuple" = none
section
variable {P : Program} {w : World} {K : PySem.W.Frag} {mg : Str → Option Value} {base : Heap}
def sp_mixed : Sp := fun vs H Q _ => ∃ a t : Int, vs = [.int a, .int t] ∧ ∀ w : Int, 0 ≤ w → Q (.int w) H
theorem ok_mixed (T : Txt K mg) : FnOk P w K mg base CX0 1 T.f__law_mixed T.d__law_mixed ["_law_number", "_law_turn"] sp_mixed := by
  refine T.F__law_mixed.ok sc__law_mixed (fun vs H Q E h => ?_) (fun cdv A outer s H vs Q E hr h => ?_)
  · obtain ⟨a, t, rfl, _⟩ := h
    rfl
  · obtain ⟨a, t, rfl, q⟩ := h
    refine ⟨_, (pss_cons (ps_set (i := 2) sc__law_mixed.nd rfl (Or.inl rfl) (pe_op op_mod (pe_callTy call_int1 (by rfl) T.m_int (by decide +kernel) (pa_cons (pe_op op_add (pe_op op_mul (pe_op op_add (pv 0) pe_int) pe_int) (pe_op op_mul (pe_op op_add (pv 1) pe_int) pe_int)) pa_nil)) pe_int))
      (pss_cons (ps_set (i := 3) sc__law_mixed.nd rfl (Or.inl rfl) (pe_op op_mod (pe_callTy call_int1 (by rfl) T.m_int (by decide +kernel) (pa_cons (pe_op op_add (pe_op op_add (pe_op op_mul (pv 2) (pv 2)) (pe_op op_mul (pv 2) pe_int)) (pe_op op_mul (pe_op op_add (pv 1) pe_int) pe_int)) pa_nil)) pe_int))
      (pss_one (ps_ret (pe_op op_mod (pe_callTy call_int1 (by rfl) T.m_int (by decide +kernel) (pa_cons (pe_op op_add (pe_op op_add (pe_op op_fdiv (pv 3) pe_int) (pe_op op_mul (pv 3) pe_int)) (pv 1)) pa_nil)) pe_int))))), ?_⟩
    walk_at "g"
    have h0 := Int.emod_nonneg ((a + 1) * 48271 + (t + 1) * 1103515245) (by decide : (2147483647 : Int) ≠ 0)
    have h1 := Int.emod_lt_of_pos ((a + 1) * 48271 + (t + 1) * 1103515245) (by decide : (0 : Int) < 2147483647)
    refine ⟨Or.inr ⟨by omega, by omega⟩, ?_⟩
    walk_at "g"
    refine q _ (Int.emod_nonneg _ (by decide))
/-- the bag is made -/
def sp_bag (K : PySem.W.Frag) : Sp := fun vs H Q _ => ∃ (a : Addr) (ns : List Int), vs = [.ref a] ∧ SqL K H a (ns.map V.int) ∧ ns.length ≤ 63 ∧
  ∀ b H', Same H H' → H b = none → Bag K (one b) H' b → Q (.ref b) H'
theorem ok_bag (T : Txt K mg) : FnOk P w K mg base CX0 1 T.f__law_bag T.d__law_bag ["_law_script"] (sp_bag K) := by
  refine T.F__law_bag.ok sc__law_bag (fun vs H Q E h => ?_) (fun cdv A outer s H vs Q E hr h => ?_)
  · obtain ⟨a, t, rfl, _⟩ := h
    rfl
  · obtain ⟨a, ns, rfl, hS, hlen, q⟩ := h
    refine ⟨_, (pss_cons (ps_setLc (i := 2) (own := [("_law_cell", 1)]) (g := gName 1) (tt := tYes) (by rfl) sc__law_bag.nd rfl rfl (sw_true rfl rfl rfl (by decide +kernel)) (pi_listK (K := K) rfl (pv 0)) (blkOk_by (own := [("_law_cell", 1)]) (N := ["_law_script", "_law_cell", "_law_numbers", "_law_seed", "_law_at"]) (sc := defScope s__law_bag) (by decide +kernel)) (fun _ _ _ _ _ => (pg_name (i := 1) sc__law_bag.nd rfl (Or.inl rfl))) (fun _ _ _ _ _ => pts_nil) (fun _ _ _ _ _ => (pe_callTy call_int1 (by rfl) T.m_int (by decide +kernel) (pa_cons (pv 1) pa_nil))))
      (pss_cons (ps_set (i := 3) sc__law_bag.nd rfl (Or.inl rfl) (pe_callB (call_lenK (K := K) rfl) (by rfl) T.m_len PySem.boot_len (pa_cons (pv 2) pa_nil)))
      (pss_cons (ps_for PassesOwn.never rfl (pi_enumK (K := K) rfl (by rfl) T.m_enumerate (pa_cons (pe_slice (sl_listK (K := K) rfl) (pv 2) po_none (po_some pe_int)) pa_nil)) (pg_tupK (K := K) rfl rfl (pgs_cons (pg_name (i := 4) sc__law_bag.nd rfl (Or.inl rfl)) (pgs_cons (pg_name (i := 1) sc__law_bag.nd rfl (Or.inl rfl)) pgs_nil))) (pss_one (ps_set (i := 3) sc__law_bag.nd rfl (Or.inl rfl) (pe_op op_mod (pe_callTy call_int1 (by rfl) T.m_int (by decide +kernel) (pa_cons (pe_op op_add (pe_op op_add (pe_op op_mul (pv 3) pe_int) (pe_op op_mod (pe_callTy call_int1 (by rfl) T.m_int (by decide +kernel) (pa_cons (pe_callB call_abs (by rfl) T.m_abs (by decide +kernel) (pa_cons (pv 1) pa_nil)) pa_nil)) pe_int)) (pe_op op_mul_ib (pe_op op_add (pv 4) pe_int) (pe_cmpR op_lt (pv 1) pe_int (nomark _)))) pa_nil)) pe_int))))
      (pss_one (ps_ret (pe_lst (pa_cons (pv 2) (pa_cons pe_int (pa_cons pe_int (pa_cons pe_int (pa_cons (pv 3) pa_nil))))))))))), ?_⟩
    refine ⟨.ref a, rfl, a, rfl, ⟨_, hS⟩, fun n hn => ?_⟩
    refine lc_list (K := K) (a := a) (xs := ns.map V.int) (fun i H' => Same H H' ∧ H' n = some (.lst ((ns.take i).map V.int))) ⟨same_new hn, by rw [upd_same]; rfl⟩ (fun i H' _ h => h.1.seq hS) (fun i x H' hx h => ?_) (fun H' h => ?_)
    · rw [List.getElem?_map] at hx
      obtain ⟨z, hz, rfl⟩ := Option.map_eq_some_iff.mp hx
      refine ⟨rfl, ?_⟩
      refine ⟨_, rfl, ?_⟩
      refine Or.inl ⟨_, rfl, ?_⟩
      refine ⟨_, h.2, ?_, fun b o e => ?_, ?_⟩
      · rw [List.length_map, List.length_take]
        exact small1000 (by omega)
      · rw [upd_ne (ne_of_none e hn)]
        exact h.1 b o e
      · rw [upd_same, List.take_add_one, hz, List.map_append]
        rfl
    · have h2 : H' n = some (.lst (ns.map V.int)) := by
        have e := h.2
        rwa [List.length_map, List.take_length] at e
      refine ⟨_, rfl, n, _, rfl, .inl (SqL.of h2), ?_⟩
      refine ⟨_, rfl, 63, rfl, n, _, rfl, SqL.of h2, fun c hc => ?_⟩
      have hcut : cutV (ns.map V.int) none (some 63) = ns.map V.int := by
        unfold cutV
        rw [show HT.sIx (ns.map V.int).length 0 none = 0 from HT.sIx_none .., show HT.sIx (ns.map V.int).length (ns.map V.int).length (some 63) = min 63 (ns.map V.int).length from HT.sIx_nat _ _ 63, List.drop_zero, Nat.sub_zero]
        rw [List.length_map, Nat.min_eq_right hlen]
        exact List.take_of_length_le (by rw [List.length_map]; exact Nat.le_refl _)
      rw [hcut]
      have hn' : n ≠ c := ne_of_none h2 hc
      refine ⟨c, _, rfl, SqL.of upd_same, ?_⟩
      refine for_enum (a := c) (xs := ns.map V.int) (fun i σ H2 => (∃ y1 z y4, σ = [some (.ref a), y1, some (.ref n), some (.int z), y4]) ∧ Same H H2 ∧ H2 n = some (.lst (ns.map V.int)) ∧ H2 c = some (.lst (ns.map V.int))) ⟨⟨_, _, _, rfl⟩, fun b o e => ?_, ?_, ?_⟩ (fun i σ H2 _ p => SqL.of p.2.2.2) (fun i x T σ H2 hx hT p => ?_) (fun σ H2 p => ?_)
      · rw [upd_ne (fun z => ?_)]
        · exact h.1 b o e
        · subst z
          rw [h.1 b o e] at hc
          cases hc
      · rw [upd_ne hn']
        exact h2
      · exact upd_same
      · obtain ⟨⟨y1, z, y4, rfl⟩, hs, e2, e3⟩ := p
        rw [List.getElem?_map] at hx
        obtain ⟨v, hv, rfl⟩ := Option.map_eq_some_iff.mp hx
        refine ⟨T, _, rfl, SqT.of upd_same, rfl, _, _, rfl, _, _, rfl, rfl, ?_⟩
        walk_at "g"
        have nT : n ≠ T := ne_of_none e2 hT
        have cT : c ≠ T := ne_of_none e3 hT
        refine ⟨⟨_, _, _, rfl⟩, fun b o e => same_new hT b o (hs b o e), ?_, ?_⟩
        · rw [upd_ne nT]
          exact e2
        · rw [upd_ne cT]
          exact e3
      · obtain ⟨⟨y1, z, y4, rfl⟩, hs, e2, e3⟩ := p
        refine ⟨_, rfl, _, rfl, (by show 5 ≤ sizeLine; decide), fun b hb => ?_⟩
        refine q b _ (fun x o e => same_new hb x o (hs x o e)) (hs.free hb) ⟨rfl, n, ns, 0, 0, 0, z, upd_same, fun e => ?_, .inl ?_, by decide, by decide⟩
        · exact ne_of_none e2 hb e
        · rw [upd_ne (ne_of_none e2 hb)]
          exact e2
/-- a number is drawn -/
def sp_pick (K : PySem.W.Frag) : Sp := fun vs H Q _ => ∃ (b : Addr) (m : Int) (M : Ms), vs = [.ref b, .int m] ∧ Bag K M H b ∧ 0 < m ∧ m < 1073741824 ∧
  ∀ (w : Int) (H' : Hp), 0 ≤ w → w < m → At b H H' → Bag K M H' b → Q (.int w) H'
theorem At.bag {M : Ms} {H H' : Hp} {b n : Addr} {ns : List Int} {p r t s : Int} (w : M b) (hn : ¬ M n) (rd : Rd H n (.lst (ns.map V.int))) (h : At b H H') (e : H' b = some (.lst [.ref n, .int p, .int r, .int t, .int s])) (hp : 0 ≤ p) (hr : 0 ≤ r) : Bag K M H' b :=
  ⟨w, n, ns, p, r, t, s, e, hn, sx_rd h.sx (fun z => hn (by rw [show n = b from z]; exact w)) rd, hp, hr⟩
theorem At.trans {H H1 H2 : Hp} {b : Addr} (h : At b H H1) (h' : At b H1 H2) : At b H H2 := fun a n => (h' a n).trans (h a n)
theorem ok_pick (T : Txt K mg) : FnOk P w K mg base CX0 2 T.f__law_pick T.d__law_pick ["_law_bag_here", "_law_many"] (sp_pick K) := by
  have G__law_mixed := ok_mixed (P := P) (w := w) (base := base) T
  refine T.F__law_pick.ok sc__law_pick (fun vs H Q E h => ?_) (fun cdv A outer s H vs Q E hr h => ?_)
  · obtain ⟨_, _, _, rfl, _⟩ := h
    rfl
  · obtain ⟨b, m, M, rfl, ⟨wb, n, ns, p, r, t, sd, hb, hn, rd, hp, hr0⟩, hm, hm2, q⟩ := h
    refine ⟨_, (pss_cons (ps_set (i := 2) sc__law_pick.nd rfl (Or.inl rfl) (pe_ix (ix_listK (K := K) rfl) (pv 0) pe_int (fun _ _ => rfl)))
      (pss_cons (ps_asg (pe_op op_add (pv 2) pe_int) (pg_sub (pv 0) pe_int set_list))
      (pss_cons (ps_if (PW.pt (pw_and (pt_cmpR op_eq (pe_ix (ix_listK (K := K) rfl) (pv 0) pe_int (fun _ _ => rfl)) pe_int (nomark _)) (pw_and1 (pt_cmpR op_lt (pe_ix (ix_listK (K := K) rfl) (pv 0) pe_int (fun _ _ => rfl)) (pe_callB (call_lenK (K := K) rfl) (by rfl) T.m_len PySem.boot_len (pa_cons (pe_ix (ix_listK (K := K) rfl) (pv 0) pe_int (fun _ _ => rfl)) pa_nil)) (nomark _))))) (pss_cons (ps_set (i := 3) sc__law_pick.nd rfl (Or.inl rfl) (pe_ix (ix_listK (K := K) rfl) (pe_ix (ix_listK (K := K) rfl) (pv 0) pe_int (fun _ _ => rfl)) (pe_ix (ix_listK (K := K) rfl) (pv 0) pe_int (fun _ _ => rfl)) (fun _ _ => rfl)))
      (pss_cons (ps_asg (pe_op op_add (pe_ix (ix_listK (K := K) rfl) (pv 0) pe_int (fun _ _ => rfl)) pe_int) (pg_sub (pv 0) pe_int set_list))
      (pss_cons (ps_if (pt_cmpR op_lt (pe_callB call_abs (by rfl) T.m_abs (by decide +kernel) (pa_cons (pv 3) pa_nil)) (pe_op op_pow pe_int pe_int) (nomark _)) (pss_one (ps_ret (pe_op op_mod (pe_callTy call_int1 (by rfl) T.m_int (by decide +kernel) (pa_cons (pe_call G__law_mixed (hr.mono (by omega)) (by rfl) T.g__law_mixed T.F__law_mixed.kp T.b__law_mixed .nil pass0 (pa_cons (pe_op op_add_ib (pe_op op_mul pe_int (pe_callB call_abs (by rfl) T.m_abs (by decide +kernel) (pa_cons (pv 3) pa_nil))) (pe_cmpR op_lt (pv 3) pe_int (nomark _))) (pa_cons (pv 2) pa_nil))) pa_nil)) (pv 1)))) pss_nil)
      (pss_one (ps_asg (pe_callB call_abs (by rfl) T.m_abs (by decide +kernel) (pa_cons (pv 3) pa_nil)) (pg_sub (pv 0) pe_int set_list)))))) pss_nil)
      (pss_cons (ps_if (pt_cmpR op_eq (pe_ix (ix_listK (K := K) rfl) (pv 0) pe_int (fun _ _ => rfl)) pe_int (nomark _)) (pss_one (ps_ret (pe_op op_mod (pe_callTy call_int1 (by rfl) T.m_int (by decide +kernel) (pa_cons (pe_call G__law_mixed (hr.mono (by omega)) (by rfl) T.g__law_mixed T.F__law_mixed.kp T.b__law_mixed .nil pass0 (pa_cons (pe_ix (ix_listK (K := K) rfl) (pv 0) pe_int (fun _ _ => rfl)) (pa_cons (pv 2) pa_nil))) pa_nil)) (pv 1)))) pss_nil)
      (pss_cons (ps_set (i := 4) sc__law_pick.nd rfl (Or.inl rfl) (pe_op op_mod (pe_callTy call_int1 (by rfl) T.m_int (by decide +kernel) (pa_cons (pe_ix (ix_listK (K := K) rfl) (pv 0) pe_int (fun _ _ => rfl)) pa_nil)) (pv 1)))
      (pss_cons (ps_asg (pe_op op_fdiv (pe_ix (ix_listK (K := K) rfl) (pv 0) pe_int (fun _ _ => rfl)) (pv 1)) (pg_sub (pv 0) pe_int set_list))
      (pss_one (ps_ret (pv 4))))))))), ?_⟩
    -- turn
    walk_at "g"
    walk_at "set"
    generalize e1 : upd H b _ = H1
    have a1 : At b H H1 := by rw [← e1]; exact At.upd
    have b1 : H1 b = some (.lst [.ref n, .int p, .int r, .int (t + 1), .int sd]) := by rw [← e1, upd_same]; rfl
    have rd1 : Rd H1 n (.lst (ns.map V.int)) := sx_rd a1.sx (fun z => hn (by rw [show n = b from z]; exact wb)) rd
    clear e1
    have fin : ∀ (w : Int) (H' : Hp) (p' r' t' : Int), At b H H' → H' b = some (.lst [.ref n, .int p', .int r', .int t', .int sd]) → 0 ≤ p' → 0 ≤ r' → Q (.int (w % m)) H' := fun w H' p' r' t' ha e h1 h2 =>
      q _ _ (Int.emod_nonneg _ (by omega)) (Int.emod_lt_of_pos _ hm) ha (ha.bag wb hn rd e h1 h2)
    with_reducible refine seq_join (fun σ H' => ∃ y3 p' r', σ = [some (.ref b), some (.int m), some (.int t), y3, none] ∧ At b H H' ∧ H' b = some (.lst [.ref n, .int p', .int r', .int (t + 1), .int sd]) ∧ 0 ≤ p' ∧ 0 ≤ r') (fun hN => ?_) (fun σ H' c => ?_)
    · have hN0 := hN _ _ ⟨none, p, r, rfl, a1, b1, hp, hr0⟩
      walk_at "g"
      walk_at "if"
      · walk_at "g"
        walk_at "if"
        · rename_i ep
          have ep' : p < ((ns.map V.int).length : Int) := of_decide_eq_true ep
          obtain ⟨j, rfl⟩ : ∃ j : Nat, p = (j : Int) := ⟨p.toNat, by omega⟩
          have hj : j < ns.length := by
            rw [List.length_map] at ep'
            omega
          have hcell : (ns.map V.int)[j]? = some (.int ns[j]) := by
            rw [List.getElem?_map, List.getElem?_eq_getElem hj]
            rfl
          walk_at "g"
          refine ⟨n, _, _, _, rfl, rfl, Or.inl rd1, atI_nat hcell, ?_⟩
          walk_at "g"
          walk_at "set"
          generalize e2 : upd H1 b _ = H2
          have a2 : At b H H2 := by rw [← e2]; exact a1.trans At.upd
          have b2 : H2 b = some (.lst [.ref n, .int ((j : Int) + 1), .int r, .int (t + 1), .int sd]) := by rw [← e2, upd_same]; rfl
          clear e2
          generalize ns[j] = c
          walk_at "g"
          walk_at "if"
          · walk_at "g"
            refine ⟨_, _, rfl, fun z hz => ?_⟩
            walk_at "g"
            refine ⟨hm, ?_⟩
            exact fin _ _ _ _ _ a2 b2 (by omega) hr0
          · walk_at "g"
            walk_at "set"
            exact hN _ _ ⟨_, _, _, rfl, a2.trans At.upd, upd_same, by omega, by split <;> omega⟩
        · exact hN0
      · exact hN0
    · obtain ⟨y3, p', r', rfl, a2, b2, hp2, hr2⟩ := c
      walk_at "g"
      walk_at "if"
      · walk_at "g"
        refine ⟨_, _, rfl, fun z hz => ?_⟩
        walk_at "g"
        refine ⟨hm, ?_⟩
        exact fin _ _ _ _ _ a2 b2 hp2 hr2
      · walk_at "g"
        refine ⟨hm, ?_⟩
        walk_at "g"
        refine ⟨⟨hm, hm2⟩, ?_⟩
        walk_at "g"
        walk_at "set"
        walk_at "g"
        exact fin _ _ _ _ _ (a2.trans At.upd) upd_same hp2 (Int.ediv_nonneg hr2 (by omega))
end
end D

namespace D
open PySem PySem.Spec PyProof.Rows L2
local macro_rules | `(tactic| walk_at "st") => `(tactic| first | exact SqT.of (by assumption) | exact Or.inl (by assumption) | exact SqT.of upd_same | fail "st")
local macro_rules | `(tactic| walk_at "ixt") => `(tactic| refine ⟨_, _, _, _, rfl, rfl, (by walk_at "st" : SqT _ _ _ _), by rfl, ?_⟩)
local macro_rules | `(tactic| walk_at "sq") => `(tactic| first | exact SqL.of (by assumption) | assumption | exact Or.inl (by assumption) | exact SqL.of upd_same | fail "sq")
local macro_rules | `(tactic| walk_at "ix") => `(tactic| refine ⟨_, _, _, _, rfl, rfl, (by walk_at "sq" : SqL _ _ _ _), by rfl, ?_⟩)
local macro_rules | `(tactic| walk_at "set") => `(tactic| refine ⟨_, _, _, _, rfl, rfl, by first | assumption | exact upd_same, by rfl, ?_⟩)
local macro_rules | `(tactic| walk_at "len") => `(tactic| refine ⟨_, _, rfl, Or.inl (by walk_at "sq" : SqL _ _ _ _), ?_⟩)
local macro_rules | `(tactic| walk_at "g") => `(tactic| repeat (first | refine ⟨_, rfl, ?_⟩ | refine ⟨_, _, rfl, rfl, ?_⟩ | refine ⟨Or.inr (by decide), ?_⟩ | refine ⟨Or.inl (by decide), ?_⟩ | refine ⟨(by decide : (0 : Int) < _), ?_⟩ | refine ⟨(⟨by decide, by decide⟩ : CDiv _ _), ?_⟩ | refine ⟨(⟨by decide, by decide, by decide⟩ : CPow _ _), ?_⟩ | refine Or.inl ⟨_, rfl, ?_⟩ | refine ⟨rfl, ?_⟩ | walk_at "ix" | walk_at "ixt" | walk_at "len" | fail "g"))
local macro_rules | `(tactic| walk_at "if") => `(tactic| refine ite2 (fun e => ?_) (fun e => ?_))
section
variable {P : Program} {w : World} {K : PySem.W.Frag} {mg : Str → Option Value} {base : Heap}
def ok6 (z : Str) : Prop := 1 ≤ (sg z).length ∧ (sg z).length ≤ 6 ∧ (∀ c ∈ sg z, 97 ≤ c ∧ c ≤ 122)
def tl2 (l : List Nat) (k : Nat) : Str := ⟨#[l.getD (k / 26) 0, l.getD (k % 26) 0]⟩
/-- small letters -/
def Low (l : List Nat) : Prop := ∀ c ∈ l, 97 ≤ c ∧ c ≤ 122
/-- a name: one to eight small letters -/
def okN (z : Str) : Prop := 1 ≤ (sg z).length ∧ (sg z).length ≤ 8 ∧ Low (sg z)
theorem Low.app {a b : List Nat} (h : Low a) (g : Low b) : Low (a ++ b) := fun c hc => (List.mem_append.mp hc).elim (h c) (g c)
theorem Low.sub {a b : List Nat} (h : Low a) (s : ∀ c ∈ b, c ∈ a) : Low b := fun c hc => h c (s c hc)
theorem small26 {z : Str} (h : (sg z).length < 1000) : z.length ≤ sizeLine := by rw [← sg_len, sizeLine_eq]; omega
def sp_newname (K : PySem.W.Frag) : Sp := fun vs H Q _ => ∃ (b u : Addr) (ws : List Str) (M : Ms), vs = [.ref b, .ref u] ∧ Bag K M H b ∧ Mk M H ∧ M u ∧ u ≠ b ∧ H u = some (.lst (ws.map V.str)) ∧ ws.length ≤ 10 ∧ (∀ w ∈ ws, okN w) ∧
  ∀ H' z, Sx (also (one b) u) H H' → Gr H H' → Bag K M H' b → H' u = some (.lst ((ws ++ [z]).map V.str)) → okN z → z ∉ ws → Q (.str z) H'
theorem ok_newname (T : Txt K mg) : FnOk P w K mg base CX0 3 T.f__law_new_name T.d__law_new_name ["_law_bag_here", "_law_used"] (sp_newname K) := by
  have G__law_pick := ok_pick (P := P) (w := w) (base := base) T
  refine T.F__law_new_name.ok sc__law_new_name (fun vs H Q E h => ?_) (fun cdv A outer s H vs Q E hr h => ?_)
  · obtain ⟨_, _, _, _, rfl, _⟩ := h
    rfl
  · obtain ⟨b, u, ws, M, rfl, hB, hM, mu, ub, hu, lw, hws, q⟩ := h
    refine ⟨_, (pss_cons (ps_set (i := 2) sc__law_new_name.nd rfl (Or.inr rfl) pe_str)
      (pss_cons (ps_set (i := 3) sc__law_new_name.nd rfl (Or.inr rfl) (pe_join pe_str (pe_lc (own := [("_law_step", 7)]) (g := gName 7) (tt := tYes) (by rfl) sc__law_new_name.nd (pi_range1 (by rfl) T.m_range (pa_cons (pe_op op_add pe_int (pe_call G__law_pick (hr.mono (by omega)) (by rfl) T.g__law_pick T.F__law_pick.kp T.b__law_pick .nil pass0 (pa_cons (pv 0) (pa_cons pe_int pa_nil)))) pa_nil)) (blkOk_by (own := [("_law_step", 7)]) (N := ["_law_bag_here", "_law_used", "_law_letters", "_law_told", "_law_near", "_law_at", "_law_tails", "_law_step", "_law_k", "_law_tail"]) (sc := defScope s__law_new_name) (by decide +kernel)) (fun _ _ _ _ _ => (pg_name (i := 7) sc__law_new_name.nd rfl (Or.inl rfl))) (fun _ _ _ _ _ => pts_nil) (fun _ _ _ _ _ => (pe_ix ix_str (pv 2) (pe_call G__law_pick (hr.mono (by omega)) (by rfl) T.g__law_pick T.F__law_pick.kp T.b__law_pick .nil pass0 (pa_cons (pv 0) (pa_cons pe_int pa_nil))) (fun _ _ => rfl))))))
      (pss_cons (ps_if (PW.pt (pw_and (pt_truthK (K := K) rfl (pv 1) (by intro _; rfl)) (pw_and1 (pt_cmpR op_eq (pe_call G__law_pick (hr.mono (by omega)) (by rfl) T.g__law_pick T.F__law_pick.kp T.b__law_pick .nil pass0 (pa_cons (pv 0) (pa_cons pe_int pa_nil))) pe_int (nomark _))))) (pss_cons (ps_set (i := 4) sc__law_new_name.nd rfl (Or.inl rfl) (pe_slice sl_str (pe_ix (ix_listK (K := K) rfl) (pv 1) (pe_call G__law_pick (hr.mono (by omega)) (by rfl) T.g__law_pick T.F__law_pick.kp T.b__law_pick .nil pass0 (pa_cons (pv 0) (pa_cons (pe_callB (call_lenK (K := K) rfl) (by rfl) T.m_len PySem.boot_len (pa_cons (pv 1) pa_nil)) pa_nil))) (fun _ _ => rfl)) po_none (po_some pe_int)))
      (pss_cons (ps_set (i := 5) sc__law_new_name.nd rfl (Or.inl rfl) (pe_call G__law_pick (hr.mono (by omega)) (by rfl) T.g__law_pick T.F__law_pick.kp T.b__law_pick .nil pass0 (pa_cons (pv 0) (pa_cons (pe_callB call_len_str (by rfl) T.m_len PySem.boot_len (pa_cons (pv 4) pa_nil)) pa_nil))))
      (pss_one (ps_set (i := 3) sc__law_new_name.nd rfl (Or.inr rfl) (pe_op op_add_str (pe_op op_add_str (pe_slice sl_str (pv 4) po_none (po_some (pv 5))) (pe_ix ix_str (pv 2) (pe_call G__law_pick (hr.mono (by omega)) (by rfl) T.g__law_pick T.F__law_pick.kp T.b__law_pick .nil pass0 (pa_cons (pv 0) (pa_cons pe_int pa_nil))) (fun _ _ => rfl))) (pe_slice sl_str (pv 4) (po_some (pe_op op_add (pv 5) pe_int)) po_none)))))) pss_nil)
      (pss_cons (ps_if (pt_cmpR (op_in_seqK (K := K) rfl) (pv 3) (pe_op op_cat (pv 1) (pe_lst (pa_cons pe_str (pa_cons pe_str pa_nil)))) (by rfl)) (pss_cons (ps_setLc (i := 6) (own := [("_law_k", 8)]) (g := gName 8) (tt := tYes) (by rfl) sc__law_new_name.nd rfl rfl (sw_true rfl rfl rfl (by decide +kernel)) (pi_range1 (by rfl) T.m_range (pa_cons pe_int pa_nil)) (blkOk_by (own := [("_law_k", 8)]) (N := ["_law_bag_here", "_law_used", "_law_letters", "_law_told", "_law_near", "_law_at", "_law_tails", "_law_step", "_law_k", "_law_tail"]) (sc := defScope s__law_new_name) (by decide +kernel)) (fun _ _ _ _ _ => (pg_name (i := 8) sc__law_new_name.nd rfl (Or.inl rfl))) (fun _ _ _ _ _ => pts_nil) (fun _ _ _ _ _ => (pe_op op_add_str (pe_ix ix_str (pv 2) (pe_op op_fdiv (pv 8) pe_int) (fun _ _ => rfl)) (pe_ix ix_str (pv 2) (pe_op op_mod (pe_callTy call_int1 (by rfl) T.m_int (by decide +kernel) (pa_cons (pv 8) pa_nil)) pe_int) (fun _ _ => rfl)))))
      (pss_one (ps_set (i := 3) sc__law_new_name.nd rfl (Or.inr rfl) (pe_ix (ix_listK (K := K) rfl) (pe_lc (own := [("_law_tail", 9)]) (g := gName 9)  (by rfl) sc__law_new_name.nd (pi_listK (K := K) rfl (pv 6)) (blkOk_by (own := [("_law_tail", 9)]) (N := ["_law_bag_here", "_law_used", "_law_letters", "_law_told", "_law_near", "_law_at", "_law_tails", "_law_step", "_law_k", "_law_tail"]) (sc := defScope s__law_new_name) (by decide +kernel)) (fun _ _ _ _ _ => (pg_name (i := 9) sc__law_new_name.nd rfl (Or.inl rfl))) (fun _ _ _ _ _ => (pts_one (pt_cmpR (op_notIn_seqK (K := K) rfl) (pe_op op_add_str (pe_slice sl_str (pv 3) po_none (po_some pe_int)) (pv 9)) (pe_op op_cat (pv 1) (pe_lst (pa_cons pe_str pa_nil))) (by rfl)))) (fun _ _ _ _ _ => (pe_op op_add_str (pe_slice sl_str (pv 3) po_none (po_some pe_int)) (pv 9)))) pe_int (fun _ _ => rfl))))) pss_nil)
      (pss_cons (ps_expr (pe_bmK2 (K := K) rfl PySem.F.plainAttrs_list PySem.F.slot_list_append PySem.F.type_list_append mt_append (pv 1) (pa_cons (pv 3) pa_nil)))
      (pss_one (ps_ret (pv 3)))))))), ?_⟩
    generalize eal : Str.ofString "abcdefghijklmnopqrstuvwxyz" = al
    have lal : (sg al).length = 26 := by rw [← eal]; decide +kernel
    have low : Low (sg al) := by rw [← eal]; unfold Low; decide +kernel
    have at_al : ∀ w : Int, 0 ≤ w → w < 26 → ∃ c, atI al.cps.toList w = some c ∧ 97 ≤ c ∧ c ≤ 122 := fun w h0 h1 => by
      obtain ⟨j, rfl⟩ : ∃ j : Nat, w = (j : Int) := ⟨w.toNat, by omega⟩
      have hj : j < (sg al).length := by omega
      exact ⟨(sg al)[j], atI_nat (List.getElem?_eq_getElem hj), low _ (List.getElem_mem hj)⟩
    have sal : al.length ≤ sizeLine := small26 (by omega)
    have gd : ∀ k, k < 26 → (sg al)[k]? = some ((sg al).getD k 0) := fun k hk => by
      rw [List.getD_eq_getElem?_getD, List.getElem?_eq_getElem (by omega)]
      rfl
    have nda : (sg al).Nodup := by rw [← eal]; decide +kernel
    clear eal
    refine ⟨⟨_, rfl⟩, ?_⟩
    walk_at "g"
    refine ⟨b, 6, M, rfl, hB, by omega, by omega, fun n1 H1 h0 h1 hA1 hB1 => ?_⟩
    walk_at "g"
    refine ⟨by omega, by omega, fun D hD => ?_⟩
    have Db : D ≠ b := fun z => hB1.there (by rw [← z]; exact hD)
    refine rng_loop (lo := 0) (n := (1 + n1).toNat) (fun i H' => ∃ ys : List Str, H' D = some (.lst (ys.map V.str)) ∧ ys.length = i ∧ (∀ y ∈ ys, ∃ c, y = ⟨#[c]⟩ ∧ 97 ≤ c ∧ c ≤ 122) ∧ Sx (one b) H1 H' ∧ Gr H1 H' ∧ Bag K (also M D) H' b) ⟨[], upd_same, rfl, fun y hy => (nomatch hy), Sx.new hD, Gr.upd, (hB1.more hD).same (same_new hD)⟩ (fun i H' hi p => ?_) (fun H2 p => ?_)
    · obtain ⟨ys, eD, ly, hys, s2, g2, hB2⟩ := p
      refine ⟨rfl, ?_⟩
      walk_at "g"
      refine ⟨b, 26, also M D, rfl, hB2, by omega, by omega, fun w3 H3 k0 k1 hA3 hB3 => ?_⟩
      obtain ⟨c, hc, c0, c1⟩ := at_al w3 k0 k1
      have eD3 := (hA3 D Db).trans eD
      refine ⟨al, _, c, rfl, rfl, sal, hc, _, eD3, small1000 (by rw [List.length_map]; omega), ys ++ [⟨#[c]⟩], ?_, by rw [List.length_append, ly]; rfl, fun y hy => ?_, fun a o n e => ?_, g2.trans ((At.gr hA3 hB3.there).trans Gr.upd), hB3.keep (N := one D) (Sx.put rfl) (Ne.symm Db) (fun c z => .inr z)⟩
      · rw [upd_same, List.map_append]
        rfl
      · rcases List.mem_append.mp hy with z | z
        · exact hys y z
        · exact ⟨c, List.mem_singleton.mp z, c0, c1⟩
      · rw [upd_ne (fun z => by rw [z, hD] at e; cases e)]
        exact hA3.sx a o n (s2 a o n e)
    obtain ⟨ys, eD, ly, hys, s2, g2, hB2⟩ := p
    have hB2' := hB2.less (N := M) hB1.w also_le
    have ly1 : 1 ≤ ys.length ∧ ys.length ≤ 6 := by omega
    have sum1 : ∀ l : List Str, (∀ y ∈ l, ∃ c, y = ⟨#[c]⟩ ∧ 97 ≤ c ∧ c ≤ 122) → (l.map (·.length)).sum = l.length ∧ (l.map sg).flatten.length = l.length ∧ Low (l.map sg).flatten := by
      intro l
      induction l with
      | nil => intro _; exact ⟨rfl, rfl, fun c hc => nomatch hc⟩
      | cons y r ih =>
        intro h
        obtain ⟨i1, i2, i3⟩ := ih fun z hz => h z (List.mem_cons_of_mem _ hz)
        obtain ⟨c, rfl, c0, c1⟩ := h y List.mem_cons_self
        refine ⟨?_, ?_, ?_⟩
        · rw [List.map_cons, List.sum_cons, i1, List.length_cons]
          show 1 + r.length = r.length + 1
          omega
        · rw [List.map_cons, List.flatten_cons, List.length_append, i2, List.length_cons]
          show 1 + r.length = r.length + 1
          omega
        · rw [List.map_cons, List.flatten_cons]
          refine Low.app (fun d hd => ?_) i3
          rw [List.mem_singleton.mp (show d ∈ [c] from hd)]
          exact ⟨c0, c1⟩
    obtain ⟨j1, j2, j3⟩ := sum1 ys hys
    refine ⟨_, D, ys, rfl, rfl, .inl (SqL.of eD), by rw [j1, show (Str.ofString "").length = 0 from by decide +kernel]; omega, ?_⟩
    generalize hz1 : Txt.join _ ys = z1
    have sz1 : sg z1 = (ys.map sg).flatten := by rw [← hz1, TL.join_eq]; exact sg_join0 ys
    have l1 : (sg z1).length = ys.length := by rw [sz1]; exact j2
    have w1 : Low (sg z1) := by rw [sz1]; exact j3
    clear hz1
    have sx2 : Sx (one b) H H2 := hA1.sx.trans s2
    have gr2 : Gr H H2 := (At.gr hA1 hB1.there).trans g2
    have hu2 := sx2 u _ ub hu
    dsimp only [gName]
    with_reducible refine seq_join (fun σ3 H' => ∃ (z : Str) (y4 y5 : Option V), σ3 = [some (.ref b), some (.ref u), some (.str al), some (.str z), y4, y5, none, none, none, none] ∧ ok6 z ∧ Sx (one b) H H' ∧ Gr H H' ∧ Bag K M H' b) (fun hN => ?_) (fun σ H5 c => ?_)
    · have base0 := hN _ _ ⟨z1, none, none, rfl, ⟨by omega, by omega, w1⟩, sx2, gr2, hB2'⟩
      walk_at "g"
      refine ⟨!(ws.map V.str).isEmpty, .inl ⟨_, SqL.of hu2, rfl⟩, ?_⟩
      by_cases cn : ws = []
      · rw [show (!(ws.map V.str).isEmpty) = false by rw [cn]; rfl]
        exact base0
      · rw [show (!(ws.map V.str).isEmpty) = true by cases ws with | nil => exact absurd rfl cn | cons _ _ => rfl]
        have lpos : 0 < ws.length := List.length_pos_iff.mpr cn
        walk_at "g"
        refine ⟨b, 3, M, rfl, hB2', by omega, by omega, fun w4 H4 d0 d1 hA4 hB4 => ?_⟩
        have sx4 := sx2.trans hA4.sx
        have gr4 := gr2.trans (At.gr hA4 hB4.there)
        have hu4 := (hA4 u ub).trans hu2
        walk_at "g"
        walk_at "if"
        · walk_at "g"
          have lws : (ws.map V.str).length = ws.length := List.length_map _
          refine ⟨b, _, M, rfl, hB4, by omega, by omega, fun w5 H5 e0 e1 hA5 hB5 => ?_⟩
          obtain ⟨j, rfl⟩ : ∃ j : Nat, w5 = (j : Int) := ⟨w5.toNat, by omega⟩
          have hj : j < ws.length := by omega
          have sx5 := sx4.trans hA5.sx
          have gr5 := gr4.trans (At.gr hA5 hB5.there)
          have hu5 := (hA5 u ub).trans hu4
          obtain ⟨o1, o2, o3⟩ := hws ws[j] (List.getElem_mem hj)
          refine ⟨_, _, _, _, rfl, rfl, SqL.of hu5, atI_nat (by rw [List.getElem?_map, List.getElem?_eq_getElem hj]; rfl), ?_⟩
          walk_at "g"
          refine ⟨small26 (by omega), ?_⟩
          have snr : sg (cutS ws[j] none (some 6)) = (sg ws[j]).take 6 := sg_cut _ 6
          generalize cutS ws[j] none (some 6) = nr at snr
          have lnr : 1 ≤ (sg nr).length ∧ (sg nr).length ≤ 6 := by rw [snr, List.length_take]; omega
          have wnr : Low (sg nr) := by rw [snr]; exact Low.sub o3 fun c hc => List.mem_of_mem_take hc
          have lnr' := sg_len nr
          walk_at "g"
          refine ⟨small26 (by omega), ?_⟩
          walk_at "g"
          refine ⟨b, _, M, rfl, hB5, by omega, by omega, fun w6 H6 f0 f1 hA6 hB6 => ?_⟩
          obtain ⟨i, rfl⟩ : ∃ i : Nat, w6 = (i : Int) := ⟨w6.toNat, by omega⟩
          have hi : i < (sg nr).length := by omega
          walk_at "g"
          refine ⟨small26 (by omega), ?_⟩
          walk_at "g"
          refine ⟨b, 26, M, rfl, hB6, by omega, by omega, fun w7 H7 g0 g1 hA7 hB7 => ?_⟩
          obtain ⟨c, hc, c0, c1⟩ := at_al w7 g0 g1
          refine ⟨al, _, c, rfl, rfl, sal, hc, ?_⟩
          have sq1 : sg (cutS nr none (some (i : Int))) = (sg nr).take i := sg_cut _ i
          have sq2 : sg (cutS nr (some ((i : Int) + 1)) none) = (sg nr).drop (i + 1) := by
            have := sg_from nr (i + 1)
            rw [show (((i + 1 : Nat)) : Int) = (i : Int) + 1 by omega] at this
            exact this
          have lq1 : (cutS nr none (some (i : Int))).length ≤ 6 := by rw [← sg_len, sq1, List.length_take]; omega
          have lq2 : (cutS nr (some ((i : Int) + 1)) none).length ≤ 6 := by rw [← sg_len, sq2, List.length_drop]; omega
          refine ⟨_, _, rfl, rfl, ?_, ?_⟩
          · have e1 : (⟨#[c]⟩ : Str).length = 1 := rfl
            rw [e1, sizeLine_eq]
            omega
          walk_at "g"
          refine ⟨small26 (by omega), ?_⟩
          have sq3 : sg (cutS nr none (some (i : Int)) ++ (⟨#[c]⟩ : Str)) = (sg nr).take i ++ [c] := by rw [sg_app, sq1]
          refine ⟨_, _, rfl, rfl, ?_, ?_⟩
          · have e1 : (cutS nr none (some (i : Int)) ++ (⟨#[c]⟩ : Str)).length ≤ 7 := by
              rw [← sg_len, sq3, List.length_append, List.length_take]
              show _ + 1 ≤ 7
              omega
            rw [sizeLine_eq]
            omega
          have sq4 : sg (cutS nr none (some (i : Int)) ++ (⟨#[c]⟩ : Str) ++ cutS nr (some ((i : Int) + 1)) none) = (sg nr).take i ++ [c] ++ (sg nr).drop (i + 1) := by rw [sg_app, sq3, sq2]
          have len4 : ((sg nr).take i ++ [c] ++ (sg nr).drop (i + 1)).length = (sg nr).length := by
            rw [List.length_append, List.length_append, List.length_take, List.length_drop]
            show min i _ + 1 + _ = _
            omega
          refine hN _ _ ⟨_, _, _, rfl, ⟨by rw [sq4, len4]; omega, by rw [sq4, len4]; omega, ?_⟩, sx5.trans (hA6.sx.trans hA7.sx), gr5.trans ((At.gr hA6 hB6.there).trans (At.gr hA7 hB7.there)), hB7⟩
          rw [sq4]
          refine Low.app (Low.app (Low.sub wnr fun c hc => List.mem_of_mem_take hc) (fun d hd => ?_)) (Low.sub wnr fun c hc => List.mem_of_mem_drop hc)
          rw [List.mem_singleton.mp hd]
          exact ⟨c0, c1⟩
        · exact hN _ _ ⟨z1, none, none, rfl, ⟨by omega, by omega, w1⟩, sx4, gr4, hB4⟩
    · obtain ⟨z, y4, y5, rfl, ⟨z_1, z_6, z_l⟩, sx5, gr5, hB5⟩ := c
      have hu5 : H5 u = some (.lst (ws.map V.str)) := sx5 u _ ub hu
      have lws : (ws.map V.str).length = ws.length := List.length_map _
      have zle : z.length ≤ 6 := by rw [← sg_len]; exact z_6
      walk_at "g"
      refine ⟨szK rfl, fun p6 hp6 => ?_⟩
      have s6 : Same H5 (upd H5 p6 (.lst [.str (Str.ofString "item"), .str (Str.ofString "at")])) := same_new hp6
      have e6 : upd H5 p6 (.lst [.str (Str.ofString "item"), .str (Str.ofString "at")]) p6 = some (.lst [.str (Str.ofString "item"), .str (Str.ofString "at")]) := upd_same
      generalize upd H5 p6 (.lst [.str (Str.ofString "item"), .str (Str.ofString "at")]) = H6 at s6 e6
      have hu6 := s6 _ _ hu5
      refine ⟨u, p6, _, _, rfl, rfl, hu6, e6, by rw [lws, sizeLine_eq]; show ws.length + 2 ≤ _; omega, fun p7 hp7 => ?_⟩
      have ecat : ws.map V.str ++ [V.str (Str.ofString "item"), V.str (Str.ofString "at")] = (ws ++ [Str.ofString "item", Str.ofString "at"]).map V.str := by rw [List.map_append]; rfl
      rw [ecat]
      have s7 : Same H6 (upd H6 p7 (.lst ((ws ++ [Str.ofString "item", Str.ofString "at"]).map V.str))) := same_new hp7
      refine ⟨p7, _, rfl, .inl (SqL.of upd_same), rfl, flat_strs _, ?_⟩
      generalize upd H6 p7 (.lst ((ws ++ [Str.ofString "item", Str.ofString "at"]).map V.str)) = H7 at s7
      rw [in_strs]
      have s57 := s6.trans s7
      have hB7 := hB5.same s57
      have sx7 := sx5.trans (Sx.same s57)
      have gr7 := gr5.trans (Gr.same s57)
      walk_at "g"
      have hu7 := s57 _ _ hu5
      have mb := hB.w
      by_cases hz : z ∈ ws ++ [Str.ofString "item", Str.ofString "at"]
      · rw [decide_eq_true hz, if_neg Bool.false_ne_true]
        dsimp only
        rw [if_pos rfl]
        walk_at "g"
        refine ⟨by decide, by decide, fun D2 hD2 => ?_⟩
        have D2b : D2 ≠ b := fun y => hB7.there (by rw [← y]; exact hD2)
        refine rng_loop (lo := 0) (n := 676) (fun i H' => Same H7 H' ∧ H' D2 = some (.lst (((List.range i).map (tl2 (sg al))).map V.str))) ⟨same_new hD2, upd_same⟩ (fun i H' hi p => ?_) (fun H8 p => ?_)
        · obtain ⟨s8, eD⟩ := p
          have hi' : i < 676 := hi
          rw [Int.zero_add]
          refine ⟨rfl, ?_⟩
          walk_at "g"
          have k1 : i / 26 < 26 := by omega
          have k2 : i % 26 < 26 := Nat.mod_lt _ (by decide)
          refine ⟨al, _, (sg al).getD (i / 26) 0, rfl, rfl, sal, ?_, ?_⟩
          · rw [show ((i : Int) / 26) = ((i / 26 : Nat) : Int) by omega]
            exact atI_nat (gd _ k1)
          walk_at "g"
          refine ⟨al, _, (sg al).getD (i % 26) 0, rfl, rfl, sal, ?_, ?_⟩
          · rw [show ((i : Int) % 26) = ((i % 26 : Nat) : Int) by omega]
            exact atI_nat (gd _ k2)
          refine ⟨_, _, rfl, rfl, by rw [sizeLine_eq]; show 1 + 1 ≤ _; omega, ?_⟩
          have l1 : (((List.range i).map (tl2 (sg al))).map V.str).length = i := by rw [List.length_map, List.length_map, List.length_range]
          refine ⟨_, eD, small1000 (by omega), same_put s8 hD2, ?_⟩
          rw [upd_same, List.range_succ, List.map_append, List.map_append]
          rfl
        obtain ⟨s8, eD8⟩ := p
        have eD8 : H8 D2 = some (.lst (((List.range 676).map (tl2 (sg al))).map V.str)) := eD8
        have s78 : Same H5 H8 := s57.trans s8
        have hu8 := s78 _ _ hu5
        walk_at "g"
        refine ⟨⟨_, SqL.of eD8⟩, fun D3 hD3 => ?_⟩
        obtain ⟨f, hf⟩ : ∃ f : Nat → Str, f = fun k => cutS z none (some 6) ++ tl2 (sg al) k := ⟨_, rfl⟩
        obtain ⟨LL, hLL⟩ : ∃ L : List Str, L = ws ++ [Str.ofString "item"] := ⟨_, rfl⟩
        have lLL : LL.length ≤ 11 := by rw [hLL, List.length_append]; show ws.length + 1 ≤ 11; omega
        have c6 : (cutS z none (some 6)).length ≤ 6 := by
          have := sg_cut z 6
          rw [← sg_len, show sg (cutS z none (some 6)) = (sg z).take 6 from this, List.length_take]
          omega
        refine list_loop (xs := ((List.range 676).map (tl2 (sg al))).map V.str) (fun i H' => Same H8 H' ∧ H' D3 = some (.lst ((((List.range i).map f).filter (fun y => decide (y ∉ LL))).map V.str))) ⟨same_new hD3, upd_same⟩ (fun i H' _ p => SqL.of (p.1 _ _ eD8)) (fun i x H' hx p => ?_) (fun H9 p => ?_)
        · obtain ⟨s9, eD9⟩ := p
          have hi : i < 676 := by
            have := (List.getElem?_eq_some_iff.mp hx).1
            rw [List.length_map, List.length_map, List.length_range] at this
            exact this
          rw [List.getElem?_map, List.getElem?_map, List.getElem?_range hi] at hx
          cases hx
          have hu9 := s9 _ _ hu8
          refine ⟨rfl, ?_⟩
          walk_at "g"
          refine ⟨small26 (by omega), ?_⟩
          have l2 : (tl2 (sg al) i).length = 2 := rfl
          walk_at "g"
          refine ⟨by rw [l2, sizeLine_eq]; omega, ?_⟩
          walk_at "g"
          refine ⟨szK rfl, fun p1 hp1 => ?_⟩
          have t1 : Same H' (upd H' p1 (.lst [.str (Str.ofString "item")])) := same_new hp1
          have e1 : upd H' p1 (.lst [.str (Str.ofString "item")]) p1 = some (.lst [.str (Str.ofString "item")]) := upd_same
          generalize upd H' p1 (.lst [.str (Str.ofString "item")]) = G1 at t1 e1
          refine ⟨u, p1, _, _, rfl, rfl, t1 _ _ hu9, e1, by rw [lws, sizeLine_eq]; show ws.length + 1 ≤ _; omega, fun p2 hp2 => ?_⟩
          have ecat2 : ws.map V.str ++ [V.str (Str.ofString "item")] = LL.map V.str := by rw [hLL, List.map_append]; rfl
          rw [ecat2]
          have t2 : Same G1 (upd G1 p2 (.lst (LL.map V.str))) := same_new hp2
          refine ⟨p2, _, rfl, .inl (SqL.of upd_same), rfl, flat_strs _, ?_⟩
          generalize upd G1 p2 (.lst (LL.map V.str)) = G2 at t2
          rw [in_strs, if_pos rfl]
          have t12 := t1.trans t2
          have e9 := t12 _ _ eD9
          have lf : (((List.range i).map f).filter (fun y => decide (y ∉ LL))).length ≤ i := Nat.le_trans (List.length_filter_le _ _) (by rw [List.length_map, List.length_range]; exact Nat.le_refl _)
          have fi : f i = cutS z none (some 6) ++ tl2 (sg al) i := by rw [hf]
          have step : ((List.range (i + 1)).map f).filter (fun y => decide (y ∉ LL)) = ((List.range i).map f).filter (fun y => decide (y ∉ LL)) ++ if f i ∈ LL then [] else [f i] := by
            rw [List.range_succ, List.map_append, List.filter_append]
            congr 1
            by_cases c : f i ∈ LL
            · rw [if_pos c]; simp [c]
            · rw [if_neg c]; simp [c]
          rw [step]
          by_cases c : f i ∈ LL
          · rw [← fi, decide_eq_true c, if_pos c, List.append_nil]
            exact ⟨_, rfl, s9.trans t12, e9⟩
          · rw [← fi, decide_eq_false c, if_neg c]
            refine ⟨_, rfl, ?_⟩
            dsimp only
            rw [if_pos (by rfl : (!false) = true)]
            walk_at "g"
            refine ⟨small26 (by omega), ?_⟩
            walk_at "g"
            refine ⟨by rw [l2, sizeLine_eq]; omega, ?_⟩
            refine ⟨_, e9, small1000 (by rw [List.length_map]; omega), same_put (s9.trans t12) hD3, ?_⟩
            rw [upd_same, List.map_append, ← fi]
            rfl
        obtain ⟨s9, eD9⟩ := p
        have eD9 : H9 D3 = some (.lst ((((List.range 676).map f).filter (fun y => decide (y ∉ LL))).map V.str)) := by
          have := eD9
          rw [List.length_map, List.length_map, List.length_range] at this
          exact this
        obtain ⟨y0, rest, ey⟩ : ∃ y0 rest, ((List.range 676).map f).filter (fun y => decide (y ∉ LL)) = y0 :: rest := by
          cases e : ((List.range 676).map f).filter (fun y => decide (y ∉ LL)) with
          | cons y r => exact ⟨y, r, rfl⟩
          | nil =>
            exfalso
            have all : ∀ k, k < 676 → f k ∈ LL := fun k hk => by
              by_cases c : f k ∈ LL
              · exact c
              · exfalso
                have : f k ∈ ((List.range 676).map f).filter (fun y => decide (y ∉ LL)) := List.mem_filter.mpr ⟨List.mem_map.mpr ⟨k, List.mem_range.mpr hk, rfl⟩, decide_eq_true c⟩
                rw [e] at this
                exact nomatch this
            have inj : ∀ i j : Nat, i < 26 → j < 26 → f i = f j → i = j := fun i j hi hj h => by
              have h2 := congrArg sg h
              rw [hf] at h2
              dsimp only at h2
              rw [sg_app, sg_app] at h2
              have h3 := List.append_cancel_left h2
              have h4 : [(sg al).getD (i / 26) 0, (sg al).getD (i % 26) 0] = [(sg al).getD (j / 26) 0, (sg al).getD (j % 26) 0] := h3
              injection h4 with _ h5
              injection h5 with h6 _
              rw [Nat.mod_eq_of_lt hi, Nat.mod_eq_of_lt hj] at h6
              have g1 := gd i hi
              have g2 := gd j hj
              rw [← h6] at g2
              exact (List.getElem?_inj (show i < (sg al).length by omega) nda).mp (g1.trans g2.symm)
            have nd : ((List.range 26).map f).Nodup := by
              rw [List.nodup_iff_pairwise_ne, List.pairwise_map]
              refine List.Pairwise.imp_of_mem (fun {x y} hx hy hxy h => hxy (inj x y (List.mem_range.mp hx) (List.mem_range.mp hy) h)) (List.nodup_range (n := 26))
            have := (sub_len LL ((List.range 26).map f) nd fun x hx => by
              obtain ⟨k, hk, rfl⟩ := List.mem_map.mp hx
              exact all k (by have := List.mem_range.mp hk; omega)).1
            rw [List.length_map, List.length_range] at this
            omega
        have my : y0 ∈ ((List.range 676).map f).filter (fun y => decide (y ∉ LL)) := by rw [ey]; exact List.mem_cons_self
        obtain ⟨m1, m2⟩ := List.mem_filter.mp my
        obtain ⟨k0, hk0, rfl⟩ := List.mem_map.mp m1
        have hk0 := List.mem_range.mp hk0
        have nL : f k0 ∉ LL := of_decide_eq_true m2
        rw [ey] at eD9
        have sgf : sg (f k0) = (sg z).take 6 ++ [(sg al).getD (k0 / 26) 0, (sg al).getD (k0 % 26) 0] := by
          rw [hf]
          dsimp only
          rw [sg_app]
          congr 1
          exact sg_cut z 6
        have okf : okN (f k0) := by
          have lt : ((sg z).take 6).length ≤ 6 := by rw [List.length_take]; omega
          refine ⟨by rw [sgf, List.length_append]; show 1 ≤ _ + 2; omega, by rw [sgf, List.length_append]; show _ + 2 ≤ 8; omega, ?_⟩
          rw [sgf]
          refine Low.app (Low.sub z_l fun c hc => List.mem_of_mem_take hc) (fun d hd => ?_)
          have kk1 : k0 / 26 < 26 := by omega
          have kk2 : k0 % 26 < 26 := Nat.mod_lt _ (by decide)
          rcases List.mem_cons.mp hd with rfl | hd
          · exact low _ (List.mem_of_getElem? (gd _ kk1))
          · rw [List.mem_singleton.mp hd]
            exact low _ (List.mem_of_getElem? (gd _ kk2))
        have s59 : Same H5 H9 := s78.trans s9
        have hu9 := s59 _ _ hu5
        have at0 : atI ((f k0 :: rest).map V.str) ((0 : Nat) : Int) = some (V.str (f k0)) := atI_nat (by simp)
        walk_at "g"
        refine ⟨_, _, _, _, rfl, rfl, SqL.of eD9, at0, ?_⟩
        walk_at "g"
        refine ⟨.inl ⟨rfl, _, SqL.of hu9⟩, ?_⟩
        walk_at "g"
        refine ⟨u, _, _, rfl, rfl, hu9, small1000000 (by omega), ?_⟩
        walk_at "g"
        have sP : Sx (one u) H9 (upd H9 u (.lst (ws.map V.str ++ [V.str (f k0)]))) := Sx.put rfl
        refine q _ (f k0) (((sx5.trans (Sx.same s59)).le fun c y => .inl y).trans (sP.le fun c y => .inr y)) ((gr5.trans (Gr.same s59)).trans Gr.upd) ((hB5.same s59).keep sP (Ne.symm ub) (one_le mu)) ?_ okf (fun y => nL (by rw [hLL]; exact List.mem_append_left _ y))
        rw [upd_same, List.map_append]
        rfl
      · rw [decide_eq_false hz]
        have zn : z ∉ ws := fun y => hz (List.mem_append_left _ y)
        walk_at "g"
        refine ⟨.inl ⟨rfl, _, SqL.of hu7⟩, ?_⟩
        walk_at "g"
        refine ⟨u, _, _, rfl, rfl, hu7, small1000000 (by omega), ?_⟩
        walk_at "g"
        have sP : Sx (one u) H7 (upd H7 u (.lst (ws.map V.str ++ [V.str z]))) := Sx.put rfl
        refine q _ z ((sx7.le fun c y => .inl y).trans (sP.le fun c y => .inr y)) (gr7.trans Gr.upd) (hB7.keep sP (Ne.symm ub) (one_le mu)) ?_ ⟨z_1, by omega, z_l⟩ zn
        rw [upd_same, List.map_append]
        rfl
end
end D

namespace D
open PySem PySem.Spec PyProof.Rows L2
local macro_rules | `(tactic| walk_at "st") => `(tactic| first | exact SqT.of (by assumption) | exact Or.inl (by assumption) | exact SqT.of upd_same | fail "st")
local macro_rules | `(tactic| walk_at "ixt") => `(tactic| refine ⟨_, _, _, _, rfl, rfl, (by walk_at "st" : SqT _ _ _ _), by rfl, ?_⟩)
local macro_rules | `(tactic| walk_at "sq") => `(tactic| first | exact SqL.of (by assumption) | assumption | exact Or.inl (by assumption) | exact SqL.of upd_same | fail "sq")
local macro_rules | `(tactic| walk_at "ix") => `(tactic| refine ⟨_, _, _, _, rfl, rfl, (by walk_at "sq" : SqL _ _ _ _), by rfl, ?_⟩)
local macro_rules | `(tactic| walk_at "set") => `(tactic| refine ⟨_, _, _, _, rfl, rfl, by first | assumption | exact upd_same, by rfl, ?_⟩)
local macro_rules | `(tactic| walk_at "len") => `(tactic| refine ⟨_, _, rfl, Or.inl (by walk_at "sq" : SqL _ _ _ _), ?_⟩)
local macro_rules | `(tactic| walk_at "g") => `(tactic| repeat (first | refine ⟨_, rfl, ?_⟩ | refine ⟨_, _, rfl, rfl, ?_⟩ | refine ⟨Or.inr (by decide), ?_⟩ | refine ⟨Or.inl (by decide), ?_⟩ | refine ⟨(by decide : (0 : Int) < _), ?_⟩ | refine ⟨(⟨by decide, by decide⟩ : CDiv _ _), ?_⟩ | refine ⟨(⟨by decide, by decide, by decide⟩ : CPow _ _), ?_⟩ | refine Or.inl ⟨_, rfl, ?_⟩ | refine ⟨rfl, ?_⟩ | walk_at "ix" | walk_at "ixt" | walk_at "len" | fail "g"))
local macro_rules | `(tactic| walk_at "if") => `(tactic| refine ite2 (fun e => ?_) (fun e => ?_))
section
variable {P : Program} {w : World} {K : PySem.W.Frag} {mg : Str → Option Value} {base : Heap}
def rowD (ns : List Int) : PyData := .tuple (ns.map PyData.int)
/-- what an entry holds -/
structure En where
  ov : V
  word : Str
  who : Int
  ticket : Int
  question : Int
  answer : Int
def En.fs (e : En) : List (Str × V) := [("owner", e.ov), ("word", .str e.word), ("who", .int e.who), ("ticket", .int e.ticket), ("question", .int e.question), ("answer", .int e.answer)]
def EnAt (C : Addr) (M : Ms) (H : Hp) (v : V) (e : En) : Prop := ∃ a dx, v = .ref a ∧ ¬ M a ∧ H a = some (.ins C dx e.fs)
theorem EnAt.sx {C : Addr} {M : Ms} {H H' : Hp} {v : V} {e : En} (h : EnAt C M H v e) (s : Sx M H H') : EnAt C M H' v e := by
  obtain ⟨a, dx, rfl, n, ha⟩ := h
  exact ⟨a, dx, rfl, n, s _ _ n ha⟩
theorem EnAt.fresh {C : Addr} {M : Ms} {H : Hp} {v : V} {e : En} {p : Addr} (h : EnAt C M H v e) (hp : H p = none) : EnAt C (also M p) H v e := by
  obtain ⟨a, dx, rfl, n, ha⟩ := h
  exact ⟨a, dx, rfl, fun z => z.elim n fun z => (by rw [show a = p from z, hp] at ha; cases ha), ha⟩
def sp_einit (C : Addr) : Sp := fun vs H Q _ => ∃ (a dx : Addr) (e : En), vs = [.ref a, e.ov, .str e.word, .int e.who, .int e.ticket, .int e.question, .int e.answer] ∧ H a = some (.ins C dx []) ∧ Q .non (upd H a (.ins C dx e.fs))
theorem ok_einit (T : Txt K mg) : FnOk P w K mg base CX0 1 T.f_Entry___init__ T.d_Entry___init__ ["self", "owner", "word", "who", "ticket", "question", "answer"] (sp_einit T.C_Entry) := by
  refine T.F_Entry___init__.ok sc_Entry___init__ (fun vs H Q E h => ?_) (fun cdv A outer s H vs Q E hr h => ?_)
  · obtain ⟨_, _, _, rfl, _⟩ := h
    rfl
  · obtain ⟨a, dx, e, rfl, ha, q⟩ := h
    refine ⟨_, (pss_cons (ps_fld (pv 0) (pv 1) rfl)
      (pss_cons (ps_fld (pv 0) (pv 2) rfl)
      (pss_cons (ps_fld (pv 0) (pv 3) rfl)
      (pss_cons (ps_fld (pv 0) (pv 4) rfl)
      (pss_cons (ps_fld (pv 0) (pv 5) rfl)
      (pss_one (ps_fld (pv 0) (pv 6) rfl))))))), ?_⟩
    walk_at "g"
    refine ⟨a, _, dx, [], rfl, ha, T.cl_Entry, T.nA_Entry_owner, (by decide : 0 < 1000), ?_⟩
    walk_at "g"
    refine ⟨a, _, dx, _, rfl, upd_same, T.cl_Entry, T.nA_Entry_word, (by decide : 1 < 1000), ?_⟩
    walk_at "g"
    refine ⟨a, _, dx, _, rfl, upd_same, T.cl_Entry, T.nA_Entry_who, (by decide : 2 < 1000), ?_⟩
    walk_at "g"
    refine ⟨a, _, dx, _, rfl, upd_same, T.cl_Entry, T.nA_Entry_ticket, (by decide : 3 < 1000), ?_⟩
    walk_at "g"
    refine ⟨a, _, dx, _, rfl, upd_same, T.cl_Entry, T.nA_Entry_question, (by decide : 4 < 1000), ?_⟩
    walk_at "g"
    refine ⟨a, _, dx, _, rfl, upd_same, T.cl_Entry, T.nA_Entry_answer, (by decide : 5 < 1000), ?_⟩
    rw [upd_upd, upd_upd, upd_upd, upd_upd, upd_upd]
    exact q
/-- a line -/
def lnFs (fv lv : V) (room ed tk : Int) : List (Str × V) := [("_far", fv), ("_room", .int room), ("_edition", .int ed), ("_tickets", .int tk), ("_entries", lv)]
def sp_linit (K : PySem.W.Frag) (C : Addr) : Sp := fun vs H Q _ => ∃ (a dx f : Addr) (xs : List V) (room : Int), vs = [.ref a, .ref f, .int room] ∧ H a = some (.ins C dx []) ∧ Rd H f (.tup xs) ∧
  ∀ l, H l = none → Q .non (upd (upd H l (.lst [])) a (.ins C dx (lnFs (.ref f) (.ref l) room 0 0)))
theorem ok_linit (T : Txt K mg) : FnOk P w K mg base CX0 1 T.f_Line___init__ T.d_Line___init__ ["self", "far", "room"] (sp_linit K T.C_Line) := by
  refine T.F_Line___init__.ok sc_Line___init__ (fun vs H Q E h => ?_) (fun cdv A outer s H vs Q E hr h => ?_)
  · obtain ⟨_, _, _, _, _, rfl, _⟩ := h
    rfl
  · obtain ⟨a, dx, f, xs, room, rfl, ha, hf, q⟩ := h
    refine ⟨_, (pss_cons (ps_fld (pv 0) (pe_callTy (call_tupleK (K := K) rfl) (by rfl) T.m_tuple (by decide +kernel) (pa_cons (pv 1) pa_nil)) rfl)
      (pss_cons (ps_fld (pv 0) (pv 2) rfl)
      (pss_cons (ps_fld (pv 0) pe_int rfl)
      (pss_cons (ps_fld (pv 0) pe_int rfl)
      (pss_one (ps_fld (pv 0) (pe_lst pa_nil) rfl)))))), ?_⟩
    walk_at "g"
    refine ⟨f, xs, rfl, .inr ⟨.inl hf, ?_⟩⟩
    walk_at "g"
    refine ⟨a, _, dx, [], rfl, ha, T.cl_Line, T.nA_Line__far, (by decide : 0 < 1000), ?_⟩
    walk_at "g"
    refine ⟨a, _, dx, _, rfl, upd_same, T.cl_Line, T.nA_Line__room, (by decide : 1 < 1000), ?_⟩
    walk_at "g"
    refine ⟨a, _, dx, _, rfl, upd_same, T.cl_Line, T.nA_Line__edition, (by decide : 2 < 1000), ?_⟩
    walk_at "g"
    refine ⟨a, _, dx, _, rfl, upd_same, T.cl_Line, T.nA_Line__tickets, (by decide : 3 < 1000), ?_⟩
    walk_at "g"
    refine ⟨szK rfl, fun l hl => ?_⟩
    have la : l ≠ a := fun z => by rw [z, upd_same] at hl; cases hl
    rw [upd_upd, upd_upd, upd_upd, upd_ne la] at hl
    walk_at "g"
    refine ⟨a, _, dx, _, rfl, (upd_ne (Ne.symm la)).trans upd_same, T.cl_Line, T.nA_Line__entries, (by decide : 4 < 1000), ?_⟩
    have e : upd (upd (upd (upd (upd (upd H a (.ins T.C_Line dx (putF (Str.ofString "_far") (.ref f) []))) a (.ins T.C_Line dx (putF (Str.ofString "_room") (.int room) (putF (Str.ofString "_far") (.ref f) [])))) a (.ins T.C_Line dx (putF (Str.ofString "_edition") (.int 0) (putF (Str.ofString "_room") (.int room) (putF (Str.ofString "_far") (.ref f) []))))) a (.ins T.C_Line dx (putF (Str.ofString "_tickets") (.int 0) (putF (Str.ofString "_edition") (.int 0) (putF (Str.ofString "_room") (.int room) (putF (Str.ofString "_far") (.ref f) [])))))) l (.lst [])) a (.ins T.C_Line dx (lnFs (.ref f) (.ref l) room 0 0)) = upd (upd H l (.lst [])) a (.ins T.C_Line dx (lnFs (.ref f) (.ref l) room 0 0)) := by
      funext c
      by_cases h1 : c = a
      · rw [h1, upd_same, upd_same]
      · rw [upd_ne h1, upd_ne h1]
        by_cases h2 : c = l
        · rw [h2, upd_same, upd_same]
        · rw [upd_ne h2, upd_ne h2, upd_ne h1, upd_ne h1, upd_ne h1, upd_ne h1]
    have q' := q l hl
    rw [← e] at q'
    exact q'
def LnAt (C : Addr) (H : Hp) (a l : Addr) (fv : V) (room ed tk : Int) (vs : List V) : Prop := ∃ dx, H a = some (.ins C dx (lnFs fv (.ref l) room ed tk)) ∧ H l = some (.lst vs)
def sp_send (CE C : Addr) : Sp := fun vs H Q _ => ∃ (a l : Addr) (fv ov : V) (wd : Str) (who qn ans : Int) (room ed tk : Int) (es : List V) (st : List (List Int)) (M : Ms), vs = [.ref a, ov, .str wd, .int who, .int qn] ∧ LnAt C H a l fv room ed tk es ∧ Rp M H fv (.tuple (st.map rowD)) ∧ M a ∧ M l ∧ a ≠ l ∧ Mk M H ∧ es.length ≤ 1000 ∧
  (∃ (i j : Nat) (r : List Int), ed = (i : Int) ∧ st[i]? = some r ∧ qn = (j : Int) ∧ r[j]? = some ans) ∧
  ∀ H' x, Sx (also (one a) l) H H' → Gr H H' → EnAt CE M H' x ⟨ov, wd, who, tk, qn, ans⟩ → LnAt C H' a l fv room ed (tk + 1) (if ((es.length : Int) + 1) > room then (es ++ [x]).eraseIdx 0 else es ++ [x]) → Q x H'
theorem ok_send (T : Txt K mg) : FnOk P w K mg base CX0 4 T.f_Line_send T.d_Line_send ["self", "owner", "word", "who", "question"] (sp_send T.C_Entry T.C_Line) := by
  have G_Entry___init__ := ok_einit (P := P) (w := w) (base := base) T
  refine T.F_Line_send.ok sc_Line_send (fun vs H Q E h => ?_) (fun cdv A outer s H vs Q E hr h => ?_)
  · obtain ⟨_, _, _, _, _, _, _, _, _, _, _, _, _, _, rfl, _⟩ := h
    rfl
  · obtain ⟨a, l, fv, ov, wd, who, qn, ans, room, ed, tk, es, st, M, rfl, ⟨dx, ha, hl⟩, hF, ma, ml, al, hM, les, ⟨i, j, r, rfl, hi, rfl, hj⟩, q⟩ := h
    obtain ⟨f, xs, rfl, nf, hf, rx⟩ := Rp.tupX hF
    obtain ⟨y, hy, ry⟩ := rx.getD (i := i) (d := rowD r) (by rw [List.getElem?_map, hi]; rfl)
    obtain ⟨t, ys, rfl, nt, ht, rys⟩ := Rp.tupX (show Rp M H y (.tuple (r.map PyData.int)) from ry)
    have ey := rys.ofInts
    subst ey
    refine ⟨_, (pss_cons (ps_set (i := 5) sc_Line_send.nd rfl (Or.inl rfl) (pe_make ⟨T.mk_Entry, T.a_Entry___init__, T.i_Entry___init__, T.kc_Entry⟩ G_Entry___init__ (hr.mono (by omega)) (by rfl) T.g_Entry T.b_Entry___init__ .nil pass0 (pa_cons (pv 1) (pa_cons (pv 2) (pa_cons (pv 3) (pa_cons (pe_fldK (K := K) rfl (pv 0) rfl) (pa_cons (pv 4) (pa_cons (pe_ix (ix_tupK (K := K) rfl) (pe_ix (ix_tupK (K := K) rfl) (pe_fldK (K := K) rfl (pv 0) rfl) (pe_fldK (K := K) rfl (pv 0) rfl) (fun _ _ => rfl)) (pv 4) (fun _ _ => rfl)) pa_nil))))))))
      (pss_cons (ps_fldaug (pv 0) pe_int ip_add)
      (pss_cons (ps_expr (pe_bmK2 (K := K) rfl PySem.F.plainAttrs_list PySem.F.slot_list_append PySem.F.type_list_append mt_append (pe_fldK (K := K) rfl (pv 0) rfl) (pa_cons (pv 5) pa_nil)))
      (pss_cons (ps_if (pt_cmpR op_gt (pe_callB (call_lenK (K := K) rfl) (by rfl) T.m_len PySem.boot_len (pa_cons (pe_fldK (K := K) rfl (pv 0) rfl) pa_nil)) (pe_fldK (K := K) rfl (pv 0) rfl) (nomark _)) (pss_one (ps_delL (pe_fldK (K := K) rfl (pv 0) rfl) pe_int)) pss_nil)
      (pss_one (ps_ret (pv 5))))))), ?_⟩
    walk_at "g"
    refine ⟨a, _, dx, _, _, rfl, ha, T.cl_Line, T.nA_Line__tickets, rfl, ?_⟩
    walk_at "g"
    refine ⟨a, _, dx, _, _, rfl, ha, T.cl_Line, T.nA_Line__far, rfl, ?_⟩
    walk_at "g"
    refine ⟨a, _, dx, _, _, rfl, ha, T.cl_Line, T.nA_Line__edition, rfl, ?_⟩
    refine ⟨_, _, _, _, rfl, rfl, SqT.of hf, atI_nat hy, ?_⟩
    walk_at "g"
    refine ⟨_, _, _, _, rfl, rfl, SqT.of ht, (show atI (r.map V.int) (j : Int) = some (.int ans) from atI_nat (by rw [List.getElem?_map, hj]; rfl)), ?_⟩
    walk_at "g"
    intro xe de hxe hde hne
    have hx2 : upd H de (.own xe) xe = none := by rw [upd_ne (fun z => hne z.symm)]; exact hxe
    have s1 : Same H (upd (upd H de (.own xe)) xe (.ins T.C_Entry de [])) := (same_new hde).trans (same_new hx2)
    refine ⟨xe, de, ⟨ov, wd, who, tk, (j : Int), ans⟩, rfl, upd_same, ?_⟩
    have s2 : Same H (upd (upd (upd H de (.own xe)) xe (.ins T.C_Entry de [])) xe (.ins T.C_Entry de (En.fs ⟨ov, wd, who, tk, (j : Int), ans⟩))) := same_put s1 hxe
    have ee : upd (upd (upd H de (.own xe)) xe (.ins T.C_Entry de [])) xe (.ins T.C_Entry de (En.fs ⟨ov, wd, who, tk, (j : Int), ans⟩)) xe = some (.ins T.C_Entry de (En.fs ⟨ov, wd, who, tk, (j : Int), ans⟩)) := upd_same
    refine ⟨rfl, ?_⟩
    generalize upd (upd (upd H de (.own xe)) xe (.ins T.C_Entry de [])) xe (.ins T.C_Entry de (En.fs ⟨ov, wd, who, tk, (j : Int), ans⟩)) = H2 at s2 ee
    have ha2 := s2 _ _ ha
    have hl2 := s2 _ _ hl
    walk_at "g"
    refine ⟨a, _, dx, _, _, rfl, ha2, T.cl_Line, T.nA_Line__tickets, rfl, ?_⟩
    walk_at "g"
    refine ⟨dx, _, ha2, (by decide : 5 < 1000), ?_⟩
    have e3 : upd H2 a (.ins T.C_Line dx (putF (Str.ofString "_tickets") (.int (tk + 1)) (lnFs (.ref f) (.ref l) room (i : Int) tk))) a = some (.ins T.C_Line dx (lnFs (.ref f) (.ref l) room (i : Int) (tk + 1))) := upd_same
    have sa3 : Sx (one a) H2 (upd H2 a (.ins T.C_Line dx (putF (Str.ofString "_tickets") (.int (tk + 1)) (lnFs (.ref f) (.ref l) room (i : Int) tk)))) := Sx.put rfl
    have ga3 : Gr H2 (upd H2 a (.ins T.C_Line dx (putF (Str.ofString "_tickets") (.int (tk + 1)) (lnFs (.ref f) (.ref l) room (i : Int) tk)))) := Gr.upd
    generalize upd H2 a (.ins T.C_Line dx (putF (Str.ofString "_tickets") (.int (tk + 1)) (lnFs (.ref f) (.ref l) room (i : Int) tk))) = H3 at e3 sa3 ga3
    have hl3 := sa3 _ _ (show ¬ one a l from Ne.symm al) hl2
    walk_at "g"
    refine ⟨a, _, dx, _, _, rfl, e3, T.cl_Line, T.nA_Line__entries, rfl, ?_⟩
    walk_at "g"
    refine ⟨.inl ⟨rfl, _, SqL.of hl3⟩, ?_⟩
    walk_at "g"
    refine ⟨l, es, _, rfl, rfl, hl3, small1000000 (by omega), ?_⟩
    have e4 : upd H3 l (.lst (es ++ [.ref xe])) l = some (.lst (es ++ [.ref xe])) := upd_same
    have sl4 : Sx (one l) H3 (upd H3 l (.lst (es ++ [.ref xe]))) := Sx.put rfl
    have gl4 : Gr H3 (upd H3 l (.lst (es ++ [.ref xe]))) := Gr.upd
    generalize upd H3 l (.lst (es ++ [.ref xe])) = H4 at e4 sl4 gl4
    have e34 := sl4 _ _ (show ¬ one l a from al) e3
    have nxe : ¬ M xe := hM.out hxe
    have xea : xe ≠ a := fun z => by rw [z, ha] at hxe; cases hxe
    have xel : xe ≠ l := fun z => by rw [z, hl] at hxe; cases hxe
    have ee4 := sl4 _ _ (show ¬ one l xe from xel) (sa3 _ _ (show ¬ one a xe from xea) ee)
    have sx4 : Sx (also (one a) l) H H4 := (Sx.same s2).trans ((sa3.le fun c z => .inl z).trans (sl4.le fun c z => .inr z))
    have gr4 : Gr H H4 := (Gr.same s2).trans (ga3.trans gl4)
    have le : (es ++ [V.ref xe]).length = es.length + 1 := List.length_append
    walk_at "g"
    refine ⟨a, _, dx, _, _, rfl, e34, T.cl_Line, T.nA_Line__entries, rfl, ?_⟩
    walk_at "g"
    refine ⟨a, _, dx, _, _, rfl, e34, T.cl_Line, T.nA_Line__room, rfl, ?_⟩
    walk_at "g"
    walk_at "if"
    · rename_i c
      have c' : ((es.length : Int) + 1) > room := by
        have := of_decide_eq_true c
        omega
      walk_at "g"
      refine ⟨a, _, dx, _, _, rfl, e34, T.cl_Line, T.nA_Line__entries, rfl, ?_⟩
      walk_at "g"
      refine ⟨l, _, 0, 0, rfl, rfl, e4, by decide, by decide, ?_, ?_⟩
      · have := seqIx (n := (es ++ [V.ref xe]).length) (j := 0) (by omega)
        exact this
      walk_at "g"
      have sl5 : Sx (one l) H4 (upd H4 l (.lst ((es ++ [V.ref xe]).eraseIdx 0))) := Sx.put rfl
      refine q _ _ (sx4.trans (sl5.le fun c z => .inr z)) (gr4.trans Gr.upd) ⟨xe, de, rfl, nxe, sl5 _ _ (show ¬ one l xe from xel) ee4⟩ ⟨dx, sl5 _ _ (show ¬ one l a from al) e34, ?_⟩
      rw [if_pos c']
      exact upd_same
    · rename_i c
      have c' : ¬ ((es.length : Int) + 1) > room := fun z => c (decide_eq_true (by omega))
      walk_at "g"
      refine q _ _ sx4 gr4 ⟨xe, de, rfl, nxe, ee4⟩ ⟨dx, e34, ?_⟩
      rw [if_neg c']
      exact e4
end
end D

namespace D
open PySem PySem.Spec PyProof.Rows L2
local macro_rules | `(tactic| walk_at "st") => `(tactic| first | exact SqT.of (by assumption) | exact Or.inl (by assumption) | exact SqT.of upd_same | fail "st")
local macro_rules | `(tactic| walk_at "ixt") => `(tactic| refine ⟨_, _, _, _, rfl, rfl, (by walk_at "st" : SqT _ _ _ _), by rfl, ?_⟩)
local macro_rules | `(tactic| walk_at "sq") => `(tactic| first | exact SqL.of (by assumption) | assumption | exact Or.inl (by assumption) | exact SqL.of upd_same | fail "sq")
local macro_rules | `(tactic| walk_at "ix") => `(tactic| refine ⟨_, _, _, _, rfl, rfl, (by walk_at "sq" : SqL _ _ _ _), by rfl, ?_⟩)
local macro_rules | `(tactic| walk_at "set") => `(tactic| refine ⟨_, _, _, _, rfl, rfl, by first | assumption | exact upd_same, by rfl, ?_⟩)
local macro_rules | `(tactic| walk_at "len") => `(tactic| refine ⟨_, _, rfl, Or.inl (by walk_at "sq" : SqL _ _ _ _), ?_⟩)
local macro_rules | `(tactic| walk_at "g") => `(tactic| repeat (first | refine ⟨_, rfl, ?_⟩ | refine ⟨_, _, rfl, rfl, ?_⟩ | refine ⟨Or.inr (by decide), ?_⟩ | refine ⟨Or.inl (by decide), ?_⟩ | refine ⟨(by decide : (0 : Int) < _), ?_⟩ | refine ⟨(⟨by decide, by decide⟩ : CDiv _ _), ?_⟩ | refine ⟨(⟨by decide, by decide, by decide⟩ : CPow _ _), ?_⟩ | refine Or.inl ⟨_, rfl, ?_⟩ | refine ⟨rfl, ?_⟩ | walk_at "ix" | walk_at "ixt" | walk_at "len" | fail "g"))
local macro_rules | `(tactic| walk_at "if") => `(tactic| refine ite2 (fun e => ?_) (fun e => ?_))
section
variable {P : Program} {w : World} {K : PySem.W.Frag} {mg : Str → Option Value} {base : Heap}
theorem erase_perm {α : Type} : ∀ (l : List α) (j : Nat) (d : α), l[j]? = some d → (d :: l.eraseIdx j).Perm l
  | [], j, d, h => by simp at h
  | x :: r, 0, d, h => by
    have e := Option.some.inj h
    subst e
    exact .refl _
  | x :: r, j + 1, d, h => by
    have ih := erase_perm r j d h
    show (d :: x :: r.eraseIdx j).Perm (x :: r)
    exact (List.Perm.swap x d _).trans (ih.cons x)
def sp_mingV (K : PySem.W.Frag) : Sp := fun vs H Q _ => ∃ (b a : Addr) (xs : List V) (M : Ms), vs = [.ref b, .ref a] ∧ Bag K M H b ∧ Mk M H ∧ SqL K H a xs ∧ xs.length ≤ 1000 ∧
  ∀ H' p ys, Sx (one b) H H' → Gr H H' → Bag K M H' b → H p = none → H' p = some (.lst ys) → ys.Perm xs → Q (.ref p) H'
theorem ok_mingV (T : Txt K mg) : FnOk P w K mg base CX0 3 T.f__law_mingled T.d__law_mingled ["_law_bag_here", "_law_things"] (sp_mingV K) := by
  have G__law_pick := ok_pick (P := P) (w := w) (base := base) T
  refine T.F__law_mingled.ok sc__law_mingled (fun vs H Q E h => ?_) (fun cdv A outer s H vs Q E hr h => ?_)
  · obtain ⟨_, _, _, _, rfl, _⟩ := h
    rfl
  · obtain ⟨b, a, xs, M, rfl, hB, hM, hS, hl, q⟩ := h
    refine ⟨_, (pss_cons (ps_set (i := 2) sc__law_mingled.nd rfl (Or.inl rfl) (pe_callTy (call_listK (K := K) rfl) (by rfl) T.m_list (by decide +kernel) (pa_cons (pv 1) pa_nil)))
      (pss_cons (ps_set (i := 3) sc__law_mingled.nd rfl (Or.inl rfl) (pe_lst pa_nil))
      (pss_cons (ps_for PassesOwn.never rfl (pi_range1 (by rfl) T.m_range (pa_cons (pe_callB (call_lenK (K := K) rfl) (by rfl) T.m_len PySem.boot_len (pa_cons (pv 1) pa_nil)) pa_nil)) (pg_name (i := 4) sc__law_mingled.nd rfl (Or.inl rfl)) (pss_one (ps_expr (pe_bmK2 (K := K) rfl PySem.F.plainAttrs_list PySem.F.slot_list_append PySem.F.type_list_append mt_append (pv 3) (pa_cons (pe_bmK2 (K := K) rfl PySem.F.plainAttrs_list PySem.F.slot_list_pop PySem.F.type_list_pop mt_popAt (pv 2) (pa_cons (pe_call G__law_pick (hr.mono (by omega)) (by rfl) T.g__law_pick T.F__law_pick.kp T.b__law_pick .nil pass0 (pa_cons (pv 0) (pa_cons (pe_callB (call_lenK (K := K) rfl) (by rfl) T.m_len PySem.boot_len (pa_cons (pv 2) pa_nil)) pa_nil))) pa_nil)) pa_nil)))))
      (pss_one (ps_ret (pv 3)))))), ?_⟩
    refine ⟨.ref a, rfl, a, xs, rfl, .inl hS, fun l nl => ?_⟩
    refine ⟨by show 0 ≤ sizeLine; exact Nat.zero_le _, fun o no => ?_⟩
    have lo : l ≠ o := ne_of_none upd_same no
    generalize e1 : upd (upd H l _) o _ = H1
    have s1 : Same H H1 := fun c u e => by rw [← e1]; exact same_new no c u (same_new nl c u e)
    have l1 : H1 l = some (.lst xs) := by rw [← e1, upd_ne lo, upd_same]
    have o1 : H1 o = some (.lst []) := by rw [← e1, upd_same]
    have no0 : H o = none := by
      rw [upd_ne lo.symm] at no
      exact no
    clear e1
    refine ⟨.ref a, rfl, a, xs, rfl, .inl (s1.seq hS), ?_⟩
    refine ⟨_, rfl, by omega, by omega, ?_⟩
    have hbl : b ≠ l := fun z => hB.there (by rw [z]; exact nl)
    have hbo : b ≠ o := fun z => hB.there (by rw [z]; exact no0)
    let N : Ms := also (also M l) o
    let F : Ms := also (also (one b) l) o
    have FN : ∀ c, F c → N c := fun c z => z.elim (fun z => z.elim (fun z => .inl (.inl (one_le hB.w c z))) fun z => .inl (.inr z)) .inr
    have hB1 : Bag K N H1 b := by
      have h1 := (hB.more nl).more no0
      exact h1.keep (N := fun _ => False) (fun c u _ e => s1 c u e) (fun z => z) (fun _ z => z.elim)
    refine for_range (lo := 0) (n := (xs.length : Int).toNat) (fun i σ H2 => (∃ y4, σ = [some (.ref b), some (.ref a), some (.ref l), some (.ref o), y4]) ∧ Sx F H H2 ∧ Gr H H2 ∧ Bag K N H2 b ∧
      ∃ ls os, H2 l = some (.lst ls) ∧ H2 o = some (.lst os) ∧ ls.length + i = xs.length ∧ os.length = i ∧ (ls ++ os).Perm xs) ?_ (fun i σ H2 hi p => ?_) (fun σ H2 p => ?_)
    · exact ⟨⟨_, rfl⟩, Sx.same s1, Gr.same s1, hB1, xs, [], l1, o1, by omega, rfl, by rw [List.append_nil]⟩
    · obtain ⟨⟨y4, rfl⟩, s2, g2, hB2, ls, os, l2, o2, e1, e2, m1⟩ := p
      have hls : 0 < ls.length := by omega
      refine ⟨.ref o, rfl, .inl ⟨rfl, _, SqL.of o2⟩, .ref l, rfl, .inl ⟨rfl, _, SqL.of l2⟩, ?_⟩
      walk_at "g"
      refine ⟨b, _, N, rfl, hB2, by omega, by omega, fun w H3 h0 h1 hA3 hB3 => ?_⟩
      have l3 : H3 l = some (.lst ls) := (hA3 l hbl.symm).trans l2
      have o3 : H3 o = some (.lst os) := (hA3 o hbo.symm).trans o2
      obtain ⟨j, rfl⟩ : ∃ j : Nat, w = (j : Int) := ⟨w.toNat, by omega⟩
      have hj : j < ls.length := by omega
      have s3 : Sx F H2 H3 := hA3.sx.le fun c z => .inl (.inl z)
      refine ⟨l, ls, (j : Int), j, ls[j], rfl, rfl, l3, by omega, by omega, ?_, List.getElem?_eq_getElem hj, ?_⟩
      · exact seqIx hj
      · have lno : o ≠ l := lo.symm
        have o4 : upd H3 l (.lst (ls.eraseIdx j)) o = some (.lst os) := by rw [upd_ne lno]; exact o3
        refine ⟨o, os, ls[j], rfl, rfl, o4, small1000000 (by omega), ?_⟩
        have s4 : Sx F H3 (upd (upd H3 l (.lst (ls.eraseIdx j))) o (.lst (os ++ [ls[j]]))) := (Sx.put (show F l from .inl (.inr rfl))).trans (Sx.put (show F o from .inr rfl))
        refine ⟨⟨_, rfl⟩, s2.trans (s3.trans s4), g2.trans ((At.gr hA3 hB3.there).trans (Gr.upd.trans Gr.upd)), ?_, ls.eraseIdx j, os ++ [ls[j]], ?_, upd_same, ?_, ?_, ?_⟩
        · exact (hB3.keep (N := one l) (Sx.put rfl) hbl (fun c z => by rw [show c = l from z]; exact .inl (.inr rfl))).keep (N := one o) (Sx.put rfl) hbo (fun c z => by rw [show c = o from z]; exact .inr rfl)
        · rw [upd_ne lo, upd_same]
        · rw [List.length_eraseIdx_of_lt hj]
          omega
        · rw [List.length_append, e2]
          rfl
        · refine List.Perm.trans ?_ m1
          rw [← List.append_assoc]
          refine (List.perm_append_comm).trans ?_
          exact (List.Perm.append_right os (erase_perm ls j _ (List.getElem?_eq_getElem hj)))
    · obtain ⟨⟨y4, rfl⟩, s2, g2, hB2, ls, os, l2, o2, e1, e2, m1⟩ := p
      have z : ls = [] := List.length_eq_zero_iff.mp (by omega)
      rw [z] at m1
      exact ⟨.ref o, rfl, q _ o os ((s2.cut no0).cut nl) g2 (hB2.less hB.w fun c z => .inl (.inl z)) no0 o2 m1⟩
/-- the marks of the rows that are buttons -/
inductive Wd where
  | any | own | same | both | last
deriving DecidableEq
def Wd.txt : Wd → Str
  | .any => Str.ofString "any"
  | .own => Str.ofString "own"
  | .same => Str.ofString "same"
  | .both => Str.ofString "both"
  | .last => Str.ofString "last"
def Wd.cls (T : Txt K mg) : Wd → Addr
  | .any => T.C_Fence
  | .own => T.C_Own
  | .same => T.C_Same
  | .both => T.C_Both
  | .last => T.C_Last
def Wd.reads : Wd → List Str
  | .any => []
  | .own => [Str.ofString "who"]
  | .same => [Str.ofString "question"]
  | .both => [Str.ofString "who", Str.ofString "question"]
  | .last => [Str.ofString "who", Str.ofString "question", Str.ofString "ticket"]
def Wd.lets : Wd → Bool → Bool → Bool → Bool
  | .any, _, _, _ => true
  | .own, a, _, _ => a
  | .same, _, b, _ => b
  | .both, a, b, _ => a && b
  | .last, a, b, c => a && b && c
def allW : List Wd := [.any, .own, .same, .both, .last]
def words : List Str := allW.map Wd.txt
structure TFam (T : Txt K mg) where
  r : Wd → Addr
  con : ∀ w : Wd, Con K (w.cls T) "READS" (.ref (r w)) (.ref (r w))
  sq : ∀ (w : Wd) (H : Hp), SqT K H (r w) (w.reads.map V.str)
  p : Addr
  t : mg "FENCES" = some (.ref p)
  fsq : ∀ H : Hp, SqT K H p (words.map V.str)
theorem clsW (T : Txt K mg) (w : Wd) : Cls K (w.cls T) := by cases w <;> first | exact T.cl_Fence | exact T.cl_Own | exact T.cl_Same | exact T.cl_Both | exact T.cl_Last
theorem insW (T : Txt K mg) (w : Wd) : C8.InsC K (w.cls T) := by cases w <;> first | exact T.in_Fence | exact T.in_Own | exact T.in_Same | exact T.in_Both | exact T.in_Last
/-- v is a fence of the word w -/
def FcAt (T : Txt K mg) (M : Ms) (H : Hp) (v : V) (w : Wd) : Prop := ∃ a dx, v = .ref a ∧ ¬ M a ∧ H a = some (.ins (w.cls T) dx [])
theorem FcAt.sx {T : Txt K mg} {M : Ms} {H H' : Hp} {v : V} {w : Wd} (h : FcAt T M H v w) (s : Sx M H H') : FcAt T M H' v w := by
  obtain ⟨a, dx, rfl, n, ha⟩ := h
  exact ⟨a, dx, rfl, n, s _ _ n ha⟩
theorem FcAt.same {T : Txt K mg} {M : Ms} {H H' : Hp} {v : V} {w : Wd} (h : FcAt T M H v w) (s : Same H H') : FcAt T M H' v w := h.sx (Sx.same s)
theorem FcAt.ty {T : Txt K mg} {M : Ms} {H : Hp} {v : V} {w : Wd} (h : FcAt T M H v w) : TyX K H v (.ref (w.cls T)) := by
  obtain ⟨a, dx, rfl, _, ha⟩ := h
  have i := insW T w
  exact .base (.ins ha i.cl i.ha i.hn i.htk i.hm)
def eqI (a b : Int) : Bool := decide (V.int a = V.int b)
def sp_lets (T : Txt K mg) (i : Wd) : Sp := fun vs H Q _ => ∃ (s e : V) (en : En) (who qn tk : Int) (M : Ms), vs = [s, e, .int who, .int qn, .int tk] ∧ EnAt T.C_Entry M H e en ∧ Q (.bl (i.lets (eqI en.who who) (eqI en.question qn) (eqI en.ticket tk))) H
theorem ok_lets_any (T : Txt K mg) : FnOk P w K mg base CX0 1 T.f_Fence_lets T.d_Fence_lets ["self", "entry", "who", "question", "ticket"] (sp_lets T .any) := by
  refine T.F_Fence_lets.ok sc_Fence_lets (fun vs H Q E h => ?_) (fun cdv A outer s H vs Q E hr h => ?_)
  · obtain ⟨_, _, _, _, _, _, _, rfl, _⟩ := h
    rfl
  · obtain ⟨s, e, en, who, qn, tk, M, rfl, ⟨a, dx, rfl, na, ha⟩, q⟩ := h
    refine ⟨_, (pss_one (ps_ret pe_bl)), ?_⟩
    walk_at "g"
    exact q
theorem ok_lets_own (T : Txt K mg) : FnOk P w K mg base CX0 1 T.f_Own_lets T.d_Own_lets ["self", "entry", "who", "question", "ticket"] (sp_lets T .own) := by
  refine T.F_Own_lets.ok sc_Own_lets (fun vs H Q E h => ?_) (fun cdv A outer s H vs Q E hr h => ?_)
  · obtain ⟨_, _, _, _, _, _, _, rfl, _⟩ := h
    rfl
  · obtain ⟨s, e, en, who, qn, tk, M, rfl, ⟨a, dx, rfl, na, ha⟩, q⟩ := h
    refine ⟨_, (pss_one (ps_ret (pe_cmpR op_eq (pe_fldK (K := K) rfl (pv 1) rfl) (pv 2) (nomark _)))), ?_⟩
    walk_at "g"
    refine ⟨a, _, dx, _, _, rfl, ha, T.cl_Entry, T.nA_Entry_who, rfl, ?_⟩
    walk_at "g"
    exact q
theorem ok_lets_same (T : Txt K mg) : FnOk P w K mg base CX0 1 T.f_Same_lets T.d_Same_lets ["self", "entry", "who", "question", "ticket"] (sp_lets T .same) := by
  refine T.F_Same_lets.ok sc_Same_lets (fun vs H Q E h => ?_) (fun cdv A outer s H vs Q E hr h => ?_)
  · obtain ⟨_, _, _, _, _, _, _, rfl, _⟩ := h
    rfl
  · obtain ⟨s, e, en, who, qn, tk, M, rfl, ⟨a, dx, rfl, na, ha⟩, q⟩ := h
    refine ⟨_, (pss_one (ps_ret (pe_cmpR op_eq (pe_fldK (K := K) rfl (pv 1) rfl) (pv 3) (nomark _)))), ?_⟩
    walk_at "g"
    refine ⟨a, _, dx, _, _, rfl, ha, T.cl_Entry, T.nA_Entry_question, rfl, ?_⟩
    walk_at "g"
    exact q
theorem ok_lets_both (T : Txt K mg) : FnOk P w K mg base CX0 1 T.f_Both_lets T.d_Both_lets ["self", "entry", "who", "question", "ticket"] (sp_lets T .both) := by
  refine T.F_Both_lets.ok sc_Both_lets (fun vs H Q E h => ?_) (fun cdv A outer s H vs Q E hr h => ?_)
  · obtain ⟨_, _, _, _, _, _, _, rfl, _⟩ := h
    rfl
  · obtain ⟨s, e, en, who, qn, tk, M, rfl, ⟨a, dx, rfl, na, ha⟩, q⟩ := h
    refine ⟨_, (pss_one (ps_ret (pe_and (pe_cmpR op_eq (pe_fldK (K := K) rfl (pv 1) rfl) (pv 2) (nomark _)) (pe_one (pe_cmpR op_eq (pe_fldK (K := K) rfl (pv 1) rfl) (pv 3) (nomark _)))))), ?_⟩
    walk_at "g"
    refine ⟨a, _, dx, _, _, rfl, ha, T.cl_Entry, T.nA_Entry_who, rfl, ?_⟩
    walk_at "g"
    by_cases c_who : decide (V.int en.who = V.int who) = true
    · rw [if_pos c_who]
      rw [show eqI en.who who = true from c_who] at q
      walk_at "g"
      refine ⟨a, _, dx, _, _, rfl, ha, T.cl_Entry, T.nA_Entry_question, rfl, ?_⟩
      walk_at "g"
      exact q
    · rw [if_neg c_who]
      rw [show eqI en.who who = false from Bool.eq_false_iff.mpr c_who] at q
      exact q
theorem ok_lets_last (T : Txt K mg) : FnOk P w K mg base CX0 1 T.f_Last_lets T.d_Last_lets ["self", "entry", "who", "question", "ticket"] (sp_lets T .last) := by
  refine T.F_Last_lets.ok sc_Last_lets (fun vs H Q E h => ?_) (fun cdv A outer s H vs Q E hr h => ?_)
  · obtain ⟨_, _, _, _, _, _, _, rfl, _⟩ := h
    rfl
  · obtain ⟨s, e, en, who, qn, tk, M, rfl, ⟨a, dx, rfl, na, ha⟩, q⟩ := h
    refine ⟨_, (pss_one (ps_ret (pe_and (pe_cmpR op_eq (pe_fldK (K := K) rfl (pv 1) rfl) (pv 2) (nomark _)) (pe_and (pe_cmpR op_eq (pe_fldK (K := K) rfl (pv 1) rfl) (pv 3) (nomark _)) (pe_one (pe_cmpR op_eq (pe_fldK (K := K) rfl (pv 1) rfl) (pv 4) (nomark _))))))), ?_⟩
    walk_at "g"
    refine ⟨a, _, dx, _, _, rfl, ha, T.cl_Entry, T.nA_Entry_who, rfl, ?_⟩
    walk_at "g"
    by_cases c_who : decide (V.int en.who = V.int who) = true
    · rw [if_pos c_who]
      rw [show eqI en.who who = true from c_who] at q
      walk_at "g"
      refine ⟨a, _, dx, _, _, rfl, ha, T.cl_Entry, T.nA_Entry_question, rfl, ?_⟩
      walk_at "g"
      by_cases c_question : decide (V.int en.question = V.int qn) = true
      · rw [if_pos c_question]
        rw [show eqI en.question qn = true from c_question] at q
        walk_at "g"
        refine ⟨a, _, dx, _, _, rfl, ha, T.cl_Entry, T.nA_Entry_ticket, rfl, ?_⟩
        walk_at "g"
        exact q
      · rw [if_neg c_question]
        rw [show eqI en.question qn = false from Bool.eq_false_iff.mpr c_question] at q
        exact q
    · rw [if_neg c_who]
      rw [show eqI en.who who = false from Bool.eq_false_iff.mpr c_who] at q
      exact q
theorem lets_all (T : Txt K mg) : MethW P w K mg base CX0 1 Wd (Wd.cls T) "lets" (sp_lets T) := fun i => ⟨clsW T i, by
  cases i
  · exact ⟨T.f_Fence_lets, T.d_Fence_lets, _, ⟨T.a_Fence_lets, T.i_Fence_lets, T.F_Fence_lets.kp⟩, ok_lets_any T, T.b_Fence_lets⟩
  · exact ⟨T.f_Own_lets, T.d_Own_lets, _, ⟨T.a_Own_lets, T.i_Own_lets, T.F_Own_lets.kp⟩, ok_lets_own T, T.b_Own_lets⟩
  · exact ⟨T.f_Same_lets, T.d_Same_lets, _, ⟨T.a_Same_lets, T.i_Same_lets, T.F_Same_lets.kp⟩, ok_lets_same T, T.b_Same_lets⟩
  · exact ⟨T.f_Both_lets, T.d_Both_lets, _, ⟨T.a_Both_lets, T.i_Both_lets, T.F_Both_lets.kp⟩, ok_lets_both T, T.b_Both_lets⟩
  · exact ⟨T.f_Last_lets, T.d_Last_lets, _, ⟨T.a_Last_lets, T.i_Last_lets, T.F_Last_lets.kp⟩, ok_lets_last T, T.b_Last_lets⟩⟩
end
end D

namespace D
open PySem PySem.Spec PyProof.Rows L2
local macro_rules | `(tactic| walk_at "st") => `(tactic| first | exact SqT.of (by assumption) | exact Or.inl (by assumption) | exact SqT.of upd_same | fail "st")
local macro_rules | `(tactic| walk_at "ixt") => `(tactic| refine ⟨_, _, _, _, rfl, rfl, (by walk_at "st" : SqT _ _ _ _), by rfl, ?_⟩)
local macro_rules | `(tactic| walk_at "sq") => `(tactic| first | exact SqL.of (by assumption) | assumption | exact Or.inl (by assumption) | exact SqL.of upd_same | fail "sq")
local macro_rules | `(tactic| walk_at "ix") => `(tactic| refine ⟨_, _, _, _, rfl, rfl, (by walk_at "sq" : SqL _ _ _ _), by rfl, ?_⟩)
local macro_rules | `(tactic| walk_at "set") => `(tactic| refine ⟨_, _, _, _, rfl, rfl, by first | assumption | exact upd_same, by rfl, ?_⟩)
local macro_rules | `(tactic| walk_at "len") => `(tactic| refine ⟨_, _, rfl, Or.inl (by walk_at "sq" : SqL _ _ _ _), ?_⟩)
local macro_rules | `(tactic| walk_at "g") => `(tactic| repeat (first | refine ⟨_, rfl, ?_⟩ | refine ⟨_, _, rfl, rfl, ?_⟩ | refine ⟨Or.inr (by decide), ?_⟩ | refine ⟨Or.inl (by decide), ?_⟩ | refine ⟨(by decide : (0 : Int) < _), ?_⟩ | refine ⟨(⟨by decide, by decide⟩ : CDiv _ _), ?_⟩ | refine ⟨(⟨by decide, by decide, by decide⟩ : CPow _ _), ?_⟩ | refine Or.inl ⟨_, rfl, ?_⟩ | refine ⟨rfl, ?_⟩ | walk_at "ix" | walk_at "ixt" | walk_at "len" | fail "g"))
local macro_rules | `(tactic| walk_at "if") => `(tactic| refine ite2 (fun e => ?_) (fun e => ?_))
section
variable {P : Program} {w : World} {K : PySem.W.Frag} {mg : Str → Option Value} {base : Heap}
def leW (a b : Wd) : Bool := b.reads.all fun z => decide (z ∈ a.reads)
def sp_rnl (T : Txt K mg) : Sp := fun vs H Q _ => ∃ (x y : V) (i j : Wd) (M : Ms), vs = [x, y] ∧ FcAt T M H x i ∧ FcAt T M H y j ∧ ∀ H', Same H H' → Q (.bl (leW i j)) H'
theorem ok_rnl (T : Txt K mg) (Z : TFam T) : FnOk P w K mg base CX0 1 T.f__reads_no_less T.d__reads_no_less ["first", "second"] (sp_rnl T) := by
  refine T.F__reads_no_less.ok sc__reads_no_less (fun vs H Q E h => ?_) (fun cdv A outer s H vs Q E hr h => ?_)
  · obtain ⟨_, _, _, _, _, rfl, _⟩ := h
    rfl
  · obtain ⟨x, y, i, j, M, rfl, hx, hy, q⟩ := h
    obtain ⟨a, dx, rfl, na, ha⟩ := id hx
    obtain ⟨b, dy, rfl, nb, hb⟩ := id hy
    refine ⟨_, (pss_one (ps_ret (pe_callB (cr_allK (K := K) rfl rfl) (by rfl) T.m_all (by decide +kernel) (pa_cons (pe_lc (own := [("word", 2)]) (g := gName 2) (tt := tYes) (by rfl) sc__reads_no_less.nd (pi_tupK (K := K) rfl (pe_conK (K := K) rfl (pv 1) rfl)) (blkOk_by (own := [("word", 2)]) (N := ["first", "second", "word"]) (sc := defScope s__reads_no_less) (by decide +kernel)) (fun _ _ _ _ _ => (pg_name (i := 2) sc__reads_no_less.nd rfl (Or.inl rfl))) (fun _ _ _ _ _ => pts_nil) (fun _ _ _ _ _ => (pe_cmpR (op_in_seqK (K := K) rfl) (pv 2) (pe_conK (K := K) rfl (pv 0) rfl) (by rfl)))) pa_nil)))), ?_⟩
    walk_at "g"
    refine ⟨b, _, dy, [], .ref (Z.r j), .ref (Z.r j), rfl, hb, clsW T j, Z.con j, rfl, ?_⟩
    refine ⟨Z.r j, rfl, ⟨_, Z.sq j H⟩, fun D hD => ?_⟩
    have lj : j.reads.length ≤ 3 := by cases j <;> decide
    refine lc_valsT (ys := (j.reads.map fun z => decide (z ∈ i.reads)).map V.bl) hD (Z.sq j H) (by simp) (by rw [List.length_map]; omega) (fun k x y H' C N hx hy hs hC => ?_) (fun H' hs hD' => ?_)
    · rw [List.getElem?_map] at hx
      obtain ⟨z, hz, rfl⟩ := Option.map_eq_some_iff.mp hx
      have ey : y = .bl (decide (z ∈ i.reads)) := by
        rw [List.getElem?_map, List.getElem?_map, hz] at hy
        exact (Option.some.inj hy).symm
      subst ey
      refine ⟨rfl, ?_⟩
      walk_at "g"
      refine ⟨a, _, dx, [], .ref (Z.r i), .ref (Z.r i), rfl, hs _ _ ha, clsW T i, Z.con i, rfl, ?_⟩
      refine ⟨Z.r i, _, rfl, .inr (Z.sq i _), rfl, flat_strs _, ?_⟩
      rw [show inV (.str z) (List.map V.str i.reads) = decide (z ∈ i.reads) from in_strs z _]
      exact hC
    · walk_at "g"
      refine ⟨D, _, rfl, SqL.of hD', ?_⟩
      walk_at "g"
      rw [show ((j.reads.map fun z => decide (z ∈ i.reads)).all id) = leW i j from by rw [List.all_map]; rfl]
      exact q _ hs
def sp_le (T : Txt K mg) (i : Wd) : Sp := fun vs H Q _ => ∃ (x y : V) (j : Wd) (M : Ms), vs = [x, y] ∧ FcAt T M H x i ∧ FcAt T M H y j ∧ ∀ H', Same H H' → Q (.bl (leW i j)) H'
theorem kitF (T : Txt K mg) (w : Wd) : PySem.W.kitOne K (.ref (w.cls T)) (.ref T.C_Fence) = some true := by
  cases w <;> first | exact T.kit_Fence_Fence | exact T.kit_Own_Fence | exact T.kit_Same_Fence | exact T.kit_Both_Fence | exact T.kit_Last_Fence
theorem ok_le_any (T : Txt K mg) (Z : TFam T) : FnOk P w K mg base CX0 2 T.f_Fence___le__ T.d_Fence___le__ ["self", "other"] (sp_le T .any) := by
  have G__reads_no_less := ok_rnl (P := P) (w := w) (base := base) T Z
  refine T.F_Fence___le__.ok sc_Fence___le__ (fun vs H Q E h => ?_) (fun cdv A outer s H vs Q E hr h => ?_)
  · obtain ⟨_, _, _, _, rfl, _⟩ := h
    rfl
  · obtain ⟨x, y, j, M, rfl, hx, hy, q⟩ := h
    refine ⟨_, (pss_cons (ps_if (pt_not (pt_val (pe_callB (call_isi1K (K := K) rfl) (by rfl) T.m_isinstance (by decide +kernel) (pa_cons (pv 1) (pa_cons (pe_glob (v := .ref T.C_Fence) rfl T.g_Fence rfl) pa_nil))))) (pss_one ps_never) pss_nil)
      (pss_one (ps_ret (pe_call G__reads_no_less (hr.mono (by omega)) (by rfl) T.g__reads_no_less T.F__reads_no_less.kp T.b__reads_no_less .nil pass0 (pa_cons (pv 0) (pa_cons (pv 1) pa_nil)))))), ?_⟩
    walk_at "g"
    refine ⟨_, _, _, _, true, rfl, .own _, hy.ty, kitF T j, ?_⟩
    walk_at "g"
    exact ⟨x, y, _, j, M, rfl, hx, hy, q⟩
theorem ok_le_own (T : Txt K mg) (Z : TFam T) : FnOk P w K mg base CX0 2 T.f_Own___le__ T.d_Own___le__ ["self", "other"] (sp_le T .own) := by
  have G__reads_no_less := ok_rnl (P := P) (w := w) (base := base) T Z
  refine T.F_Own___le__.ok sc_Own___le__ (fun vs H Q E h => ?_) (fun cdv A outer s H vs Q E hr h => ?_)
  · obtain ⟨_, _, _, _, rfl, _⟩ := h
    rfl
  · obtain ⟨x, y, j, M, rfl, hx, hy, q⟩ := h
    refine ⟨_, (pss_cons (ps_if (pt_not (pt_val (pe_callB (call_isi1K (K := K) rfl) (by rfl) T.m_isinstance (by decide +kernel) (pa_cons (pv 1) (pa_cons (pe_glob (v := .ref T.C_Fence) rfl T.g_Fence rfl) pa_nil))))) (pss_one ps_never) pss_nil)
      (pss_one (ps_ret (pe_call G__reads_no_less (hr.mono (by omega)) (by rfl) T.g__reads_no_less T.F__reads_no_less.kp T.b__reads_no_less .nil pass0 (pa_cons (pv 0) (pa_cons (pv 1) pa_nil)))))), ?_⟩
    walk_at "g"
    refine ⟨_, _, _, _, true, rfl, .own _, hy.ty, kitF T j, ?_⟩
    walk_at "g"
    exact ⟨x, y, _, j, M, rfl, hx, hy, q⟩
theorem ok_le_same (T : Txt K mg) (Z : TFam T) : FnOk P w K mg base CX0 2 T.f_Same___le__ T.d_Same___le__ ["self", "other"] (sp_le T .same) := by
  have G__reads_no_less := ok_rnl (P := P) (w := w) (base := base) T Z
  refine T.F_Same___le__.ok sc_Same___le__ (fun vs H Q E h => ?_) (fun cdv A outer s H vs Q E hr h => ?_)
  · obtain ⟨_, _, _, _, rfl, _⟩ := h
    rfl
  · obtain ⟨x, y, j, M, rfl, hx, hy, q⟩ := h
    refine ⟨_, (pss_cons (ps_if (pt_not (pt_val (pe_callB (call_isi1K (K := K) rfl) (by rfl) T.m_isinstance (by decide +kernel) (pa_cons (pv 1) (pa_cons (pe_glob (v := .ref T.C_Fence) rfl T.g_Fence rfl) pa_nil))))) (pss_one ps_never) pss_nil)
      (pss_one (ps_ret (pe_call G__reads_no_less (hr.mono (by omega)) (by rfl) T.g__reads_no_less T.F__reads_no_less.kp T.b__reads_no_less .nil pass0 (pa_cons (pv 0) (pa_cons (pv 1) pa_nil)))))), ?_⟩
    walk_at "g"
    refine ⟨_, _, _, _, true, rfl, .own _, hy.ty, kitF T j, ?_⟩
    walk_at "g"
    exact ⟨x, y, _, j, M, rfl, hx, hy, q⟩
theorem ok_le_both (T : Txt K mg) (Z : TFam T) : FnOk P w K mg base CX0 2 T.f_Both___le__ T.d_Both___le__ ["self", "other"] (sp_le T .both) := by
  have G__reads_no_less := ok_rnl (P := P) (w := w) (base := base) T Z
  refine T.F_Both___le__.ok sc_Both___le__ (fun vs H Q E h => ?_) (fun cdv A outer s H vs Q E hr h => ?_)
  · obtain ⟨_, _, _, _, rfl, _⟩ := h
    rfl
  · obtain ⟨x, y, j, M, rfl, hx, hy, q⟩ := h
    refine ⟨_, (pss_cons (ps_if (pt_not (pt_val (pe_callB (call_isi1K (K := K) rfl) (by rfl) T.m_isinstance (by decide +kernel) (pa_cons (pv 1) (pa_cons (pe_glob (v := .ref T.C_Fence) rfl T.g_Fence rfl) pa_nil))))) (pss_one ps_never) pss_nil)
      (pss_one (ps_ret (pe_call G__reads_no_less (hr.mono (by omega)) (by rfl) T.g__reads_no_less T.F__reads_no_less.kp T.b__reads_no_less .nil pass0 (pa_cons (pv 0) (pa_cons (pv 1) pa_nil)))))), ?_⟩
    walk_at "g"
    refine ⟨_, _, _, _, true, rfl, .own _, hy.ty, kitF T j, ?_⟩
    walk_at "g"
    exact ⟨x, y, _, j, M, rfl, hx, hy, q⟩
theorem ok_le_last (T : Txt K mg) (Z : TFam T) : FnOk P w K mg base CX0 2 T.f_Last___le__ T.d_Last___le__ ["self", "other"] (sp_le T .last) := by
  have G__reads_no_less := ok_rnl (P := P) (w := w) (base := base) T Z
  refine T.F_Last___le__.ok sc_Last___le__ (fun vs H Q E h => ?_) (fun cdv A outer s H vs Q E hr h => ?_)
  · obtain ⟨_, _, _, _, rfl, _⟩ := h
    rfl
  · obtain ⟨x, y, j, M, rfl, hx, hy, q⟩ := h
    refine ⟨_, (pss_cons (ps_if (pt_not (pt_val (pe_callB (call_isi1K (K := K) rfl) (by rfl) T.m_isinstance (by decide +kernel) (pa_cons (pv 1) (pa_cons (pe_glob (v := .ref T.C_Fence) rfl T.g_Fence rfl) pa_nil))))) (pss_one ps_never) pss_nil)
      (pss_one (ps_ret (pe_call G__reads_no_less (hr.mono (by omega)) (by rfl) T.g__reads_no_less T.F__reads_no_less.kp T.b__reads_no_less .nil pass0 (pa_cons (pv 0) (pa_cons (pv 1) pa_nil)))))), ?_⟩
    walk_at "g"
    refine ⟨_, _, _, _, true, rfl, .own _, hy.ty, kitF T j, ?_⟩
    walk_at "g"
    exact ⟨x, y, _, j, M, rfl, hx, hy, q⟩
theorem sub_all (T : Txt K mg) (i j : Wd) : ∃ r, PySem.W.subIn K (.ref (j.cls T)) (.ref (i.cls T)) = some r := by
  cases i <;> cases j <;> first | exact ⟨_, T.sub_Fence_Fence⟩ | exact ⟨_, T.sub_Fence_Own⟩ | exact ⟨_, T.sub_Fence_Same⟩ | exact ⟨_, T.sub_Fence_Both⟩ | exact ⟨_, T.sub_Fence_Last⟩ | exact ⟨_, T.sub_Own_Fence⟩ | exact ⟨_, T.sub_Own_Own⟩ | exact ⟨_, T.sub_Own_Same⟩ | exact ⟨_, T.sub_Own_Both⟩ | exact ⟨_, T.sub_Own_Last⟩ | exact ⟨_, T.sub_Same_Fence⟩ | exact ⟨_, T.sub_Same_Own⟩ | exact ⟨_, T.sub_Same_Same⟩ | exact ⟨_, T.sub_Same_Both⟩ | exact ⟨_, T.sub_Same_Last⟩ | exact ⟨_, T.sub_Both_Fence⟩ | exact ⟨_, T.sub_Both_Own⟩ | exact ⟨_, T.sub_Both_Same⟩ | exact ⟨_, T.sub_Both_Both⟩ | exact ⟨_, T.sub_Both_Last⟩ | exact ⟨_, T.sub_Last_Fence⟩ | exact ⟨_, T.sub_Last_Own⟩ | exact ⟨_, T.sub_Last_Same⟩ | exact ⟨_, T.sub_Last_Both⟩ | exact ⟨_, T.sub_Last_Last⟩
theorem le_all (T : Txt K mg) (Z : TFam T) : LeW P w K mg base CX0 2 Wd (Wd.cls T) (sp_le T) := ⟨fun i => by
  cases i
  · exact ⟨T.ge_Fence, T.in_Fence.hm, T.f_Fence___le__, T.d_Fence___le__, _, T.a_Fence___le__, T.i_Fence___le__, ok_le_any T Z, T.b_Fence___le__⟩
  · exact ⟨T.ge_Own, T.in_Own.hm, T.f_Own___le__, T.d_Own___le__, _, T.a_Own___le__, T.i_Own___le__, ok_le_own T Z, T.b_Own___le__⟩
  · exact ⟨T.ge_Same, T.in_Same.hm, T.f_Same___le__, T.d_Same___le__, _, T.a_Same___le__, T.i_Same___le__, ok_le_same T Z, T.b_Same___le__⟩
  · exact ⟨T.ge_Both, T.in_Both.hm, T.f_Both___le__, T.d_Both___le__, _, T.a_Both___le__, T.i_Both___le__, ok_le_both T Z, T.b_Both___le__⟩
  · exact ⟨T.ge_Last, T.in_Last.hm, T.f_Last___le__, T.d_Last___le__, _, T.a_Last___le__, T.i_Last___le__, ok_le_last T Z, T.b_Last___le__⟩, fun i j => sub_all T i j⟩
end
end D

namespace D
open PySem PySem.Spec PyProof.Rows L2
local macro_rules | `(tactic| walk_at "st") => `(tactic| first | exact SqT.of (by assumption) | exact Or.inl (by assumption) | exact SqT.of upd_same | fail "st")
local macro_rules | `(tactic| walk_at "ixt") => `(tactic| refine ⟨_, _, _, _, rfl, rfl, (by walk_at "st" : SqT _ _ _ _), by rfl, ?_⟩)
local macro_rules | `(tactic| walk_at "sq") => `(tactic| first | exact SqL.of (by assumption) | assumption | exact Or.inl (by assumption) | exact SqL.of upd_same | fail "sq")
local macro_rules | `(tactic| walk_at "ix") => `(tactic| refine ⟨_, _, _, _, rfl, rfl, (by walk_at "sq" : SqL _ _ _ _), by rfl, ?_⟩)
local macro_rules | `(tactic| walk_at "set") => `(tactic| refine ⟨_, _, _, _, rfl, rfl, by first | assumption | exact upd_same, by rfl, ?_⟩)
local macro_rules | `(tactic| walk_at "len") => `(tactic| refine ⟨_, _, rfl, Or.inl (by walk_at "sq" : SqL _ _ _ _), ?_⟩)
local macro_rules | `(tactic| walk_at "g") => `(tactic| repeat (first | refine ⟨_, rfl, ?_⟩ | refine ⟨_, _, rfl, rfl, ?_⟩ | refine ⟨Or.inr (by decide), ?_⟩ | refine ⟨Or.inl (by decide), ?_⟩ | refine ⟨(by decide : (0 : Int) < _), ?_⟩ | refine ⟨(⟨by decide, by decide⟩ : CDiv _ _), ?_⟩ | refine ⟨(⟨by decide, by decide, by decide⟩ : CPow _ _), ?_⟩ | refine Or.inl ⟨_, rfl, ?_⟩ | refine ⟨rfl, ?_⟩ | walk_at "ix" | walk_at "ixt" | walk_at "len" | fail "g"))
local macro_rules | `(tactic| walk_at "if") => `(tactic| refine ite2 (fun e => ?_) (fun e => ?_))
section
variable {P : Program} {w : World} {K : PySem.W.Frag} {mg : Str → Option Value} {base : Heap}
def sp_fence (T : Txt K mg) : Sp := fun vs H Q _ => ∃ i : Wd, vs = [.str i.txt] ∧ ∀ H' x dx, Same H H' → H x = none → H' x = some (.ins (i.cls T) dx []) → Q (.ref x) H'
theorem ok_fence (T : Txt K mg) (Z : TFam T) : FnOk P w K mg base CX0 2 T.f_fence_of T.d_fence_of ["word"] (sp_fence T) := by
  refine T.F_fence_of.ok sc_fence_of (fun vs H Q E h => ?_) (fun cdv A outer s H vs Q E hr h => ?_)
  · obtain ⟨_, rfl, _⟩ := h
    rfl
  · obtain ⟨i, rfl, q⟩ := h
    refine ⟨_, (pss_cons (ps_if (pt_cmpR (op_notIn_seqK (K := K) rfl) (pv 0) (pe_glob (v := .ref Z.p) rfl Z.t rfl) (by rfl)) (pss_one ps_never) pss_nil)
      (pss_cons (ps_if (pt_cmpR op_eq (pv 0) pe_str (nomark _)) (pss_one (ps_ret (pe_make00 T.m0_Own (by rfl) T.g_Own))) pss_nil)
      (pss_cons (ps_if (pt_cmpR op_eq (pv 0) pe_str (nomark _)) (pss_one (ps_ret (pe_make00 T.m0_Same (by rfl) T.g_Same))) pss_nil)
      (pss_cons (ps_if (pt_cmpR op_eq (pv 0) pe_str (nomark _)) (pss_one (ps_ret (pe_make00 T.m0_Both (by rfl) T.g_Both))) pss_nil)
      (pss_one (ps_ret (pe_ifExp (pt_cmpR op_eq (pv 0) pe_str (nomark _)) (pe_make00 T.m0_Last (by rfl) T.g_Last) (pe_make00 T.m0_Fence (by rfl) T.g_Fence)))))))), ?_⟩
    have hin : i.txt ∈ words := by cases i <;> decide +kernel
    walk_at "g"
    refine ⟨Z.p, _, rfl, .inr (Z.fsq H), rfl, flat_strs _, ?_⟩
    rw [show inV (.str i.txt) (List.map V.str words) = true from (in_strs _ _).trans (decide_eq_true hin)]
    have fin : ∀ Cc, Cc = i.cls T → ∀ x dx, H x = none → H dx = none → dx ≠ x → Q (.ref x) (upd (upd H dx (.own x)) x (.ins Cc dx [])) := fun Cc e x dx hx hd ne => by
      subst e
      have hx2 : upd H dx (.own x) x = none := by rw [upd_ne (fun z => ne z.symm)]; exact hx
      exact q _ x dx ((same_new hd).trans (same_new hx2)) hx upd_same
    cases i
    · walk_at "g"
      rw [show decide (V.str Wd.any.txt = V.str (Str.ofString "last")) = false from by decide +kernel]
      walk_at "g"
      exact fin _ rfl
    · walk_at "g"
      exact fin _ rfl
    · walk_at "g"
      exact fin _ rfl
    · walk_at "g"
      exact fin _ rfl
    · walk_at "g"
      rw [show decide (V.str Wd.last.txt = V.str (Str.ofString "last")) = true from by decide +kernel]
      walk_at "g"
      exact fin _ rfl
end
end D

namespace D
open PySem PySem.Spec PyProof.Rows L2
local macro_rules | `(tactic| walk_at "st") => `(tactic| first | exact SqT.of (by assumption) | exact Or.inl (by assumption) | exact SqT.of upd_same | fail "st")
local macro_rules | `(tactic| walk_at "ixt") => `(tactic| refine ⟨_, _, _, _, rfl, rfl, (by walk_at "st" : SqT _ _ _ _), by rfl, ?_⟩)
local macro_rules | `(tactic| walk_at "sq") => `(tactic| first | exact SqL.of (by assumption) | assumption | exact Or.inl (by assumption) | exact SqL.of upd_same | fail "sq")
local macro_rules | `(tactic| walk_at "ix") => `(tactic| refine ⟨_, _, _, _, rfl, rfl, (by walk_at "sq" : SqL _ _ _ _), by rfl, ?_⟩)
local macro_rules | `(tactic| walk_at "set") => `(tactic| refine ⟨_, _, _, _, rfl, rfl, by first | assumption | exact upd_same, by rfl, ?_⟩)
local macro_rules | `(tactic| walk_at "len") => `(tactic| refine ⟨_, _, rfl, Or.inl (by walk_at "sq" : SqL _ _ _ _), ?_⟩)
local macro_rules | `(tactic| walk_at "g") => `(tactic| repeat (first | refine ⟨_, rfl, ?_⟩ | refine ⟨_, _, rfl, rfl, ?_⟩ | refine ⟨Or.inr (by decide), ?_⟩ | refine ⟨Or.inl (by decide), ?_⟩ | refine ⟨(by decide : (0 : Int) < _), ?_⟩ | refine ⟨(⟨by decide, by decide⟩ : CDiv _ _), ?_⟩ | refine ⟨(⟨by decide, by decide, by decide⟩ : CPow _ _), ?_⟩ | refine Or.inl ⟨_, rfl, ?_⟩ | refine ⟨rfl, ?_⟩ | walk_at "ix" | walk_at "ixt" | walk_at "len" | fail "g"))
local macro_rules | `(tactic| walk_at "if") => `(tactic| refine ite2 (fun e => ?_) (fun e => ?_))
section
variable {P : Program} {w : World} {K : PySem.W.Frag} {mg : Str → Option Value} {base : Heap}
theorem sub_self {K : PySem.W.Frag} {C : Addr} (ox : OexC K C) : PySem.W.subIn K (.ref C) (.ref C) = some true := by
  obtain ⟨nm, q, N, bs, bm, sn, sub, ab, col, dd, k0, k1, k2, k3, k5, h, _⟩ := ox.cls
  show (PySem.W.clsIn K C).bind _ = _
  unfold PySem.W.clsIn
  rw [h]
  show (if (Value.ref C :: bm).isEmpty = true then none else some ((Value.ref C :: bm).contains (Value.ref C))) = _
  rw [if_neg (by simp), List.contains_cons]
  simp
/-- the class of a caught error -/
theorem exm_own {K : PySem.W.Frag} {D C : Addr} {b : Bool} (be : PySem.W.subIn K (.ref C) (.type "BaseException") = some true) (hd : PySem.W.hasDictIn K C = true) (ty : PySem.W.typeIn K (.ref C) = some (.type "type")) (h : PySem.W.subIn K (.ref D) (.ref C) = some b) : PySem.W.exmOne K (.ref D) (.ref C) = some b := by
  obtain ⟨cd, hc, _⟩ := PySem.W.any_some hd
  unfold PySem.W.exmOne
  rw [if_pos (by rw [be]; rfl)]
  show (if ((PySem.W.clsIn K C).isSome && PySem.W.typeIn K (.ref C) == some (.type "type")) = true then PySem.W.subIn K (.ref D) (.ref C) else none) = some b
  rw [if_pos (by rw [hc, ty]; rfl), h]
def sFence : Str := Str.ofString "fence"
theorem ok_badf (T : Txt K mg) : FnOk P w K mg base CX0 1 T.f_BadFence___init__ T.d_BadFence___init__ ["self", "fence"] (sp_err1 K T.C_BadFence sFence) := by
  refine T.F_BadFence___init__.ok sc_BadFence___init__ (fun vs H Q E h => ?_) (fun cdv A outer s H vs Q E hr h => ?_)
  · obtain ⟨_, _, rfl, _⟩ := h
    rfl
  · obtain ⟨a, y, rfl, ox, no, ha, q⟩ := h
    refine ⟨_, (pss_one (ps_ost (pv 0) (pv 1))), ?_⟩
    walk_at "g"
    exact ⟨a, _, rfl, ox, no, .inl ⟨ha, fun dx h n => q dx h n⟩⟩
def sp_fbad (CE : Addr) : Sp := fun vs H Q E => ∃ z : Str, vs = [.str z] ∧ z ∉ words ∧ ∀ d, H d = none → E (.ref CE) (some d) (upd H d (.xd [(sFence, .str z)]))
theorem ok_fbad (T : Txt K mg) (Z : TFam T) : FnOk P w K mg base (L2.CX P w) 3 T.f_fence_of T.d_fence_of ["word"] (sp_fbad T.C_BadFence) := by
  have G_BadFence___init__ := ok_badf (P := P) (w := w) (base := base) T
  refine T.F_fence_of.okX sc_fence_of (fun vs H Q E h => ?_) (fun cdv A outer s H vs Q E hr h => ?_)
  · obtain ⟨_, rfl, _⟩ := h
    rfl
  · obtain ⟨z, rfl, hz, q⟩ := h
    refine ⟨_, (pss_cons (ps_if (pt_cmpR (op_notIn_seqK (K := K) rfl) (pv 0) (pe_glob (v := .ref Z.p) rfl Z.t rfl) (by rfl)) (pss_one (ps_raise rfl (takes_of rfl rfl rfl rfl) (pmk_oex T.ox_BadFence T.iC_BadFence T.tI_BadFence G_BadFence___init__ (hr.mono (by omega)) T.b_BadFence___init__ .nil pass0 (by rfl) T.g_BadFence (pa_cons (pv 0) pa_nil)))) pss_nil)
      (pss_cons (ps_if (pt_cmpR op_eq (pv 0) pe_str (nomark _)) (pss_one (ps_ret (pe_make00 T.m0_Own (by rfl) T.g_Own))) pss_nil)
      (pss_cons (ps_if (pt_cmpR op_eq (pv 0) pe_str (nomark _)) (pss_one (ps_ret (pe_make00 T.m0_Same (by rfl) T.g_Same))) pss_nil)
      (pss_cons (ps_if (pt_cmpR op_eq (pv 0) pe_str (nomark _)) (pss_one (ps_ret (pe_make00 T.m0_Both (by rfl) T.g_Both))) pss_nil)
      (pss_one (ps_ret (pe_ifExp (pt_cmpR op_eq (pv 0) pe_str (nomark _)) (pe_make00 T.m0_Last (by rfl) T.g_Last) (pe_make00 T.m0_Fence (by rfl) T.g_Fence)))))))), ?_⟩
    walk_at "g"
    refine ⟨Z.p, _, rfl, .inr (Z.fsq _), rfl, flat_strs _, ?_⟩
    rw [show inV (.str z) (List.map V.str words) = false from (in_strs z _).trans (decide_eq_false hz)]
    walk_at "g"
    exact mk_err1 T.ox_BadFence T.nf_BadFence_fence q
def sp_refused : Sp := fun vs H Q _ => ∃ z : Str, vs = [.str z] ∧ z ∉ words ∧ ∀ H', Same H H' → Q (.bl true) H'
theorem ok_refused (T : Txt K mg) (Z : TFam T) : FnOk P w K mg base CX0 4 T.f__law_refused T.d__law_refused ["_law_word"] sp_refused := by
  have G_fence_of := ok_fbad (P := P) (w := w) (base := base) T Z
  refine T.F__law_refused.ok sc__law_refused (fun vs H Q E h => ?_) (fun cdv A outer s H vs Q E hr h => ?_)
  · obtain ⟨_, rfl, _⟩ := h
    rfl
  · obtain ⟨z, rfl, hz, q⟩ := h
    refine ⟨_, (pss_cons (ps_try_as (i := 1) rfl rfl sc__law_refused.nd rfl rfl ⟨rfl, by decide, .inl T.g_BadFence⟩ takes0 (fun W pn xe tk _ => (pss_one (ps_expr (pe_callS G_fence_of (hr.mono (by omega)) (by rfl) T.g_fence_of T.F_fence_of.kp T.b_fence_of (fun σ => passAt tk σ) (pa_cons (pv 0) pa_nil))))) (fun a oe cls d pn hz hf => (pss_cons (ps_if (PW.pt (pw_or (pt_val (pe_callB (call_isX hz hf) (by rfl) T.m_isinstance (by decide +kernel) (pa_cons (pv 1) (pa_cons (pe_glob (v := .ref T.C_NoAnswer) rfl T.g_NoAnswer rfl) pa_nil)))) (pw_or (pt_not (pt_val (pe_callB (call_isX hz hf) (by rfl) T.m_isinstance (by decide +kernel) (pa_cons (pv 1) (pa_cons (pe_glob (v := .ref T.C_ScreenError) rfl T.g_ScreenError rfl) pa_nil))))) (pw_or1 (pt_not (pt_val (pe_callB (call_isX hz hf) (by rfl) T.m_isinstance (by decide +kernel) (pa_cons (pv 1) (pa_cons (pe_bltn (v := .ty "ValueError") (u := .type "ValueError") (by rfl) T.m_ValueError (by decide +kernel) rfl) pa_nil))))))))) (pss_one (ps_ret pe_bl)) pss_nil)
      (pss_one (ps_ret (pe_cmpR op_eq (pe_xf T.xf_BadFence T.nf_BadFence_fence hz hf (pv 1)) (pv 0) (nomark _)))))))
      (pss_one (ps_ret pe_bl))), ?_⟩
    walk_at "g"
    refine ⟨hz, fun d hd => ?_⟩
    refine ⟨true, exm_own T.be_BadFence T.hd_BadFence T.ty_BadFence (sub_self T.ox_BadFence), fun _ ex hex => ?_, fun z => by cases z⟩
    have sd : Same H (upd H d (.xd [(sFence, .str z)])) := same_new hd
    have ed : upd H d (.xd [(sFence, .str z)]) d = some (.xd [(sFence, .str z)]) := upd_same
    walk_at "g"
    refine ⟨T.C_BadFence, d, _, .ref T.C_NoAnswer, .ref T.C_NoAnswer, false, rfl, rfl, T.is_BadFence, ed, rfl, fun u r => r, kit_err T.hd_NoAnswer T.ty_NoAnswer T.ne_BadFence_NoAnswer T.s_BadFence_NoAnswer, ?_⟩
    walk_at "g"
    refine ⟨T.C_BadFence, d, _, .ref T.C_ScreenError, .ref T.C_ScreenError, true, rfl, rfl, T.is_BadFence, ed, rfl, fun u r => r, kit_err T.hd_ScreenError T.ty_ScreenError T.ne_BadFence_ScreenError T.s_BadFence_ScreenError, ?_⟩
    walk_at "g"
    refine ⟨T.C_BadFence, d, _, .ty "ValueError", .type "ValueError", true, rfl, rfl, T.is_BadFence, ed, rfl, fun u r => r, kit_ty2 (by decide +kernel) T.vb_BadFence, ?_⟩
    walk_at "g"
    refine ⟨d, _, _, rfl, ed, rfl, ?_⟩
    walk_at "g"
    rw [show decide (V.str z = V.str z) = true from decide_eq_true rfl]
    exact q _ sd
end
end D

namespace D
open PySem PySem.Spec PyProof.Rows L2
local macro_rules | `(tactic| walk_at "st") => `(tactic| first | exact SqT.of (by assumption) | exact Or.inl (by assumption) | exact SqT.of upd_same | fail "st")
local macro_rules | `(tactic| walk_at "ixt") => `(tactic| refine ⟨_, _, _, _, rfl, rfl, (by walk_at "st" : SqT _ _ _ _), by rfl, ?_⟩)
local macro_rules | `(tactic| walk_at "sq") => `(tactic| first | exact SqL.of (by assumption) | assumption | exact Or.inl (by assumption) | exact SqL.of upd_same | fail "sq")
local macro_rules | `(tactic| walk_at "ix") => `(tactic| refine ⟨_, _, _, _, rfl, rfl, (by walk_at "sq" : SqL _ _ _ _), by rfl, ?_⟩)
local macro_rules | `(tactic| walk_at "set") => `(tactic| refine ⟨_, _, _, _, rfl, rfl, by first | assumption | exact upd_same, by rfl, ?_⟩)
local macro_rules | `(tactic| walk_at "len") => `(tactic| refine ⟨_, _, rfl, Or.inl (by walk_at "sq" : SqL _ _ _ _), ?_⟩)
local macro_rules | `(tactic| walk_at "g") => `(tactic| repeat (first | refine ⟨_, rfl, ?_⟩ | refine ⟨_, _, rfl, rfl, ?_⟩ | refine ⟨Or.inr (by decide), ?_⟩ | refine ⟨Or.inl (by decide), ?_⟩ | refine ⟨(by decide : (0 : Int) < _), ?_⟩ | refine ⟨(⟨by decide, by decide⟩ : CDiv _ _), ?_⟩ | refine ⟨(⟨by decide, by decide, by decide⟩ : CPow _ _), ?_⟩ | refine Or.inl ⟨_, rfl, ?_⟩ | refine ⟨rfl, ?_⟩ | walk_at "ix" | walk_at "ixt" | walk_at "len" | fail "g"))
local macro_rules | `(tactic| walk_at "if") => `(tactic| refine ite2 (fun e => ?_) (fun e => ?_))
section
variable {P : Program} {w : World} {K : PySem.W.Frag} {mg : Str → Option Value} {base : Heap}
def sp_llets : Sp := fun vs H Q _ => ∃ (i : Wd) (a b c : Bool), vs = [.str i.txt, .bl a, .bl b, .bl c] ∧ Q (.bl (i.lets a b c)) H
theorem ok_llets (T : Txt K mg) : FnOk P w K mg base CX0 1 T.f__law_lets T.d__law_lets ["_law_word", "_law_own", "_law_same", "_law_last"] sp_llets := by
  refine T.F__law_lets.ok sc__law_lets (fun vs H Q E h => ?_) (fun cdv A outer s H vs Q E hr h => ?_)
  · obtain ⟨_, _, _, _, rfl, _⟩ := h
    rfl
  · obtain ⟨i, a, b, c, rfl, q⟩ := h
    refine ⟨_, (pss_cons (ps_if (pt_cmpR op_eq (pv 0) pe_str (nomark _)) (pss_one (ps_ret pe_bl)) pss_nil)
      (pss_cons (ps_if (pt_cmpR op_eq (pv 0) pe_str (nomark _)) (pss_one (ps_ret (pv 1))) pss_nil)
      (pss_cons (ps_if (pt_cmpR op_eq (pv 0) pe_str (nomark _)) (pss_one (ps_ret (pv 2))) pss_nil)
      (pss_cons (ps_if (pt_cmpR op_eq (pv 0) pe_str (nomark _)) (pss_one (ps_ret (pe_and (pv 1) (pe_one (pv 2))))) pss_nil)
      (pss_one (ps_ret (pe_and (pv 1) (pe_and (pv 2) (pe_one (pv 3)))))))))), ?_⟩
    cases i
    · walk_at "g"
      exact q
    · walk_at "g"
      exact q
    · walk_at "g"
      exact q
    · cases a <;> walk_at "g" <;> exact q
    · cases a <;> cases b <;> walk_at "g" <;> exact q
def sp_truth : Sp := fun vs H Q _ => ∃ (a b : Bool), vs = [.bl a, .bl b] ∧ Q (.bl (a == b)) H
theorem ok_truth (T : Txt K mg) : FnOk P w K mg base CX0 1 T.f__law_truth T.d__law_truth ["_law_told", "_law_due"] sp_truth := by
  refine T.F__law_truth.ok sc__law_truth (fun vs H Q E h => ?_) (fun cdv A outer s H vs Q E hr h => ?_)
  · obtain ⟨_, _, rfl, _⟩ := h
    rfl
  · obtain ⟨a, b, rfl, q⟩ := h
    refine ⟨_, (pss_one (ps_ret (pe_and (pe_callB (call_isi1K (K := K) rfl) (by rfl) T.m_isinstance (by decide +kernel) (pa_cons (pv 0) (pa_cons (pe_bltn (v := .ty "bool") (u := .type "bool") (by rfl) T.m_bool (by decide +kernel) rfl) pa_nil))) (pe_one (pe_cmpR op_eq (pv 0) (pv 1) (nomark _)))))), ?_⟩
    walk_at "g"
    refine ⟨_, _, _, _, true, rfl, .ty _, .base (.bl _), kit_ty (by decide +kernel), ?_⟩
    walk_at "g"
    rw [show decide (V.bl a = V.bl b) = (a == b) from by cases a <;> cases b <;> decide]
    exact q
def sp_words : Sp := fun vs H Q _ => vs = [] ∧ ∀ p, H p = none → Q (.ref p) (upd H p (.lst (words.map V.str)))
theorem ok_words (T : Txt K mg) : FnOk P w K mg base CX0 1 T.f__law_words T.d__law_words [] sp_words := by
  refine T.F__law_words.ok sc__law_words (fun vs H Q E h => ?_) (fun cdv A outer s H vs Q E hr h => ?_)
  · obtain ⟨rfl, _⟩ := h
    rfl
  · obtain ⟨rfl, q⟩ := h
    refine ⟨_, (pss_one (ps_ret (pe_lst (pa_cons pe_str (pa_cons pe_str (pa_cons pe_str (pa_cons pe_str (pa_cons pe_str pa_nil)))))))), ?_⟩
    walk_at "g"
    exact ⟨by decide, fun p hp => q p hp⟩
def sp_fields (C : Addr) : Sp := fun vs H Q _ => ∃ (v : V) (en : En) (M : Ms), vs = [v] ∧ EnAt C M H v en ∧ ∀ p, H p = none → Q (.ref p) (upd H p (.tup [en.ov, .str en.word, .int en.who, .int en.ticket, .int en.question, .int en.answer]))
theorem ok_fields (T : Txt K mg) : FnOk P w K mg base CX0 1 T.f__law_fields T.d__law_fields ["_law_entry_here"] (sp_fields T.C_Entry) := by
  refine T.F__law_fields.ok sc__law_fields (fun vs H Q E h => ?_) (fun cdv A outer s H vs Q E hr h => ?_)
  · obtain ⟨_, _, _, rfl, _⟩ := h
    rfl
  · obtain ⟨v, en, M, rfl, ⟨a, dx, rfl, na, ha⟩, q⟩ := h
    refine ⟨_, (pss_one (ps_ret (pe_tup (pa_cons (pe_fldK (K := K) rfl (pv 0) rfl) (pa_cons (pe_fldK (K := K) rfl (pv 0) rfl) (pa_cons (pe_fldK (K := K) rfl (pv 0) rfl) (pa_cons (pe_fldK (K := K) rfl (pv 0) rfl) (pa_cons (pe_fldK (K := K) rfl (pv 0) rfl) (pa_cons (pe_fldK (K := K) rfl (pv 0) rfl) pa_nil))))))))), ?_⟩
    walk_at "g"
    refine ⟨a, _, dx, _, _, rfl, ha, T.cl_Entry, T.nA_Entry_owner, rfl, ?_⟩
    walk_at "g"
    refine ⟨a, _, dx, _, _, rfl, ha, T.cl_Entry, T.nA_Entry_word, rfl, ?_⟩
    walk_at "g"
    refine ⟨a, _, dx, _, _, rfl, ha, T.cl_Entry, T.nA_Entry_who, rfl, ?_⟩
    walk_at "g"
    refine ⟨a, _, dx, _, _, rfl, ha, T.cl_Entry, T.nA_Entry_ticket, rfl, ?_⟩
    walk_at "g"
    refine ⟨a, _, dx, _, _, rfl, ha, T.cl_Entry, T.nA_Entry_question, rfl, ?_⟩
    walk_at "g"
    refine ⟨a, _, dx, _, _, rfl, ha, T.cl_Entry, T.nA_Entry_answer, rfl, ?_⟩
    walk_at "g"
    exact ⟨szK rfl, q⟩
def caseD (z : Bool × Bool × Bool) : PyData := .tuple [.bool z.1, .bool z.2.1, .bool z.2.2]
def bs2 : List Bool := [true, false]
def cas3 (a b : Bool) : List (Bool × Bool × Bool) := bs2.map fun c => (a, b, c)
def cas2 (a : Bool) : List (Bool × Bool × Bool) := bs2.flatMap fun b => cas3 a b
def allC : List (Bool × Bool × Bool) := bs2.flatMap cas2
/-- the list of cases at L so far -/
def CsAt (L : Addr) (H0 : Hp) (cs : List (Bool × Bool × Bool)) (H : Hp) : Prop := Sx (one L) H0 H ∧ ∃ xs, H L = some (.lst xs) ∧ RpAll (one L) H xs (cs.map caseD)
theorem CsAt.more {L : Addr} {H0 H : Hp} {cs : List (Bool × Bool × Bool)} {p : Addr} {o : HO} (h : CsAt L H0 cs H) (hp : H p = none) : CsAt L H0 cs (upd H p o) := by
  obtain ⟨s, xs, e, r⟩ := h
  exact ⟨s.trans (Sx.new hp), xs, (same_new hp) _ _ e, r.sx (Sx.same (same_new hp))⟩
theorem bool_at {bs : List Bool} {i : Nat} {x : V} (h : (bs.map V.bl)[i]? = some x) : ∃ b, bs[i]? = some b ∧ x = .bl b := by
  rw [List.getElem?_map] at h
  obtain ⟨b, hb, e⟩ := Option.map_eq_some_iff.mp h
  exact ⟨b, hb, e.symm⟩
theorem take_more {α : Type} {l : List α} {i : Nat} {a : α} (h : l[i]? = some a) : l.take (i + 1) = l.take i ++ [a] := by
  rw [List.take_add_one, h]
  rfl
def sp_cases : Sp := fun vs H Q _ => vs = [] ∧ ∀ H' p xs, Same H H' → H p = none → H' p = some (.lst xs) → RpAll (one p) H' xs (allC.map caseD) → Q (.ref p) H'
theorem ok_cases (T : Txt K mg) : FnOk P w K mg base CX0 1 T.f__law_cases T.d__law_cases [] sp_cases := by
  refine T.F__law_cases.ok sc__law_cases (fun vs H Q E h => ?_) (fun cdv A outer s H vs Q E hr h => ?_)
  · obtain ⟨rfl, _⟩ := h
    rfl
  · obtain ⟨rfl, q⟩ := h
    refine ⟨_, (pss_cons (ps_set (i := 0) sc__law_cases.nd rfl (Or.inl rfl) (pe_lst pa_nil))
      (pss_cons (ps_for PassesOwn.never rfl (pi_tupK (K := K) rfl (pe_tup (pa_cons pe_bl (pa_cons pe_bl pa_nil)))) (pg_name (i := 1) sc__law_cases.nd rfl (Or.inl rfl)) (pss_one (ps_for PassesOwn.never rfl (pi_tupK (K := K) rfl (pe_tup (pa_cons pe_bl (pa_cons pe_bl pa_nil)))) (pg_name (i := 2) sc__law_cases.nd rfl (Or.inl rfl)) (pss_one (ps_for PassesOwn.never rfl (pi_tupK (K := K) rfl (pe_tup (pa_cons pe_bl (pa_cons pe_bl pa_nil)))) (pg_name (i := 3) sc__law_cases.nd rfl (Or.inl rfl)) (pss_one (ps_expr (pe_bmK2 (K := K) rfl PySem.F.plainAttrs_list PySem.F.slot_list_append PySem.F.type_list_append mt_append (pv 0) (pa_cons (pe_tup (pa_cons (pv 1) (pa_cons (pv 2) (pa_cons (pv 3) pa_nil)))) pa_nil)))))))))
      (pss_one (ps_ret (pv 0))))), ?_⟩
    walk_at "g"
    refine ⟨szK rfl, fun L hL => ?_⟩
    generalize e0 : upd H L (.lst []) = H0
    have eL0 : H0 L = some (.lst []) := by rw [← e0, upd_same]
    have s0 : Same H H0 := by rw [← e0]; exact same_new hL
    clear e0
    refine ⟨szK rfl, fun t1 h1 => ?_⟩
    generalize e1 : upd H0 t1 _ = H1
    have c1 : CsAt L H0 [] H1 := by rw [← e1]; exact CsAt.more ⟨fun _ _ _ e => e, [], eL0, .nil⟩ h1
    have n1 : t1 ≠ L := fun z => by rw [z, eL0] at h1; cases h1
    have q1 : SqT K H1 t1 (bs2.map V.bl) := by rw [← e1]; exact .inl (.inl upd_same)
    clear e1
    refine ⟨t1, rfl, ⟨_, q1⟩, ?_⟩
    refine for_tup (xs := bs2.map V.bl) (fun i σ H' => (∃ y1 y2 y3, σ = [some (.ref L), y1, y2, y3]) ∧ CsAt L H0 ((bs2.take i).flatMap cas2) H' ∧ SqT K H' t1 (bs2.map V.bl)) ⟨⟨_, _, _, rfl⟩, c1, q1⟩ (fun i σ H' _ z => z.2.2) (fun i x σ H2 hx z => ?_) (fun σ H' z => ?_)
    · obtain ⟨b1, hb1, rfl⟩ := bool_at hx
      obtain ⟨⟨y1, y2, y3, rfl⟩, c2, q2⟩ := z
      rw [take_more hb1, List.flatMap_append, List.flatMap_singleton]
      have l1 : ((bs2.take i).flatMap cas2).length ≤ 4 := by
        have hi := (List.getElem?_eq_some_iff.mp hb1).1
        rcases i with _ | _ | i
        · simp
        · simp [bs2, cas2, cas3]
        · simp [bs2] at hi; omega
      generalize (bs2.take i).flatMap cas2 = p1 at c2 l1
      walk_at "g"
      refine ⟨szK rfl, fun t2 h2 => ?_⟩
      generalize e3 : upd H2 t2 _ = H3
      have c3 : CsAt L H0 p1 H3 := by rw [← e3]; exact c2.more h2
      have q31 : SqT K H3 t1 (bs2.map V.bl) := by rw [← e3]; exact same_sqt (same_new h2) q2
      have q32 : SqT K H3 t2 (bs2.map V.bl) := by rw [← e3]; exact .inl (.inl upd_same)
      have n2 : t2 ≠ L := fun z => by rw [z] at h2; obtain ⟨_, _, e, _⟩ := c2; rw [h2] at e; cases e
      clear e3
      refine ⟨t2, rfl, ⟨_, q32⟩, ?_⟩
      refine for_tup (xs := bs2.map V.bl) (fun i σ H' => (∃ y2 y3, σ = [some (.ref L), some (.bl b1), y2, y3]) ∧ CsAt L H0 (p1 ++ (bs2.take i).flatMap (cas3 b1)) H' ∧ SqT K H' t1 (bs2.map V.bl) ∧ SqT K H' t2 (bs2.map V.bl)) ⟨⟨_, _, rfl⟩, by rw [List.take_zero, List.flatMap_nil, List.append_nil]; exact c3, q31, q32⟩ (fun i σ H' _ z => z.2.2.2) (fun i x σ H4 hx z => ?_) (fun σ H' z => ?_)
      · obtain ⟨b2, hb2, rfl⟩ := bool_at hx
        obtain ⟨⟨y2, y3, rfl⟩, c4, q41, q42⟩ := z
        rw [take_more hb2, List.flatMap_append, List.flatMap_singleton, ← List.append_assoc]
        have l2 : (p1 ++ (bs2.take i).flatMap (cas3 b1)).length ≤ 6 := by
          have hi := (List.getElem?_eq_some_iff.mp hb2).1
          rw [List.length_append]
          rcases i with _ | _ | i
          · simp; omega
          · simp [bs2, cas3]; omega
          · simp [bs2] at hi; omega
        generalize p1 ++ (bs2.take i).flatMap (cas3 b1) = p2 at c4 l2
        walk_at "g"
        refine ⟨szK rfl, fun t3 h3 => ?_⟩
        generalize e5 : upd H4 t3 _ = H5
        have c5 : CsAt L H0 p2 H5 := by rw [← e5]; exact c4.more h3
        have q51 : SqT K H5 t1 (bs2.map V.bl) := by rw [← e5]; exact same_sqt (same_new h3) q41
        have q52 : SqT K H5 t2 (bs2.map V.bl) := by rw [← e5]; exact same_sqt (same_new h3) q42
        have q53 : SqT K H5 t3 (bs2.map V.bl) := by rw [← e5]; exact .inl (.inl upd_same)
        have n3 : t3 ≠ L := fun z => by rw [z] at h3; obtain ⟨_, _, e, _⟩ := c4; rw [h3] at e; cases e
        clear e5
        refine ⟨t3, rfl, ⟨_, q53⟩, ?_⟩
        refine for_tup (xs := bs2.map V.bl) (fun i σ H' => (∃ y3, σ = [some (.ref L), some (.bl b1), some (.bl b2), y3]) ∧ CsAt L H0 (p2 ++ (bs2.take i).map fun c => (b1, b2, c)) H' ∧ SqT K H' t1 (bs2.map V.bl) ∧ SqT K H' t2 (bs2.map V.bl) ∧ SqT K H' t3 (bs2.map V.bl)) ⟨⟨_, rfl⟩, by rw [List.take_zero, List.map_nil, List.append_nil]; exact c5, q51, q52, q53⟩ (fun i σ H' _ z => z.2.2.2.2) (fun i x σ H6 hx z => ?_) (fun σ H' z => ?_)
        · obtain ⟨b3, hb3, rfl⟩ := bool_at hx
          obtain ⟨⟨y3, rfl⟩, c6, q61, q62, q63⟩ := z
          rw [take_more hb3, List.map_append, ← List.append_assoc]
          have l3 : (p2 ++ (bs2.take i).map fun c => (b1, b2, c)).length ≤ 8 := by
            rw [List.length_append, List.length_map, List.length_take]
            have : bs2.length = 2 := rfl
            omega
          generalize (p2 ++ (bs2.take i).map fun c => (b1, b2, c)) = p3 at c6 l3
          walk_at "g"
          obtain ⟨sx, xs, eL, rx⟩ := c6
          refine ⟨.inl ⟨rfl, _, SqL.of eL⟩, ?_⟩
          walk_at "g"
          refine ⟨szK rfl, fun p hp => ?_⟩
          have np : p ≠ L := fun z => by rw [z, eL] at hp; cases hp
          have sp := same_new (o := .tup [.bl b1, .bl b2, .bl b3]) hp
          have lx := rx.length
          rw [List.length_map] at lx
          have eL7 := sp _ _ eL
          have sL : Sx (one L) (upd H6 p (.tup [.bl b1, .bl b2, .bl b3])) (upd (upd H6 p (.tup [.bl b1, .bl b2, .bl b3])) L (.lst (xs ++ [.ref p]))) := Sx.put rfl
          have s67 := (Sx.same sp).trans sL
          refine ⟨L, xs, .ref p, rfl, rfl, eL7, small1000 (by omega), ⟨_, rfl⟩, ⟨sx.trans s67, xs ++ [.ref p], upd_same, ?_⟩, sx_t s67 (fun z => n1 z) q61, sx_t s67 (fun z => n2 z) q62, sx_t s67 (fun z => n3 z) q63⟩
          rw [List.map_append]
          refine (rx.sx s67).append (.one (.tup np (.inl ((upd_ne np).trans upd_same)) (.cons (.bl _) (.cons (.bl _) (.cons (.bl _) .nil)))))
        · exact ⟨⟨_, _, z.1.choose_spec⟩, z.2.1, z.2.2.1, z.2.2.2.1⟩
      · exact ⟨⟨_, _, _, z.1.choose_spec.choose_spec⟩, z.2.1, z.2.2.1⟩
    · obtain ⟨⟨y1, y2, y3, rfl⟩, ⟨sx, xs, eL, rx⟩, _⟩ := z
      walk_at "g"
      refine q _ L xs (fun c o e => ?_) hL eL rx
      exact sx c o (fun z => by rw [show c = L from z, hL] at e; cases e) (s0 c o e)
end
end D

namespace D
open PySem PySem.Spec PyProof.Rows L2
local macro_rules | `(tactic| walk_at "st") => `(tactic| first | exact SqT.of (by assumption) | exact Or.inl (by assumption) | exact SqT.of upd_same | fail "st")
local macro_rules | `(tactic| walk_at "ixt") => `(tactic| refine ⟨_, _, _, _, rfl, rfl, (by walk_at "st" : SqT _ _ _ _), by rfl, ?_⟩)
local macro_rules | `(tactic| walk_at "sq") => `(tactic| first | exact SqL.of (by assumption) | assumption | exact Or.inl (by assumption) | exact SqL.of upd_same | fail "sq")
local macro_rules | `(tactic| walk_at "ix") => `(tactic| refine ⟨_, _, _, _, rfl, rfl, (by walk_at "sq" : SqL _ _ _ _), by rfl, ?_⟩)
local macro_rules | `(tactic| walk_at "set") => `(tactic| refine ⟨_, _, _, _, rfl, rfl, by first | assumption | exact upd_same, by rfl, ?_⟩)
local macro_rules | `(tactic| walk_at "len") => `(tactic| refine ⟨_, _, rfl, Or.inl (by walk_at "sq" : SqL _ _ _ _), ?_⟩)
local macro_rules | `(tactic| walk_at "g") => `(tactic| repeat (first | refine ⟨_, rfl, ?_⟩ | refine ⟨_, _, rfl, rfl, ?_⟩ | refine ⟨Or.inr (by decide), ?_⟩ | refine ⟨Or.inl (by decide), ?_⟩ | refine ⟨(by decide : (0 : Int) < _), ?_⟩ | refine ⟨(⟨by decide, by decide⟩ : CDiv _ _), ?_⟩ | refine ⟨(⟨by decide, by decide, by decide⟩ : CPow _ _), ?_⟩ | refine Or.inl ⟨_, rfl, ?_⟩ | refine ⟨rfl, ?_⟩ | walk_at "ix" | walk_at "ixt" | walk_at "len" | fail "g"))
local macro_rules | `(tactic| walk_at "if") => `(tactic| refine ite2 (fun e => ?_) (fun e => ?_))
section
variable {P : Program} {w : World} {K : PySem.W.Frag} {mg : Str → Option Value} {base : Heap}
def failsW (i j : Wd) (z : Bool × Bool × Bool) : Bool := i.lets z.1 z.2.1 z.2.2 && !j.lets z.1 z.2.1 z.2.2
def amW (i j : Wd) : Bool := allC.all fun z => !failsW i j z
theorem am_le (i j : Wd) : amW i j = leW i j := by cases i <;> cases j <;> decide +kernel
theorem _root_.D.RpAll.ofBools {M : Ms} {H : Hp} : ∀ {ns : List Bool} {vs : List V}, RpAll M H vs (ns.map PyData.bool) → vs = ns.map V.bl
  | [], _, h => by cases h; rfl
  | n :: r, _, h => by
    cases h with
    | cons a t =>
      cases a
      rw [RpAll.ofBools t]
      rfl
def sp_atmost : Sp := fun vs H Q _ => ∃ i j : Wd, vs = [.str i.txt, .str j.txt] ∧ ∀ H', Same H H' → Q (.bl (amW i j)) H'
theorem ok_atmost (T : Txt K mg) : FnOk P w K mg base CX0 2 T.f__law_at_most T.d__law_at_most ["_law_first", "_law_second"] sp_atmost := by
  have G__law_cases := ok_cases (P := P) (w := w) (base := base) T
  have G__law_lets := ok_llets (P := P) (w := w) (base := base) T
  refine T.F__law_at_most.ok sc__law_at_most (fun vs H Q E h => ?_) (fun cdv A outer s H vs Q E hr h => ?_)
  · obtain ⟨_, _, rfl, _⟩ := h
    rfl
  · obtain ⟨i, j, rfl, q⟩ := h
    refine ⟨_, (pss_cons (ps_for PassesOwn.never rfl (pi_listK (K := K) rfl (pe_call0 G__law_cases (hr.mono (by omega)) (by rfl) T.g__law_cases T.F__law_cases.kp T.b__law_cases .nil pass0)) (pg_tupK (K := K) rfl rfl (pgs_cons (pg_name (i := 2) sc__law_at_most.nd rfl (Or.inl rfl)) (pgs_cons (pg_name (i := 3) sc__law_at_most.nd rfl (Or.inl rfl)) (pgs_cons (pg_name (i := 4) sc__law_at_most.nd rfl (Or.inl rfl)) pgs_nil)))) (pss_one (ps_if (PW.pt (pw_and (pt_val (pe_call G__law_lets (hr.mono (by omega)) (by rfl) T.g__law_lets T.F__law_lets.kp T.b__law_lets .nil pass0 (pa_cons (pv 0) (pa_cons (pv 2) (pa_cons (pv 3) (pa_cons (pv 4) pa_nil)))))) (pw_and1 (pt_not (pt_val (pe_call G__law_lets (hr.mono (by omega)) (by rfl) T.g__law_lets T.F__law_lets.kp T.b__law_lets .nil pass0 (pa_cons (pv 1) (pa_cons (pv 2) (pa_cons (pv 3) (pa_cons (pv 4) pa_nil)))))))))) (pss_one (ps_ret pe_bl)) pss_nil)))
      (pss_one (ps_ret pe_bl))), ?_⟩
    walk_at "g"
    refine fun H1 p xs s1 np ep rx => ?_
    refine ⟨p, rfl, ⟨_, SqL.of ep⟩, ?_⟩
    refine for_list (xs := xs) (fun k σ H' => (∃ y2 y3 y4, σ = [some (.str i.txt), some (.str j.txt), y2, y3, y4]) ∧ H' = H1 ∧ (allC.take k).all (fun z => !failsW i j z) = true) ⟨⟨_, _, _, rfl⟩, rfl, rfl⟩ (fun k σ H' _ z => by rw [z.2.1]; exact SqL.of ep) (fun k x σ H' hx z => ?_) (fun σ H' z => ?_)
    · obtain ⟨⟨y2, y3, y4, rfl⟩, eH, hz⟩ := z
      rw [eH]
      obtain ⟨d, hd, rd⟩ := rx.get hx
      rw [List.getElem?_map] at hd
      obtain ⟨⟨c1, c2, c3⟩, hc, rfl⟩ := Option.map_eq_some_iff.mp hd
      obtain ⟨t, ys, rfl, nt, ht, rys⟩ := Rp.tupX (show Rp _ _ _ (.tuple ([c1, c2, c3].map PyData.bool)) from rd)
      have ey := rys.ofBools
      subst ey
      refine ⟨t, [.bl c1, .bl c2, .bl c3], rfl, SqT.of ht, rfl, _, _, rfl, _, _, rfl, _, _, rfl, ?_⟩
      walk_at "g"
      refine ⟨i, c1, c2, c3, rfl, ?_⟩
      have step : failsW i j (c1, c2, c3) = false → ((allC.take (k + 1)).all fun z => !failsW i j z) = true := fun e => by
        rw [take_more hc, List.all_append, hz]
        simp [e]
      cases e1 : i.lets c1 c2 c3 with
      | false =>
        walk_at "g"
        exact ⟨⟨_, _, _, rfl⟩, rfl, step (by unfold failsW; rw [show i.lets (c1, c2, c3).1 (c1, c2, c3).2.1 (c1, c2, c3).2.2 = false from e1]; rfl)⟩
      | true =>
        walk_at "g"
        refine ⟨j, c1, c2, c3, rfl, ?_⟩
        cases e2 : j.lets c1 c2 c3 with
        | true =>
          walk_at "g"
          exact ⟨⟨_, _, _, rfl⟩, rfl, step (by unfold failsW; rw [show j.lets (c1, c2, c3).1 (c1, c2, c3).2.1 (c1, c2, c3).2.2 = true from e2]; simp)⟩
        | false =>
          walk_at "g"
          have q' := q H1 s1
          have ef : failsW i j (c1, c2, c3) = true := by
            unfold failsW
            rw [show i.lets (c1, c2, c3).1 (c1, c2, c3).2.1 (c1, c2, c3).2.2 = true from e1, show j.lets (c1, c2, c3).1 (c1, c2, c3).2.1 (c1, c2, c3).2.2 = false from e2]
            rfl
          have ea : amW i j = false := by
            unfold amW
            refine Bool.eq_false_iff.mpr fun z => ?_
            have := List.all_eq_true.mp z _ (List.mem_of_getElem? hc)
            rw [ef] at this
            cases this
          rw [ea] at q'
          exact q'
    · obtain ⟨⟨y2, y3, y4, rfl⟩, eH, hz⟩ := z
      rw [eH]
      walk_at "g"
      have lx := rx.length
      rw [List.length_map] at lx
      rw [lx, List.take_length] at hz
      have q' := q H1 s1
      rw [show amW i j = true from hz] at q'
      exact q'
/-- some number -/
def sp_anyn (K : PySem.W.Frag) : Sp := fun vs H Q _ => ∃ (b : Addr) (M : Ms), vs = [.ref b] ∧ Bag K M H b ∧ ∀ H' (n : Int), Sx (one b) H H' → Gr H H' → Bag K M H' b → Q (.int n) H'
theorem ok_anyn (T : Txt K mg) : FnOk P w K mg base CX0 3 T.f__law_any_number T.d__law_any_number ["_law_bag_here"] (sp_anyn K) := by
  have G__law_pick := ok_pick (P := P) (w := w) (base := base) T
  refine T.F__law_any_number.ok sc__law_any_number (fun vs H Q E h => ?_) (fun cdv A outer s H vs Q E hr h => ?_)
  · obtain ⟨_, _, rfl, _⟩ := h
    rfl
  · obtain ⟨b, M, rfl, hB, q⟩ := h
    refine ⟨_, (pss_one (ps_ret (pe_ix (ix_listK (K := K) rfl) (pe_lst (pa_cons (pe_call G__law_pick (hr.mono (by omega)) (by rfl) T.g__law_pick T.F__law_pick.kp T.b__law_pick .nil pass0 (pa_cons (pv 0) (pa_cons pe_int pa_nil))) (pa_cons (pe_call G__law_pick (hr.mono (by omega)) (by rfl) T.g__law_pick T.F__law_pick.kp T.b__law_pick .nil pass0 (pa_cons (pv 0) (pa_cons (pe_op op_pow pe_int pe_int) pa_nil))) pa_nil))) (pe_op op_fdiv (pe_call G__law_pick (hr.mono (by omega)) (by rfl) T.g__law_pick T.F__law_pick.kp T.b__law_pick .nil pass0 (pa_cons (pv 0) (pa_cons pe_int pa_nil))) pe_int) (fun _ _ => rfl)))), ?_⟩
    walk_at "g"
    refine ⟨b, 4, M, rfl, hB, by omega, by omega, fun n1 H1 h0 h1 hA1 hB1 => ?_⟩
    walk_at "g"
    refine ⟨b, _, M, rfl, hB1, by decide, by decide, fun n2 H2 h2 h3 hA2 hB2 => ?_⟩
    walk_at "g"
    refine ⟨szK rfl, fun p hp => ?_⟩
    have nb : b ≠ p := fun z => hB2.there (by rw [z]; exact hp)
    walk_at "g"
    refine ⟨b, 3, also M p, rfl, (hB2.more hp).same (same_new hp), by omega, by omega, fun n3 H3 h4 h5 hA3 hB3 => ?_⟩
    walk_at "g"
    have ep : H3 p = some (.lst [.int n1, .int n2]) := (hA3 p (Ne.symm nb)).trans upd_same
    have s03 : Sx (one b) H H3 := (hA1.sx.trans hA2.sx).trans ((Sx.new hp).trans hA3.sx)
    have g03 : Gr H H3 := ((At.gr hA1 hB1.there).trans (At.gr hA2 hB2.there)).trans (Gr.upd.trans (At.gr hA3 hB3.there))
    have hB4 := hB3.less (N := M) hB.w also_le
    have c : n3 / 2 = 0 ∨ n3 / 2 = 1 := by omega
    rcases c with c | c
    · exact ⟨p, _, _, _, rfl, rfl, SqL.of ep, (by rw [c]; rfl), q _ _ s03 g03 hB4⟩
    · exact ⟨p, _, _, _, rfl, rfl, SqL.of ep, (by rw [c]; rfl), q _ _ s03 g03 hB4⟩
def sp_other (K : PySem.W.Frag) : Sp := fun vs H Q _ => ∃ (b : Addr) (n : Int) (M : Ms), vs = [.ref b, .int n] ∧ Bag K M H b ∧ ∀ H' (m : Int), Sx (one b) H H' → Gr H H' → Bag K M H' b → m ≠ n → Q (.int m) H'
theorem ok_other (T : Txt K mg) : FnOk P w K mg base CX0 3 T.f__law_other T.d__law_other ["_law_bag_here", "_law_number"] (sp_other K) := by
  have G__law_pick := ok_pick (P := P) (w := w) (base := base) T
  refine T.F__law_other.ok sc__law_other (fun vs H Q E h => ?_) (fun cdv A outer s H vs Q E hr h => ?_)
  · obtain ⟨_, _, _, rfl, _⟩ := h
    rfl
  · obtain ⟨b, n, M, rfl, hB, q⟩ := h
    refine ⟨_, (pss_one (ps_ret (pe_ix (ix_listK (K := K) rfl) (pe_lst (pa_cons (pe_op op_add (pv 1) pe_int) (pa_cons (pe_op op_add (pe_op op_add (pv 1) pe_int) (pe_call G__law_pick (hr.mono (by omega)) (by rfl) T.g__law_pick T.F__law_pick.kp T.b__law_pick .nil pass0 (pa_cons (pv 0) (pa_cons pe_int pa_nil)))) (pa_cons (pe_op op_add (pv 1) (pe_op op_pow pe_int pe_int)) (pa_cons (pe_callB call_abs (by rfl) T.m_abs (by decide +kernel) (pa_cons (pe_op op_sub (pv 1) pe_int) pa_nil)) pa_nil))))) (pe_call G__law_pick (hr.mono (by omega)) (by rfl) T.g__law_pick T.F__law_pick.kp T.b__law_pick .nil pass0 (pa_cons (pv 0) (pa_cons pe_int pa_nil))) (fun _ _ => rfl)))), ?_⟩
    walk_at "g"
    refine ⟨b, 9, M, rfl, hB, by omega, by omega, fun n1 H1 h0 h1 hA1 hB1 => ?_⟩
    walk_at "g"
    refine ⟨szK rfl, fun p hp => ?_⟩
    have nb : b ≠ p := fun z => hB1.there (by rw [z]; exact hp)
    walk_at "g"
    refine ⟨b, 4, also M p, rfl, (hB1.more hp).same (same_new hp), by omega, by omega, fun n3 H3 h4 h5 hA3 hB3 => ?_⟩
    have ep : H3 p = some (.lst [.int (n + 1), .int (n + 1 + n1), .int (n + 10 ^ Int.toNat 9), .int (if n - 1 < 0 then -(n - 1) else n - 1)]) := (hA3 p (Ne.symm nb)).trans upd_same
    have s03 : Sx (one b) H H3 := hA1.sx.trans ((Sx.new hp).trans hA3.sx)
    have g03 : Gr H H3 := (At.gr hA1 hB1.there).trans (Gr.upd.trans (At.gr hA3 hB3.there))
    have hB4 := hB3.less (N := M) hB.w also_le
    have d4 : (if n - 1 < 0 then -(n - 1) else n - 1) ≠ n := by split <;> omega
    have d3 : n + 10 ^ Int.toNat 9 ≠ n := by
      have : (10 : Int) ^ Int.toNat 9 = 1000000000 := by decide
      omega
    have c : n3 = 0 ∨ n3 = 1 ∨ n3 = 2 ∨ n3 = 3 := by omega
    rcases c with rfl | rfl | rfl | rfl
    · exact ⟨p, _, _, _, rfl, rfl, SqL.of ep, rfl, q _ _ s03 g03 hB4 (by omega)⟩
    · exact ⟨p, _, _, _, rfl, rfl, SqL.of ep, rfl, q _ _ s03 g03 hB4 (by omega)⟩
    · exact ⟨p, _, _, _, rfl, rfl, SqL.of ep, rfl, q _ _ s03 g03 hB4 d3⟩
    · exact ⟨p, _, _, _, rfl, rfl, SqL.of ep, rfl, q _ _ s03 g03 hB4 d4⟩
end
end D

namespace D
open PySem PySem.Spec PyProof.Rows L2
local macro_rules | `(tactic| walk_at "st") => `(tactic| first | exact SqT.of (by assumption) | exact Or.inl (by assumption) | exact SqT.of upd_same | fail "st")
local macro_rules | `(tactic| walk_at "ixt") => `(tactic| refine ⟨_, _, _, _, rfl, rfl, (by walk_at "st" : SqT _ _ _ _), by rfl, ?_⟩)
local macro_rules | `(tactic| walk_at "sq") => `(tactic| first | exact SqL.of (by assumption) | assumption | exact Or.inl (by assumption) | exact SqL.of upd_same | fail "sq")
local macro_rules | `(tactic| walk_at "ix") => `(tactic| refine ⟨_, _, _, _, rfl, rfl, (by walk_at "sq" : SqL _ _ _ _), by rfl, ?_⟩)
local macro_rules | `(tactic| walk_at "set") => `(tactic| refine ⟨_, _, _, _, rfl, rfl, by first | assumption | exact upd_same, by rfl, ?_⟩)
local macro_rules | `(tactic| walk_at "len") => `(tactic| refine ⟨_, _, rfl, Or.inl (by walk_at "sq" : SqL _ _ _ _), ?_⟩)
local macro_rules | `(tactic| walk_at "g") => `(tactic| repeat (first | refine ⟨_, rfl, ?_⟩ | refine ⟨_, _, rfl, rfl, ?_⟩ | refine ⟨Or.inr (by decide), ?_⟩ | refine ⟨Or.inl (by decide), ?_⟩ | refine ⟨(by decide : (0 : Int) < _), ?_⟩ | refine ⟨(⟨by decide, by decide⟩ : CDiv _ _), ?_⟩ | refine ⟨(⟨by decide, by decide, by decide⟩ : CPow _ _), ?_⟩ | refine Or.inl ⟨_, rfl, ?_⟩ | refine ⟨rfl, ?_⟩ | walk_at "ix" | walk_at "ixt" | walk_at "len" | fail "g"))
local macro_rules | `(tactic| walk_at "if") => `(tactic| refine ite2 (fun e => ?_) (fun e => ?_))
section
variable {P : Program} {w : World} {K : PySem.W.Frag} {mg : Str → Option Value} {base : Heap}
def sp_entry (K : PySem.W.Frag) (CE : Addr) : Sp := fun vs H Q _ => ∃ (b t : Addr) (en : En) (M : Ms), vs = [.ref b, .ref t] ∧ Bag K M H b ∧ Mk M H ∧ ¬ M t ∧ SqT K H t [en.ov, .str en.word, .int en.who, .int en.ticket, .int en.question, .int en.answer] ∧ 0 ≤ en.ticket ∧ en.ticket < 4 ∧ 0 ≤ en.question ∧ en.question < 4 ∧
  ∀ H' v, Sx (one b) H H' → Gr H H' → Bag K M H' b → EnAt CE M H' v en → Q v H'
theorem ok_entry (T : Txt K mg) : FnOk P w K mg base CX0 6 T.f__law_entry T.d__law_entry ["_law_bag_here", "_law_row"] (sp_entry K T.C_Entry) := by
  have G__law_pick := ok_pick (P := P) (w := w) (base := base) T
  have G_Entry___init__ := ok_einit (P := P) (w := w) (base := base) T
  have G_Line___init__ := ok_linit (P := P) (w := w) (base := base) T
  have G_Line_send := ok_send (P := P) (w := w) (base := base) T
  refine T.F__law_entry.ok sc__law_entry (fun vs H Q E h => ?_) (fun cdv A outer s H vs Q E hr h => ?_)
  · obtain ⟨_, _, _, _, rfl, _⟩ := h
    rfl
  · obtain ⟨b, t, en, M, rfl, hB, hM, nt, ht, t0, t4, q0, q4, q⟩ := h
    refine ⟨_, (pss_cons (ps_if (pt_cmpR op_eq (pe_call G__law_pick (hr.mono (by omega)) (by rfl) T.g__law_pick T.F__law_pick.kp T.b__law_pick .nil pass0 (pa_cons (pv 0) (pa_cons pe_int pa_nil))) pe_int (nomark _)) (pss_one (ps_ret (pe_make ⟨T.mk_Entry, T.a_Entry___init__, T.i_Entry___init__, T.kc_Entry⟩ G_Entry___init__ (hr.mono (by omega)) (by rfl) T.g_Entry T.b_Entry___init__ .nil pass0 (pa_cons (pe_ix (ix_tupK (K := K) rfl) (pv 1) pe_int (fun _ _ => rfl)) (pa_cons (pe_ix (ix_tupK (K := K) rfl) (pv 1) pe_int (fun _ _ => rfl)) (pa_cons (pe_ix (ix_tupK (K := K) rfl) (pv 1) pe_int (fun _ _ => rfl)) (pa_cons (pe_ix (ix_tupK (K := K) rfl) (pv 1) pe_int (fun _ _ => rfl)) (pa_cons (pe_ix (ix_tupK (K := K) rfl) (pv 1) pe_int (fun _ _ => rfl)) (pa_cons (pe_ix (ix_tupK (K := K) rfl) (pv 1) pe_int (fun _ _ => rfl)) pa_nil))))))))) pss_nil)
      (pss_cons (ps_set (i := 2) sc__law_entry.nd rfl (Or.inl rfl) (pe_make ⟨T.mk_Line, T.a_Line___init__, T.i_Line___init__, T.kc_Line⟩ G_Line___init__ (hr.mono (by omega)) (by rfl) T.g_Line T.b_Line___init__ .nil pass0 (pa_cons (pe_tup (pa_cons (pe_tup (pa_cons (pe_ix (ix_tupK (K := K) rfl) (pv 1) pe_int (fun _ _ => rfl)) (pa_cons (pe_ix (ix_tupK (K := K) rfl) (pv 1) pe_int (fun _ _ => rfl)) (pa_cons (pe_ix (ix_tupK (K := K) rfl) (pv 1) pe_int (fun _ _ => rfl)) (pa_cons (pe_ix (ix_tupK (K := K) rfl) (pv 1) pe_int (fun _ _ => rfl)) pa_nil))))) pa_nil)) (pa_cons (pe_op op_add pe_int (pe_call G__law_pick (hr.mono (by omega)) (by rfl) T.g__law_pick T.F__law_pick.kp T.b__law_pick .nil pass0 (pa_cons (pv 0) (pa_cons pe_int pa_nil)))) pa_nil))))
      (pss_cons (ps_set (i := 3) sc__law_entry.nd rfl (Or.inl rfl) (pe_meth (pv 2) T.cl_Line ⟨T.a_Line_send, T.i_Line_send, T.F_Line_send.kp⟩ G_Line_send (hr.mono (by omega)) T.b_Line_send .nil pass0 (pa_cons (pe_ix (ix_tupK (K := K) rfl) (pv 1) pe_int (fun _ _ => rfl)) (pa_cons (pe_ix (ix_tupK (K := K) rfl) (pv 1) pe_int (fun _ _ => rfl)) (pa_cons (pe_ix (ix_tupK (K := K) rfl) (pv 1) pe_int (fun _ _ => rfl)) (pa_cons (pe_ix (ix_tupK (K := K) rfl) (pv 1) pe_int (fun _ _ => rfl)) pa_nil))))))
      (pss_cons (ps_for PassesOwn.never rfl (pi_range1 (by rfl) T.m_range (pa_cons pe_int pa_nil)) (pg_name (i := 4) sc__law_entry.nd rfl (Or.inl rfl)) (pss_one (ps_if (pt_cmpR op_ne (pe_fldK (K := K) rfl (pv 3) rfl) (pe_ix (ix_tupK (K := K) rfl) (pv 1) pe_int (fun _ _ => rfl)) (nomark _)) (pss_one (ps_set (i := 3) sc__law_entry.nd rfl (Or.inl rfl) (pe_meth (pv 2) T.cl_Line ⟨T.a_Line_send, T.i_Line_send, T.F_Line_send.kp⟩ G_Line_send (hr.mono (by omega)) T.b_Line_send .nil pass0 (pa_cons (pe_ix (ix_tupK (K := K) rfl) (pv 1) pe_int (fun _ _ => rfl)) (pa_cons (pe_ix (ix_tupK (K := K) rfl) (pv 1) pe_int (fun _ _ => rfl)) (pa_cons (pe_ix (ix_tupK (K := K) rfl) (pv 1) pe_int (fun _ _ => rfl)) (pa_cons (pe_ix (ix_tupK (K := K) rfl) (pv 1) pe_int (fun _ _ => rfl)) pa_nil))))))) pss_nil)))
      (pss_one (ps_ret (pv 3))))))), ?_⟩
    walk_at "g"
    refine ⟨b, 2, M, rfl, hB, by omega, by omega, fun n1 H1 h0 h1 hA1 hB1 => ?_⟩
    have ht1 : SqT K H1 t [en.ov, .str en.word, .int en.who, .int en.ticket, .int en.question, .int en.answer] := sx_t hA1.sx (fun z => nt (by rw [show t = b from z]; exact hB.w)) ht
    have hM1 : Mk M H1 := hM.gr (At.gr hA1 hB1.there)
    have g01 := At.gr hA1 hB1.there
    by_cases c : n1 = 0
    · subst c
      walk_at "g"
      refine ⟨_, _, _, _, rfl, rfl, ht1, rfl, ?_⟩
      walk_at "g"
      refine ⟨_, _, _, _, rfl, rfl, ht1, rfl, ?_⟩
      walk_at "g"
      refine ⟨_, _, _, _, rfl, rfl, ht1, rfl, ?_⟩
      walk_at "g"
      refine ⟨_, _, _, _, rfl, rfl, ht1, rfl, ?_⟩
      walk_at "g"
      refine ⟨_, _, _, _, rfl, rfl, ht1, rfl, ?_⟩
      walk_at "g"
      refine ⟨_, _, _, _, rfl, rfl, ht1, rfl, ?_⟩
      walk_at "g"
      intro x dx hx hd ne
      have hx2 : upd H1 dx (.own x) x = none := by rw [upd_ne (fun z => ne z.symm)]; exact hx
      have s1 : Same H1 (upd (upd H1 dx (.own x)) x (.ins T.C_Entry dx [])) := (same_new hd).trans (same_new hx2)
      have s2 : Same H1 (upd (upd (upd H1 dx (.own x)) x (.ins T.C_Entry dx [])) x (.ins T.C_Entry dx en.fs)) := same_put s1 hx
      refine ⟨x, dx, en, rfl, upd_same, rfl, ?_⟩
      exact q _ _ (hA1.sx.trans (Sx.same s2)) (g01.trans (Gr.same s2)) (hB1.same s2) ⟨x, dx, rfl, hM1.out hx, upd_same⟩
    · have e1 : decide (V.int n1 = V.int 0) = false := decide_eq_false fun z => c (V.int.inj z)
      walk_at "g"
      rw [e1]
      walk_at "g"
      refine ⟨_, _, _, _, rfl, rfl, ht1, rfl, ?_⟩
      walk_at "g"
      refine ⟨_, _, _, _, rfl, rfl, ht1, rfl, ?_⟩
      walk_at "g"
      refine ⟨_, _, _, _, rfl, rfl, ht1, rfl, ?_⟩
      walk_at "g"
      refine ⟨_, _, _, _, rfl, rfl, ht1, rfl, ?_⟩
      walk_at "g"
      refine ⟨szK rfl, fun t5 h5 => ?_⟩
      generalize e2 : upd H1 t5 _ = H2
      have s12 : Same H1 H2 := by rw [← e2]; exact same_new h5
      have f5 : H2 t5 = some (.tup [.int en.answer, .int en.answer, .int en.answer, .int en.answer]) := by rw [← e2]; exact upd_same
      clear e2
      walk_at "g"
      refine ⟨szK rfl, fun t6 h6 => ?_⟩
      generalize e3 : upd H2 t6 _ = H3
      have s23 : Same H2 H3 := by rw [← e3]; exact same_new h6
      have f6 : H3 t6 = some (.tup [.ref t5]) := by rw [← e3]; exact upd_same
      clear e3
      walk_at "g"
      have s13 := s12.trans s23
      have hB3 := hB1.same s13
      have m5 : ¬ M t5 := hM1.out h5
      have m6 : ¬ M t6 := (hM1.gr (Gr.same s12)).out h6
      refine ⟨b, 3, M, rfl, hB3, by omega, by omega, fun n2 H4 h2 h3 hA4 hB4 => ?_⟩
      have g13 := Gr.same s13
      have g34 := At.gr hA4 hB4.there
      have hM4 : Mk M H4 := (hM1.gr g13).gr g34
      have k5 : H4 t5 = some (.tup [.int en.answer, .int en.answer, .int en.answer, .int en.answer]) := (hA4 t5 (fun z => m5 (by rw [z]; exact hB.w))).trans (s23 _ _ f5)
      have k6 : H4 t6 = some (.tup [.ref t5]) := (hA4 t6 (fun z => m6 (by rw [z]; exact hB.w))).trans f6
      have ht4 : SqT K H4 t [en.ov, .str en.word, .int en.who, .int en.ticket, .int en.question, .int en.answer] := sx_t hA4.sx (fun z => nt (by rw [show t = b from z]; exact hB.w)) (same_sqt s13 ht1)
      have s04 : Sx (one b) H H4 := hA1.sx.trans ((Sx.same s13).trans hA4.sx)
      have g04 : Gr H H4 := g01.trans (g13.trans g34)
      clear s13 g13
      walk_at "g"
      intro x dx hx hd ne
      have hx2 : upd H4 dx (.own x) x = none := by rw [upd_ne (fun z => ne z.symm)]; exact hx
      have s45 : Same H4 (upd (upd H4 dx (.own x)) x (.ins T.C_Line dx [])) := (same_new hd).trans (same_new hx2)
      refine ⟨x, dx, t6, [.ref t5], _, rfl, upd_same, .inl (s45 _ _ k6), fun l hl => ?_⟩
      have lx : l ≠ x := fun z => by rw [z, upd_same] at hl; cases hl
      have s46 : Same H4 (upd (upd (upd (upd H4 dx (.own x)) x (.ins T.C_Line dx [])) l (.lst [])) x (.ins T.C_Line dx (lnFs (.ref t6) (.ref l) (1 + n2) 0 0))) := same_put (s45.trans (same_new hl)) hx
      generalize e6 : upd (upd (upd (upd H4 dx (.own x)) x (.ins T.C_Line dx [])) l (.lst [])) x _ = H6
      have hx6 : H6 x = some (.ins T.C_Line dx (lnFs (.ref t6) (.ref l) (1 + n2) 0 0)) := by rw [← e6]; exact upd_same
      have hl6 : H6 l = some (.lst []) := by rw [← e6, upd_ne lx, upd_same]
      have s46' : Same H4 H6 := by rw [← e6]; exact s46
      have hl4 : H4 l = none := by
        cases z : H4 l with
        | none => rfl
        | some o => rw [s45 _ _ z] at hl; cases hl
      clear e6 s46 hl
      refine ⟨rfl, ?_⟩
      walk_at "g"
      let M2 : Ms := also (also M x) l
      have hM2 : Mk M2 H6 := fun a z => by
        rcases z with (z | z) | z
        · exact hM4.gr (Gr.same s46') a z
        · rw [show a = x from z, hx6]; simp
        · rw [show a = l from z, hl6]; simp
      have hB6 : Bag K M2 H6 b := ((hB4.more hx).more hl4).same s46'
      have bx : b ≠ x := fun z => hB4.there (by rw [z]; exact hx)
      have bl : b ≠ l := fun z => hB4.there (by rw [z]; exact hl4)
      have nm6 : ¬ M2 t6 := fun z => by
        rcases z with (z | z) | z
        · exact m6 z
        · rw [show t6 = x from z, hx] at k6; cases k6
        · rw [show t6 = l from z, hl4] at k6; cases k6
      have nm5 : ¬ M2 t5 := fun z => by
        rcases z with (z | z) | z
        · exact m5 z
        · rw [show t5 = x from z, hx] at k5; cases k5
        · rw [show t5 = l from z, hl4] at k5; cases k5
      have htx : t ≠ x ∧ t ≠ l ∨ ∀ H' : Hp, SqT K H' t [en.ov, .str en.word, .int en.who, .int en.ticket, .int en.question, .int en.answer] := by
        rcases ht4 with z | z
        · refine .inl ⟨fun e => ?_, fun e => ?_⟩
          · exact rd_ne z hx e
          · exact rd_ne z hl4 e
        · exact .inr fun _ => .inr z
      have hR : Rp M2 H6 (.ref t6) (.tuple ([[en.answer, en.answer, en.answer, en.answer]].map rowD)) := .tup nm6 (.inl (s46' _ _ k6)) (.cons (.tup nm5 (.inl (s46' _ _ k5)) (RpAll.ints [en.answer, en.answer, en.answer, en.answer])) .nil)
      obtain ⟨qq, eqq⟩ : ∃ qq : Nat, en.question = (qq : Int) := ⟨en.question.toNat, by omega⟩
      have hqq : [en.answer, en.answer, en.answer, en.answer][qq]? = some en.answer := by
        have : qq = 0 ∨ qq = 1 ∨ qq = 2 ∨ qq = 3 := by omega
        rcases this with z | z | z | z <;> rw [z] <;> rfl
      have ht6 := same_sqt s46' ht4
      have htN : ∀ H', Sx (also (one x) l) H6 H' → SqT K H' t [en.ov, .str en.word, .int en.who, .int en.ticket, .int en.question, .int en.answer] := fun H' s => by
        rcases htx with ⟨n1, n2⟩ | z
        · exact sx_t s (fun z => z.elim n1 n2) ht6
        · exact z H'
      refine ⟨x, dx, _, rfl, hx6, rfl, ?_⟩
      walk_at "g"
      refine ⟨_, _, _, _, rfl, rfl, ht6, rfl, ?_⟩
      walk_at "g"
      refine ⟨_, _, _, _, rfl, rfl, ht6, rfl, ?_⟩
      walk_at "g"
      refine ⟨_, _, _, _, rfl, rfl, ht6, rfl, ?_⟩
      walk_at "g"
      refine ⟨_, _, _, _, rfl, rfl, ht6, rfl, ?_⟩
      walk_at "g"
      refine ⟨x, l, .ref t6, en.ov, en.word, en.who, en.question, en.answer, 1 + n2, 0, 0, [], [[en.answer, en.answer, en.answer, en.answer]], M2, rfl, ⟨dx, hx6, hl6⟩, hR, .inl (.inr rfl), .inr rfl, lx.symm, hM2, by decide, ⟨0, qq, _, rfl, rfl, eqq, hqq⟩, fun H7 v s67 g67 e7 ln7 => ?_⟩
      let tk : Nat → Int := fun k => if (k : Int) < en.ticket then k else en.ticket
      have tk0 : tk 0 = 0 := by show (if ((0 : Nat) : Int) < en.ticket then ((0 : Nat) : Int) else en.ticket) = 0; split <;> omega
      obtain ⟨es7, ln7, les7⟩ : ∃ es, LnAt T.C_Line H7 x l (.ref t6) (1 + n2) 0 (0 + 1) es ∧ es.length ≤ 0 + 1 := ⟨_, ln7, by split <;> simp⟩
      walk_at "g"
      refine ⟨by decide, by decide, ?_⟩
      refine for_range (lo := 0) (n := 3) (fun k σ H' => ∃ v y es, σ = [some (.ref b), some (.ref t), some (.ref x), some v, y] ∧ Sx (also (one x) l) H6 H' ∧ Gr H6 H' ∧ EnAt T.C_Entry M2 H' v ⟨en.ov, en.word, en.who, tk k, en.question, en.answer⟩ ∧ LnAt T.C_Line H' x l (.ref t6) (1 + n2) 0 (tk k + 1) es ∧ es.length ≤ k + 1) ?_ (fun k σ H8 hk z => ?_) (fun σ H8 z => ?_)
      · refine ⟨v, _, es7, rfl, s67, g67, ?_, ?_, les7⟩
        · rw [tk0]; exact e7
        · rw [tk0]; exact ln7
      · obtain ⟨v, y, es, rfl, s8, g8, ⟨av, dv, rfl, nav, hav⟩, ⟨dx8, hx8, hl8⟩, les⟩ := z
        walk_at "g"
        refine ⟨av, _, dv, _, _, rfl, hav, T.cl_Entry, T.nA_Entry_ticket, rfl, ?_⟩
        walk_at "g"
        refine ⟨_, _, _, _, rfl, rfl, htN H8 s8, rfl, ?_⟩
        walk_at "g"
        have hkt : (tk k = en.ticket ∧ tk (k + 1) = tk k) ∨ (tk k ≠ en.ticket ∧ tk (k + 1) = tk k + 1) := by
          show ((if ((k : Nat) : Int) < en.ticket then ((k : Nat) : Int) else en.ticket) = en.ticket ∧ (if ((k + 1 : Nat) : Int) < en.ticket then ((k + 1 : Nat) : Int) else en.ticket) = (if ((k : Nat) : Int) < en.ticket then ((k : Nat) : Int) else en.ticket)) ∨ ((if ((k : Nat) : Int) < en.ticket then ((k : Nat) : Int) else en.ticket) ≠ en.ticket ∧ (if ((k + 1 : Nat) : Int) < en.ticket then ((k + 1 : Nat) : Int) else en.ticket) = (if ((k : Nat) : Int) < en.ticket then ((k : Nat) : Int) else en.ticket) + 1)
          by_cases c1 : ((k : Nat) : Int) < en.ticket
          · right
            rw [if_pos c1]
            refine ⟨by omega, ?_⟩
            split <;> omega
          · left
            rw [if_neg c1, if_neg (by omega)]
            exact ⟨rfl, rfl⟩
        rcases hkt with ⟨ce, ek⟩ | ⟨ce, ek⟩
        · rw [show decide (V.int (tk k) = V.int en.ticket) = true from decide_eq_true (congrArg V.int ce)]
          walk_at "g"
          refine ⟨.ref av, _, es, rfl, s8, g8, ?_, ?_, by omega⟩
          · rw [ek]; exact ⟨av, dv, rfl, nav, hav⟩
          · rw [ek]; exact ⟨dx8, hx8, hl8⟩
        · rw [show decide (V.int (tk k) = V.int en.ticket) = false from decide_eq_false fun z => ce (V.int.inj z)]
          walk_at "g"
          refine ⟨x, dx8, _, rfl, hx8, rfl, ?_⟩
          walk_at "g"
          refine ⟨_, _, _, _, rfl, rfl, htN H8 s8, rfl, ?_⟩
          walk_at "g"
          refine ⟨_, _, _, _, rfl, rfl, htN H8 s8, rfl, ?_⟩
          walk_at "g"
          refine ⟨_, _, _, _, rfl, rfl, htN H8 s8, rfl, ?_⟩
          walk_at "g"
          refine ⟨_, _, _, _, rfl, rfl, htN H8 s8, rfl, ?_⟩
          walk_at "g"
          have hM8 : Mk M2 H8 := hM2.gr g8
          have hR8 : Rp M2 H8 (.ref t6) (.tuple ([[en.answer, en.answer, en.answer, en.answer]].map rowD)) := hR.sx (s8.le fun c z => z.elim (fun z => .inl (.inr z)) .inr)
          refine ⟨x, l, .ref t6, en.ov, en.word, en.who, en.question, en.answer, 1 + n2, 0, tk k + 1, es, [[en.answer, en.answer, en.answer, en.answer]], M2, rfl, ⟨dx8, hx8, hl8⟩, hR8, .inl (.inr rfl), .inr rfl, lx.symm, hM8, by omega, ⟨0, qq, _, rfl, rfl, eqq, hqq⟩, fun H9 v s89 g89 e9 ln9 => ?_⟩
          obtain ⟨es9, ln9, les9⟩ : ∃ es9, LnAt T.C_Line H9 x l (.ref t6) (1 + n2) 0 (tk k + 1 + 1) es9 ∧ es9.length ≤ k + 1 + 1 := ⟨_, ln9, by
            split
            · rw [List.eraseIdx_zero, List.length_tail, List.length_append]
              show es.length + 1 - 1 ≤ _
              omega
            · rw [List.length_append]
              show es.length + 1 ≤ _
              omega⟩
          walk_at "g"
          refine ⟨v, _, es9, rfl, s8.trans s89, g8.trans g89, ?_, ?_, les9⟩
          · rw [ek]; exact e9
          · rw [ek]; exact ln9
      · obtain ⟨v, y, es, rfl, s8, g8, e8, ⟨dx8, hx8, hl8⟩, les⟩ := z
        have tk3 : tk 3 = en.ticket := by show (if ((3 : Nat) : Int) < en.ticket then ((3 : Nat) : Int) else en.ticket) = en.ticket; split <;> omega
        rw [tk3] at e8
        walk_at "g"
        refine q _ _ (fun c o n e => ?_) (g04.trans ((Gr.same s46').trans g8)) ((hB6.keep s8 (fun z => z.elim bx bl) (fun c z => z.elim (fun z => .inl (.inr z)) .inr)).less hB.w fun c z => .inl (.inl z)) ?_
        · have e4 := s04 c o n e
          refine s8 c o (fun z => ?_) (s46' c o e4)
          rcases z with z | z
          · rw [show c = x from z, hx] at e4; cases e4
          · rw [show c = l from z, hl4] at e4; cases e4
        · obtain ⟨av, dv, rfl, nav, hav⟩ := e8
          exact ⟨av, dv, rfl, fun z => nav (.inl (.inl z)), hav⟩
end
end D

namespace D
open PySem PySem.Spec PyProof.Rows L2
local macro_rules | `(tactic| walk_at "st") => `(tactic| first | exact SqT.of (by assumption) | exact Or.inl (by assumption) | exact SqT.of upd_same | fail "st")
local macro_rules | `(tactic| walk_at "ixt") => `(tactic| refine ⟨_, _, _, _, rfl, rfl, (by walk_at "st" : SqT _ _ _ _), by rfl, ?_⟩)
local macro_rules | `(tactic| walk_at "sq") => `(tactic| first | exact SqL.of (by assumption) | assumption | exact Or.inl (by assumption) | exact SqL.of upd_same | fail "sq")
local macro_rules | `(tactic| walk_at "ix") => `(tactic| refine ⟨_, _, _, _, rfl, rfl, (by walk_at "sq" : SqL _ _ _ _), by rfl, ?_⟩)
local macro_rules | `(tactic| walk_at "set") => `(tactic| refine ⟨_, _, _, _, rfl, rfl, by first | assumption | exact upd_same, by rfl, ?_⟩)
local macro_rules | `(tactic| walk_at "len") => `(tactic| refine ⟨_, _, rfl, Or.inl (by walk_at "sq" : SqL _ _ _ _), ?_⟩)
local macro_rules | `(tactic| walk_at "g") => `(tactic| repeat (first | refine ⟨_, rfl, ?_⟩ | refine ⟨_, _, rfl, rfl, ?_⟩ | refine ⟨Or.inr (by decide), ?_⟩ | refine ⟨Or.inl (by decide), ?_⟩ | refine ⟨(by decide : (0 : Int) < _), ?_⟩ | refine ⟨(⟨by decide, by decide⟩ : CDiv _ _), ?_⟩ | refine ⟨(⟨by decide, by decide, by decide⟩ : CPow _ _), ?_⟩ | refine Or.inl ⟨_, rfl, ?_⟩ | refine ⟨rfl, ?_⟩ | walk_at "ix" | walk_at "ixt" | walk_at "len" | fail "g"))
local macro_rules | `(tactic| walk_at "if") => `(tactic| refine ite2 (fun e => ?_) (fun e => ?_))
section
variable {P : Program} {w : World} {K : PySem.W.Frag} {mg : Str → Option Value} {base : Heap}
/-- a join behind which the walk cannot run on -/
theorem seq_joinN {t u : TS} {D : Ends} {σ : L2.St} {H : Hp} (Pv : L2.St → Hp → Prop) (h : ∀ N : L2.St → Hp → Prop, (∀ σ H, Pv σ H → N σ H) → t { D with nx := N } σ H) (hN : ∀ σ H, Pv σ H → u D σ H) : tSeq t u D σ H := h _ hN
/-- a pair of a word and its fence -/
def PrAt (T : Txt K mg) (M : Ms) (H : Hp) (v : V) (w : Wd) : Prop := ∃ t fv, v = .ref t ∧ ¬ M t ∧ H t = some (.tup [.str w.txt, fv]) ∧ FcAt T M H fv w
theorem PrAt.sx {T : Txt K mg} {M : Ms} {H H' : Hp} {v : V} {w : Wd} (h : PrAt T M H v w) (s : Sx M H H') : PrAt T M H' v w := by
  obtain ⟨t, fv, rfl, n, ht, hf⟩ := h
  exact ⟨t, fv, rfl, n, s _ _ n ht, hf.sx s⟩
def PrsAt (T : Txt K mg) (M : Ms) (H : Hp) (xs : List V) (ws : List Wd) : Prop := xs.length = ws.length ∧ ∀ (i : Nat) (v : V), xs[i]? = some v → ∃ w, ws[i]? = some w ∧ PrAt T M H v w
theorem PrsAt.sx {T : Txt K mg} {M : Ms} {H H' : Hp} {xs : List V} {ws : List Wd} (h : PrsAt T M H xs ws) (s : Sx M H H') : PrsAt T M H' xs ws :=
  ⟨h.1, fun i v e => let ⟨w, a, b⟩ := h.2 i v e; ⟨w, a, b.sx s⟩⟩
/-- the list of the pairs -/
def FsAt (T : Txt K mg) (M : Ms) (H : Hp) (f : Addr) (ws : List Wd) : Prop := ∃ xs, ¬ M f ∧ H f = some (.lst xs) ∧ PrsAt T M H xs ws ∧ ws.length ≤ 10
theorem FsAt.sx {T : Txt K mg} {M : Ms} {H H' : Hp} {f : Addr} {ws : List Wd} (h : FsAt T M H f ws) (s : Sx M H H') : FsAt T M H' f ws := by
  obtain ⟨xs, n, a, b, c⟩ := h
  exact ⟨xs, n, s _ _ n a, b.sx s, c⟩
def pathD (ns : List Int) : PyData := .tuple (ns.map fun n => .tuple [.int n])
def rowT (en : En) (ns : List Int) : PyData := .tuple [pathD ns, .str en.word, .int en.who, .int en.ticket, .int en.question, .int en.answer]
theorem path_lay : ∀ ns : List Int, PyData.canLayAll0 (ns.map fun n => PyData.tuple [.int n]) = true
  | [] => by simp [PyData.canLayAll0]
  | n :: r => by
    have := path_lay r
    simp only [List.map_cons, PyData.canLayAll0, PyData.canLay0, this]
    simp
theorem path_depth : ∀ ns : List Int, PyData.depthAll (ns.map fun n => PyData.tuple [.int n]) ≤ 1
  | [] => by simp [PyData.depthAll]
  | n :: r => by
    have := path_depth r
    simp only [List.map_cons, PyData.depthAll, PyData.depth]
    omega
theorem okN_chars {z : Str} (h : okN z) : ∀ c ∈ z.cps.toList, c < 0x110000 := fun c hc => by
  have := (h.2.2 c hc).2
  omega
theorem row_lay (en : En) (ns : List Int) (h : okN en.word) : (rowT en ns).canLay0 = true := by
  have h1 := path_lay ns
  have h2 := (Gd.str (B := en.word.length) (okN_chars h) (Nat.le_refl _)).lay
  simp only [rowT, pathD, PyData.canLayAll0, PyData.canLay0, h1] at h2 ⊢
  simp [h2]
theorem row_eqv (en : En) (ns : List Int) (h : okN en.word) : PyData.eqv (rowT en ns) (rowT en ns) = true := SeqAt.eqv_refl _ (row_lay en ns h)
theorem row_shaped (en : En) (ns : List Int) (h : okN en.word) : SeqAt.shaped (rowT en ns) = true := by
  refine Bool.and_eq_true_iff.mpr ⟨row_lay en ns h, decide_eq_true ?_⟩
  have := path_depth ns
  simp only [rowT, pathD, PyData.depth, PyData.depthAll]
  omega
def En.vs (e : En) : List V := [e.ov, .str e.word, .int e.who, .int e.ticket, .int e.question, .int e.answer]
def sp_asked (K : PySem.W.Frag) (T : Txt K mg) : Sp := fun vs H Q _ => ∃ (b f t : Addr) (e : V) (en : En) (ns : List Int) (ws : List Wd) (M : Ms), vs = [.ref b, .ref f, e, .ref t] ∧ Bag K M H b ∧ Mk M H ∧ FsAt T M H f ws ∧ EnAt T.C_Entry M H e en ∧ ¬ M t ∧ H t = some (.tup en.vs) ∧ Rp M H en.ov (pathD ns) ∧ okN en.word ∧ 0 ≤ en.question ∧ en.question < 4 ∧
  ∀ H', Sx (one b) H H' → Gr H H' → Bag K M H' b → Q (.bl true) H'
theorem ok_asked (T : Txt K mg) : FnOk P w K mg base CX0 5 T.f__law_asked T.d__law_asked ["_law_bag_here", "_law_fences", "_law_entry_here", "_law_row"] (sp_asked K T) := by
  have G__law_pick := ok_pick (P := P) (w := w) (base := base) T
  have G__law_cases := ok_cases (P := P) (w := w) (base := base) T
  have G__law_lets := ok_llets (P := P) (w := w) (base := base) T
  have G__law_other := ok_other (P := P) (w := w) (base := base) T
  have G__law_truth := ok_truth (P := P) (w := w) (base := base) T
  have G__law_fields := ok_fields (P := P) (w := w) (base := base) T
  have U_lets := lets_all (P := P) (w := w) (base := base) T
  refine T.F__law_asked.ok sc__law_asked (fun vs H Q E h => ?_) (fun cdv A outer s H vs Q E hr h => ?_)
  · obtain ⟨_, _, _, _, _, _, _, _, rfl, _⟩ := h
    rfl
  · obtain ⟨b, f, t, e, en, ns, ws, M, rfl, hB, hM, hF, hE, nt, ht, hR, hw0, q0, q4, q⟩ := h
    refine ⟨_, (pss_cons (ps_for PassesOwn.never rfl (pi_listK (K := K) rfl (pe_call0 G__law_cases (hr.mono (by omega)) (by rfl) T.g__law_cases T.F__law_cases.kp T.b__law_cases .nil pass0)) (pg_tupK (K := K) rfl rfl (pgs_cons (pg_name (i := 4) sc__law_asked.nd rfl (Or.inl rfl)) (pgs_cons (pg_name (i := 5) sc__law_asked.nd rfl (Or.inl rfl)) (pgs_cons (pg_name (i := 6) sc__law_asked.nd rfl (Or.inl rfl)) pgs_nil)))) (pss_cons (ps_set (i := 7) sc__law_asked.nd rfl (Or.inl rfl) (pe_ix (ix_tupK (K := K) rfl) (pv 3) pe_int (fun _ _ => rfl)))
      (pss_cons (ps_set (i := 8) sc__law_asked.nd rfl (Or.inl rfl) (pe_ix (ix_tupK (K := K) rfl) (pv 3) pe_int (fun _ _ => rfl)))
      (pss_cons (ps_set (i := 9) sc__law_asked.nd rfl (Or.inl rfl) (pe_ix (ix_tupK (K := K) rfl) (pv 3) pe_int (fun _ _ => rfl)))
      (pss_cons (ps_if (pt_not (pt_val (pv 4))) (pss_one (ps_set (i := 7) sc__law_asked.nd rfl (Or.inl rfl) (pe_call G__law_other (hr.mono (by omega)) (by rfl) T.g__law_other T.F__law_other.kp T.b__law_other .nil pass0 (pa_cons (pv 0) (pa_cons (pv 7) pa_nil))))) pss_nil)
      (pss_cons (ps_if (pt_not (pt_val (pv 5))) (pss_one (ps_set (i := 8) sc__law_asked.nd rfl (Or.inl rfl) (pe_op op_mod (pe_callTy call_int1 (by rfl) T.m_int (by decide +kernel) (pa_cons (pe_op op_add (pe_op op_add (pv 8) pe_int) (pe_call G__law_pick (hr.mono (by omega)) (by rfl) T.g__law_pick T.F__law_pick.kp T.b__law_pick .nil pass0 (pa_cons (pv 0) (pa_cons pe_int pa_nil)))) pa_nil)) pe_int))) pss_nil)
      (pss_cons (ps_if (pt_not (pt_val (pv 6))) (pss_one (ps_set (i := 9) sc__law_asked.nd rfl (Or.inl rfl) (pe_call G__law_other (hr.mono (by omega)) (by rfl) T.g__law_other T.F__law_other.kp T.b__law_other .nil pass0 (pa_cons (pv 0) (pa_cons (pv 9) pa_nil))))) pss_nil)
      (pss_one (ps_for PassesOwn.never rfl (pi_listK (K := K) rfl (pv 1)) (pg_tupK (K := K) rfl rfl (pgs_cons (pg_name (i := 10) sc__law_asked.nd rfl (Or.inl rfl)) (pgs_cons (pg_name (i := 11) sc__law_asked.nd rfl (Or.inl rfl)) pgs_nil))) (pss_cons (ps_set (i := 12) sc__law_asked.nd rfl (Or.inl rfl) (pe_call G__law_lets (hr.mono (by omega)) (by rfl) T.g__law_lets T.F__law_lets.kp T.b__law_lets .nil pass0 (pa_cons (pv 10) (pa_cons (pv 4) (pa_cons (pv 5) (pa_cons (pv 6) pa_nil))))))
      (pss_one (ps_if (pt_not (pt_val (pe_call G__law_truth (hr.mono (by omega)) (by rfl) T.g__law_truth T.F__law_truth.kp T.b__law_truth .nil pass0 (pa_cons (pe_methW (pv 11) U_lets (hr.mono (by omega)) pass0 (pa_cons (pv 2) (pa_cons (pv 7) (pa_cons (pv 8) (pa_cons (pv 9) pa_nil))))) (pa_cons (pv 12) pa_nil))))) (pss_one (ps_ret pe_bl)) pss_nil))))))))))))
      (pss_one (ps_ret (pe_cmpR (op_eqDK (K := K) rfl hr.units) (pe_call G__law_fields (hr.mono (by omega)) (by rfl) T.g__law_fields T.F__law_fields.kp T.b__law_fields .nil pass0 (pa_cons (pv 2) pa_nil)) (pv 3) (nomark _))))), ?_⟩
    walk_at "g"
    refine fun H1 p xs s1 np ep rx => ?_
    refine ⟨p, rfl, ⟨_, SqL.of ep⟩, ?_⟩
    have mp : ¬ M p := hM.out np
    have bp : b ≠ p := fun z => mp (by rw [← z]; exact hB.w)
    refine for_list (xs := xs) (fun k σ H' => (∃ y4 y5 y6 y7 y8 y9 y10 y11 y12, σ = [some (.ref b), some (.ref f), some e, some (.ref t), y4, y5, y6, y7, y8, y9, y10, y11, y12]) ∧ Sx (one b) H1 H' ∧ Gr H1 H' ∧ Bag K M H' b) ⟨⟨_, _, _, _, _, _, _, _, _, rfl⟩, Sx.refl, Gr.refl, hB.same s1⟩ (fun k σ H' _ z => SqL.of (z.2.1 _ _ (fun e => bp e.symm) ep)) (fun k x σ H2 hx z => ?_) (fun σ H2 z => ?_)
    · obtain ⟨⟨y4, y5, y6, y7, y8, y9, y10, y11, y12, rfl⟩, s2, g2, hB2⟩ := z
      obtain ⟨d, hd, rd⟩ := rx.get hx
      rw [List.getElem?_map] at hd
      obtain ⟨⟨c1, c2, c3⟩, hc, rfl⟩ := Option.map_eq_some_iff.mp hd
      obtain ⟨u, ys, rfl, nu, hu, rys⟩ := Rp.tupX (show Rp _ _ _ (.tuple ([c1, c2, c3].map PyData.bool)) from rd)
      have ey := rys.ofBools
      subst ey
      have bu : u ≠ b := fun z => by
        have := hB.same s1
        obtain ⟨_, _, _, _, _, _, _, e, _⟩ := this
        rw [← z, hu] at e
        cases e
      have hu2 : H2 u = some (.tup [.bl c1, .bl c2, .bl c3]) := s2 _ _ (fun z => bu z) hu
      have hB1 := hB.same s1
      have s02 : Sx (one b) H H2 := (Sx.same s1).trans s2
      have sM : Sx M H H2 := s02.le fun a z => by rw [show a = b from z]; exact hB.w
      have ht2 : H2 t = some (.tup en.vs) := sM _ _ nt ht
      have htS : SqT K H2 t en.vs := .inl (.inl ht2)
      refine ⟨u, [.bl c1, .bl c2, .bl c3], rfl, .inl (.inl hu2), rfl, _, _, rfl, _, _, rfl, _, _, rfl, rfl, ?_⟩
      refine ⟨_, rfl, _, _, _, _, rfl, rfl, htS, rfl, ?_⟩
      dsimp only [gName]
      refine ⟨_, rfl, _, _, _, _, rfl, rfl, htS, rfl, ?_⟩
      dsimp only [gName]
      refine ⟨_, rfl, _, _, _, _, rfl, rfl, htS, rfl, ?_⟩
      dsimp only [gName]
      with_reducible refine seq_joinN (fun σ3 H3 => ∃ who : Int, σ3 = [some (.ref b), some (.ref f), some e, some (.ref t), some (.bl c1), some (.bl c2), some (.bl c3), some (.int who), some (.int en.question), some (.int en.ticket), y10, y11, y12] ∧ Sx (one b) H2 H3 ∧ Gr H2 H3 ∧ Bag K M H3 b ∧ eqI en.who who = c1) (fun N hN => ?_) (fun σ3 H3 c => ?_)
      · cases c1 with
        | true =>
          walk_at "g"
          exact hN _ _ ⟨en.who, rfl, Sx.refl, Gr.refl, hB2, decide_eq_true rfl⟩
        | false =>
          walk_at "g"
          refine ⟨b, en.who, M, rfl, hB2, fun H4 m s4 g4 hB4 nm => ?_⟩
          exact hN _ _ ⟨m, rfl, s4, g4, hB4, decide_eq_false fun z => nm (V.int.inj z).symm⟩
      obtain ⟨who, rfl, s3, g3, hB3, ew⟩ := c
      with_reducible refine seq_joinN (fun σ4 H4 => ∃ qn : Int, σ4 = [some (.ref b), some (.ref f), some e, some (.ref t), some (.bl c1), some (.bl c2), some (.bl c3), some (.int who), some (.int qn), some (.int en.ticket), y10, y11, y12] ∧ Sx (one b) H2 H4 ∧ Gr H2 H4 ∧ Bag K M H4 b ∧ eqI en.question qn = c2) (fun N hN => ?_) (fun σ4 H4 c => ?_)
      · cases c2 with
        | true =>
          walk_at "g"
          exact hN _ _ ⟨en.question, rfl, s3, g3, hB3, decide_eq_true rfl⟩
        | false =>
          walk_at "g"
          refine ⟨b, 3, M, rfl, hB3, by omega, by omega, fun w1 H4 h0 h1 hA4 hB4 => ?_⟩
          walk_at "g"
          refine hN _ _ ⟨_, rfl, s3.trans hA4.sx, g3.trans (At.gr hA4 hB4.there), hB4, decide_eq_false fun z => ?_⟩
          have := V.int.inj z
          omega
      obtain ⟨qn, rfl, s4, g4, hB4, eq⟩ := c
      with_reducible refine seq_joinN (fun σ5 H5 => ∃ tk : Int, σ5 = [some (.ref b), some (.ref f), some e, some (.ref t), some (.bl c1), some (.bl c2), some (.bl c3), some (.int who), some (.int qn), some (.int tk), y10, y11, y12] ∧ Sx (one b) H2 H5 ∧ Gr H2 H5 ∧ Bag K M H5 b ∧ eqI en.ticket tk = c3) (fun N hN => ?_) (fun σ5 H5 c => ?_)
      · cases c3 with
        | true =>
          walk_at "g"
          exact hN _ _ ⟨en.ticket, rfl, s4, g4, hB4, decide_eq_true rfl⟩
        | false =>
          walk_at "g"
          refine ⟨b, en.ticket, M, rfl, hB4, fun H5 m s5 g5 hB5 nm => ?_⟩
          exact hN _ _ ⟨m, rfl, s4.trans s5, g4.trans g5, hB5, decide_eq_false fun z => nm (V.int.inj z).symm⟩
      obtain ⟨tk, rfl, s5, g5, hB5, et⟩ := c
      have s05 : Sx (one b) H H5 := s02.trans s5
      have sM5 : Sx M H H5 := s05.le fun a z => by rw [show a = b from z]; exact hB.w
      obtain ⟨fs, nf, hf5, hPs, lws⟩ := hF.sx sM5
      have hE5 := hE.sx sM5
      walk_at "g"
      refine ⟨⟨_, SqL.of hf5⟩, ?_⟩
      refine for_list (xs := fs) (fun k σ H' => (∃ y10 y11 y12, σ = [some (.ref b), some (.ref f), some e, some (.ref t), some (.bl c1), some (.bl c2), some (.bl c3), some (.int who), some (.int qn), some (.int tk), y10, y11, y12]) ∧ H' = H5) ⟨⟨_, _, _, rfl⟩, rfl⟩ (fun k σ H' _ z => by rw [z.2]; exact SqL.of hf5) (fun k x σ H6 hx z => ?_) (fun σ H6 z => ?_)
      · obtain ⟨⟨y10, y11, y12, rfl⟩, eH⟩ := z
        rw [eH]
        obtain ⟨w', hw, r, fv, rfl, nr, hr5, hfv⟩ := hPs.2 k x hx
        obtain ⟨fa, fdx, rfl, nfa, hfa⟩ := hfv
        refine ⟨r, [.str w'.txt, .ref fa], rfl, .inl (.inl hr5), rfl, _, _, rfl, _, _, rfl, rfl, ?_⟩
        walk_at "g"
        refine ⟨w', c1, c2, c3, rfl, ?_⟩
        walk_at "g"
        refine ⟨w', fa, fdx, [], rfl, hfa, rfl, ?_⟩
        walk_at "g"
        refine ⟨.ref fa, e, en, who, qn, tk, M, rfl, hE5, ?_⟩
        rw [ew, eq, et]
        walk_at "g"
        refine ⟨_, _, rfl, ?_⟩
        rw [beq_self_eq_true]
        walk_at "g"
        exact ⟨⟨_, _, _, rfl⟩, rfl⟩
      · obtain ⟨⟨y10, y11, y12, rfl⟩, eH⟩ := z
        rw [eH]
        exact ⟨⟨_, _, _, _, _, _, _, _, _, rfl⟩, s2.trans s5, g2.trans g5, hB5⟩
    · obtain ⟨⟨y4, y5, y6, y7, y8, y9, y10, y11, y12, rfl⟩, s2, g2, hB2⟩ := z
      have s02 : Sx (one b) H H2 := (Sx.same s1).trans s2
      have sM : Sx M H H2 := s02.le fun a z => by rw [show a = b from z]; exact hB.w
      have hE2 := hE.sx sM
      have ht2 : H2 t = some (.tup en.vs) := sM _ _ nt ht
      walk_at "g"
      refine ⟨e, en, M, rfl, hE2, fun p2 hp2 => ?_⟩
      walk_at "g"
      have sp := same_new (o := .tup en.vs) hp2
      have hR2 : Rp M H2 en.ov (pathD ns) := hR.sx sM
      have hM2 : Mk M H2 := hM.gr ((Gr.same s1).trans g2)
      have dA : ∀ a, ¬ M a → upd H2 p2 (.tup en.vs) a = some (.tup en.vs) → Rp M (upd H2 p2 (.tup en.vs)) (.ref a) (rowT en ns) := fun a na ha =>
        .tup na (.inl ha) (.cons (hR2.sx (Sx.same sp)) (.cons (.str _) (.cons (.int _) (.cons (.int _) (.cons (.int _) (.cons (.int _) .nil))))))
      refine ⟨rowT en ns, rowT en ns, Rp.dp _ _ (dA p2 (hM2.out hp2) upd_same), Rp.dp _ _ (dA t nt (sp _ _ ht2)), row_shaped en ns hw0, row_shaped en ns hw0, ?_⟩
      rw [row_eqv en ns hw0]
      exact q _ (s02.trans (Sx.same sp)) (((Gr.same s1).trans g2).trans (Gr.same sp)) (hB2.same sp)
end
end D

namespace D
open PySem PySem.Spec PyProof.Rows L2
local macro_rules | `(tactic| walk_at "st") => `(tactic| first | exact SqT.of (by assumption) | exact Or.inl (by assumption) | exact SqT.of upd_same | fail "st")
local macro_rules | `(tactic| walk_at "ixt") => `(tactic| refine ⟨_, _, _, _, rfl, rfl, (by walk_at "st" : SqT _ _ _ _), by rfl, ?_⟩)
local macro_rules | `(tactic| walk_at "sq") => `(tactic| first | exact SqL.of (by assumption) | assumption | exact Or.inl (by assumption) | exact SqL.of upd_same | fail "sq")
local macro_rules | `(tactic| walk_at "ix") => `(tactic| refine ⟨_, _, _, _, rfl, rfl, (by walk_at "sq" : SqL _ _ _ _), by rfl, ?_⟩)
local macro_rules | `(tactic| walk_at "set") => `(tactic| refine ⟨_, _, _, _, rfl, rfl, by first | assumption | exact upd_same, by rfl, ?_⟩)
local macro_rules | `(tactic| walk_at "len") => `(tactic| refine ⟨_, _, rfl, Or.inl (by walk_at "sq" : SqL _ _ _ _), ?_⟩)
local macro_rules | `(tactic| walk_at "g") => `(tactic| repeat (first | refine ⟨_, rfl, ?_⟩ | refine ⟨_, _, rfl, rfl, ?_⟩ | refine ⟨Or.inr (by decide), ?_⟩ | refine ⟨Or.inl (by decide), ?_⟩ | refine ⟨(by decide : (0 : Int) < _), ?_⟩ | refine ⟨(⟨by decide, by decide⟩ : CDiv _ _), ?_⟩ | refine ⟨(⟨by decide, by decide, by decide⟩ : CPow _ _), ?_⟩ | refine Or.inl ⟨_, rfl, ?_⟩ | refine ⟨rfl, ?_⟩ | walk_at "ix" | walk_at "ixt" | walk_at "len" | fail "g"))
local macro_rules | `(tactic| walk_at "if") => `(tactic| refine ite2 (fun e => ?_) (fun e => ?_))
section
variable {P : Program} {w : World} {K : PySem.W.Frag} {mg : Str → Option Value} {base : Heap}
def sp_classes (T : Txt K mg) : Sp := fun vs H Q _ => ∃ (f : Addr) (ws : List Wd) (M : Ms), vs = [.ref f] ∧ FsAt T M H f ws ∧ ∀ H', Same H H' → Q (.bl true) H'
theorem ok_classes (T : Txt K mg) : FnOk P w K mg base CX0 1 T.f__law_classes T.d__law_classes ["_law_fences"] (sp_classes T) := by
  refine T.F__law_classes.ok sc__law_classes (fun vs H Q E h => ?_) (fun cdv A outer s H vs Q E hr h => ?_)
  · obtain ⟨_, _, _, rfl, _⟩ := h
    rfl
  · obtain ⟨f, ws, M, rfl, hF, q⟩ := h
    refine ⟨_, (pss_cons (ps_for PassesOwn.never rfl (pi_listK (K := K) rfl (pv 0)) (pg_tupK (K := K) rfl rfl (pgs_cons (pg_name (i := 1) sc__law_classes.nd rfl (Or.inl rfl)) (pgs_cons (pg_name (i := 2) sc__law_classes.nd rfl (Or.inl rfl)) pgs_nil))) (pss_cons (ps_if (PW.pt (pw_or (pt_not (pt_val (pe_callB (call_isi1K (K := K) rfl) (by rfl) T.m_isinstance (by decide +kernel) (pa_cons (pv 2) (pa_cons (pe_glob (v := .ref T.C_Fence) rfl T.g_Fence rfl) pa_nil))))) (pw_or1 (pt_cmpR op_ne (pe_callB (call_isi1K (K := K) rfl) (by rfl) T.m_isinstance (by decide +kernel) (pa_cons (pv 2) (pa_cons (pe_glob (v := .ref T.C_Last) rfl T.g_Last rfl) pa_nil))) (pe_cmpR op_eq (pv 1) pe_str (nomark _)) (nomark _))))) (pss_one (ps_ret pe_bl)) pss_nil)
      (pss_cons (ps_if (PW.pt (pw_and (pt_cmpR op_ne (pv 1) pe_str (nomark _)) (pw_and1 (pt_cmpR op_ne (pe_callB (call_isi1K (K := K) rfl) (by rfl) T.m_isinstance (by decide +kernel) (pa_cons (pv 2) (pa_cons (pe_glob (v := .ref T.C_Own) rfl T.g_Own rfl) pa_nil))) (pe_cmpR (op_in_seqK (K := K) rfl) (pv 1) (pe_tup (pa_cons pe_str (pa_cons pe_str pa_nil))) (by rfl)) (nomark _))))) (pss_one (ps_ret pe_bl)) pss_nil)
      (pss_cons (ps_if (PW.pt (pw_and (pt_cmpR op_ne (pv 1) pe_str (nomark _)) (pw_and1 (pt_cmpR op_ne (pe_callB (call_isi1K (K := K) rfl) (by rfl) T.m_isinstance (by decide +kernel) (pa_cons (pv 2) (pa_cons (pe_glob (v := .ref T.C_Same) rfl T.g_Same rfl) pa_nil))) (pe_cmpR (op_in_seqK (K := K) rfl) (pv 1) (pe_tup (pa_cons pe_str (pa_cons pe_str pa_nil))) (by rfl)) (nomark _))))) (pss_one (ps_ret pe_bl)) pss_nil)
      (pss_one (ps_if (PW.pt (pw_and (pt_cmpR op_ne (pv 1) pe_str (nomark _)) (pw_and1 (pt_cmpR op_ne (pe_callB (call_isi1K (K := K) rfl) (by rfl) T.m_isinstance (by decide +kernel) (pa_cons (pv 2) (pa_cons (pe_glob (v := .ref T.C_Both) rfl T.g_Both rfl) pa_nil))) (pe_cmpR op_eq (pv 1) pe_str (nomark _)) (nomark _))))) (pss_one (ps_ret pe_bl)) pss_nil))))))
      (pss_one (ps_ret pe_bl))), ?_⟩
    obtain ⟨fs, nf, hf, hPs, lws⟩ := hF
    walk_at "g"
    refine ⟨⟨_, SqL.of hf⟩, ?_⟩
    refine for_list (xs := fs) (fun k σ H' => (∃ y1 y2, σ = [some (.ref f), y1, y2]) ∧ Same H H') ⟨⟨_, _, rfl⟩, fun _ _ e => e⟩ (fun k σ H' _ z => SqL.of (z.2 _ _ hf)) (fun k x σ H2 hx z => ?_) (fun σ H2 z => ?_)
    · obtain ⟨⟨y1, y2, rfl⟩, s2⟩ := z
      obtain ⟨w', hw, r, fv, rfl, nr, hr5, hfv⟩ := hPs.2 k x hx
      refine ⟨r, [.str w'.txt, fv], rfl, .inl (.inl (s2 _ _ hr5)), rfl, _, _, rfl, _, _, rfl, rfl, ?_⟩
      cases w'
      · walk_at "g"
        refine ⟨_, _, _, _, true, rfl, .own _, (hfv.same s2).ty, T.kit_Fence_Fence, ?_⟩
        walk_at "g"
        refine ⟨_, _, _, _, false, rfl, .own _, (hfv.same s2).ty, T.kit_Fence_Last, ?_⟩
        walk_at "g"
        refine ⟨_, _, _, _, false, rfl, .own _, (hfv.same s2).ty, T.kit_Fence_Own, ?_⟩
        walk_at "g"
        refine ⟨szK rfl, fun p1 hp1 => ?_⟩
        have s2 := s2.trans (same_new (o := .tup [.str (Str.ofString "own"), .str (Str.ofString "both")]) hp1)
        refine ⟨p1, [.str (Str.ofString "own"), .str (Str.ofString "both")], rfl, .inr (.inl (.inl upd_same)), rfl, rfl, ?_⟩
        rw [show inV (.str Wd.any.txt) [.str (Str.ofString "own"), .str (Str.ofString "both")] = false from by decide +kernel]
        walk_at "g"
        refine ⟨_, _, _, _, false, rfl, .own _, (hfv.same s2).ty, T.kit_Fence_Same, ?_⟩
        walk_at "g"
        refine ⟨szK rfl, fun p2 hp2 => ?_⟩
        have s2 := s2.trans (same_new (o := .tup [.str (Str.ofString "same"), .str (Str.ofString "both")]) hp2)
        refine ⟨p2, [.str (Str.ofString "same"), .str (Str.ofString "both")], rfl, .inr (.inl (.inl upd_same)), rfl, rfl, ?_⟩
        rw [show inV (.str Wd.any.txt) [.str (Str.ofString "same"), .str (Str.ofString "both")] = false from by decide +kernel]
        walk_at "g"
        refine ⟨_, _, _, _, false, rfl, .own _, (hfv.same s2).ty, T.kit_Fence_Both, ?_⟩
        walk_at "g"
        exact ⟨⟨_, _, rfl⟩, s2⟩
      · walk_at "g"
        refine ⟨_, _, _, _, true, rfl, .own _, (hfv.same s2).ty, T.kit_Own_Fence, ?_⟩
        walk_at "g"
        refine ⟨_, _, _, _, false, rfl, .own _, (hfv.same s2).ty, T.kit_Own_Last, ?_⟩
        walk_at "g"
        refine ⟨_, _, _, _, true, rfl, .own _, (hfv.same s2).ty, T.kit_Own_Own, ?_⟩
        walk_at "g"
        refine ⟨szK rfl, fun p1 hp1 => ?_⟩
        have s2 := s2.trans (same_new (o := .tup [.str (Str.ofString "own"), .str (Str.ofString "both")]) hp1)
        refine ⟨p1, [.str (Str.ofString "own"), .str (Str.ofString "both")], rfl, .inr (.inl (.inl upd_same)), rfl, rfl, ?_⟩
        rw [show inV (.str Wd.own.txt) [.str (Str.ofString "own"), .str (Str.ofString "both")] = true from by decide +kernel]
        walk_at "g"
        refine ⟨_, _, _, _, false, rfl, .own _, (hfv.same s2).ty, T.kit_Own_Same, ?_⟩
        walk_at "g"
        refine ⟨szK rfl, fun p2 hp2 => ?_⟩
        have s2 := s2.trans (same_new (o := .tup [.str (Str.ofString "same"), .str (Str.ofString "both")]) hp2)
        refine ⟨p2, [.str (Str.ofString "same"), .str (Str.ofString "both")], rfl, .inr (.inl (.inl upd_same)), rfl, rfl, ?_⟩
        rw [show inV (.str Wd.own.txt) [.str (Str.ofString "same"), .str (Str.ofString "both")] = false from by decide +kernel]
        walk_at "g"
        refine ⟨_, _, _, _, false, rfl, .own _, (hfv.same s2).ty, T.kit_Own_Both, ?_⟩
        walk_at "g"
        exact ⟨⟨_, _, rfl⟩, s2⟩
      · walk_at "g"
        refine ⟨_, _, _, _, true, rfl, .own _, (hfv.same s2).ty, T.kit_Same_Fence, ?_⟩
        walk_at "g"
        refine ⟨_, _, _, _, false, rfl, .own _, (hfv.same s2).ty, T.kit_Same_Last, ?_⟩
        walk_at "g"
        refine ⟨_, _, _, _, false, rfl, .own _, (hfv.same s2).ty, T.kit_Same_Own, ?_⟩
        walk_at "g"
        refine ⟨szK rfl, fun p1 hp1 => ?_⟩
        have s2 := s2.trans (same_new (o := .tup [.str (Str.ofString "own"), .str (Str.ofString "both")]) hp1)
        refine ⟨p1, [.str (Str.ofString "own"), .str (Str.ofString "both")], rfl, .inr (.inl (.inl upd_same)), rfl, rfl, ?_⟩
        rw [show inV (.str Wd.same.txt) [.str (Str.ofString "own"), .str (Str.ofString "both")] = false from by decide +kernel]
        walk_at "g"
        refine ⟨_, _, _, _, true, rfl, .own _, (hfv.same s2).ty, T.kit_Same_Same, ?_⟩
        walk_at "g"
        refine ⟨szK rfl, fun p2 hp2 => ?_⟩
        have s2 := s2.trans (same_new (o := .tup [.str (Str.ofString "same"), .str (Str.ofString "both")]) hp2)
        refine ⟨p2, [.str (Str.ofString "same"), .str (Str.ofString "both")], rfl, .inr (.inl (.inl upd_same)), rfl, rfl, ?_⟩
        rw [show inV (.str Wd.same.txt) [.str (Str.ofString "same"), .str (Str.ofString "both")] = true from by decide +kernel]
        walk_at "g"
        refine ⟨_, _, _, _, false, rfl, .own _, (hfv.same s2).ty, T.kit_Same_Both, ?_⟩
        walk_at "g"
        exact ⟨⟨_, _, rfl⟩, s2⟩
      · walk_at "g"
        refine ⟨_, _, _, _, true, rfl, .own _, (hfv.same s2).ty, T.kit_Both_Fence, ?_⟩
        walk_at "g"
        refine ⟨_, _, _, _, false, rfl, .own _, (hfv.same s2).ty, T.kit_Both_Last, ?_⟩
        walk_at "g"
        refine ⟨_, _, _, _, true, rfl, .own _, (hfv.same s2).ty, T.kit_Both_Own, ?_⟩
        walk_at "g"
        refine ⟨szK rfl, fun p1 hp1 => ?_⟩
        have s2 := s2.trans (same_new (o := .tup [.str (Str.ofString "own"), .str (Str.ofString "both")]) hp1)
        refine ⟨p1, [.str (Str.ofString "own"), .str (Str.ofString "both")], rfl, .inr (.inl (.inl upd_same)), rfl, rfl, ?_⟩
        rw [show inV (.str Wd.both.txt) [.str (Str.ofString "own"), .str (Str.ofString "both")] = true from by decide +kernel]
        walk_at "g"
        refine ⟨_, _, _, _, true, rfl, .own _, (hfv.same s2).ty, T.kit_Both_Same, ?_⟩
        walk_at "g"
        refine ⟨szK rfl, fun p2 hp2 => ?_⟩
        have s2 := s2.trans (same_new (o := .tup [.str (Str.ofString "same"), .str (Str.ofString "both")]) hp2)
        refine ⟨p2, [.str (Str.ofString "same"), .str (Str.ofString "both")], rfl, .inr (.inl (.inl upd_same)), rfl, rfl, ?_⟩
        rw [show inV (.str Wd.both.txt) [.str (Str.ofString "same"), .str (Str.ofString "both")] = true from by decide +kernel]
        walk_at "g"
        refine ⟨_, _, _, _, true, rfl, .own _, (hfv.same s2).ty, T.kit_Both_Both, ?_⟩
        walk_at "g"
        exact ⟨⟨_, _, rfl⟩, s2⟩
      · walk_at "g"
        refine ⟨_, _, _, _, true, rfl, .own _, (hfv.same s2).ty, T.kit_Last_Fence, ?_⟩
        walk_at "g"
        refine ⟨_, _, _, _, true, rfl, .own _, (hfv.same s2).ty, T.kit_Last_Last, ?_⟩
        walk_at "g"
        exact ⟨⟨_, _, rfl⟩, s2⟩
    · obtain ⟨⟨y1, y2, rfl⟩, s2⟩ := z
      walk_at "g"
      exact q _ s2
end
end D

namespace D
open PySem PySem.Spec PyProof.Rows L2
local macro_rules | `(tactic| walk_at "st") => `(tactic| first | exact SqT.of (by assumption) | exact Or.inl (by assumption) | exact SqT.of upd_same | fail "st")
local macro_rules | `(tactic| walk_at "ixt") => `(tactic| refine ⟨_, _, _, _, rfl, rfl, (by walk_at "st" : SqT _ _ _ _), by rfl, ?_⟩)
local macro_rules | `(tactic| walk_at "sq") => `(tactic| first | exact SqL.of (by assumption) | assumption | exact Or.inl (by assumption) | exact SqL.of upd_same | fail "sq")
local macro_rules | `(tactic| walk_at "ix") => `(tactic| refine ⟨_, _, _, _, rfl, rfl, (by walk_at "sq" : SqL _ _ _ _), by rfl, ?_⟩)
local macro_rules | `(tactic| walk_at "set") => `(tactic| refine ⟨_, _, _, _, rfl, rfl, by first | assumption | exact upd_same, by rfl, ?_⟩)
local macro_rules | `(tactic| walk_at "len") => `(tactic| refine ⟨_, _, rfl, Or.inl (by walk_at "sq" : SqL _ _ _ _), ?_⟩)
local macro_rules | `(tactic| walk_at "g") => `(tactic| repeat (first | refine ⟨_, rfl, ?_⟩ | refine ⟨_, _, rfl, rfl, ?_⟩ | refine ⟨Or.inr (by decide), ?_⟩ | refine ⟨Or.inl (by decide), ?_⟩ | refine ⟨(by decide : (0 : Int) < _), ?_⟩ | refine ⟨(⟨by decide, by decide⟩ : CDiv _ _), ?_⟩ | refine ⟨(⟨by decide, by decide, by decide⟩ : CPow _ _), ?_⟩ | refine Or.inl ⟨_, rfl, ?_⟩ | refine ⟨rfl, ?_⟩ | walk_at "ix" | walk_at "ixt" | walk_at "len" | fail "g"))
local macro_rules | `(tactic| walk_at "if") => `(tactic| refine ite2 (fun e => ?_) (fun e => ?_))
section
variable {P : Program} {w : World} {K : PySem.W.Frag} {mg : Str → Option Value} {base : Heap}
theorem app_len (a b : Str) : (a ++ b).length = a.length + b.length := by rw [← sg_len, sg_app, List.length_append, sg_len, sg_len]
theorem cut_le (z : Str) (i : Nat) : (cutS z none (some (i : Int))).length ≤ z.length := by
  rw [← sg_len, sg_cut, List.length_take, ← sg_len z]
  omega
theorem from_le (z : Str) (i : Nat) : (cutS z (some (i : Int)) none).length ≤ z.length := by
  rw [← sg_len, sg_from, List.length_drop, ← sg_len z]
  omega
theorem from_le1 (z : Str) (i : Nat) : (cutS z (some ((i : Int) + 1)) none).length ≤ z.length := by
  have := from_le z (i + 1)
  rwa [show (((i + 1 : Nat)) : Int) = (i : Int) + 1 by omega] at this
theorem small100 {z : Str} (h : z.length ≤ 100) : z.length ≤ sizeLine := by rw [sizeLine_eq]; omega
def sp_none (K : PySem.W.Frag) : Sp := fun vs H Q _ => ∃ (b : Addr) (M : Ms), vs = [.ref b] ∧ Bag K M H b ∧ Mk M H ∧ ∀ H' z, Sx (one b) H H' → Gr H H' → Bag K M H' b → z ∉ words → Q (.str z) H'
theorem ok_none (T : Txt K mg) : FnOk P w K mg base CX0 4 T.f__law_none T.d__law_none ["_law_bag_here"] (sp_none K) := by
  have G__law_pick := ok_pick (P := P) (w := w) (base := base) T
  have G__law_words := ok_words (P := P) (w := w) (base := base) T
  have G__law_new_name := ok_newname (P := P) (w := w) (base := base) T
  refine T.F__law_none.ok sc__law_none (fun vs H Q E h => ?_) (fun cdv A outer s H vs Q E hr h => ?_)
  · obtain ⟨_, _, rfl, _⟩ := h
    rfl
  · obtain ⟨b, M, rfl, hB, hM, q⟩ := h
    refine ⟨_, (pss_cons (ps_set (i := 1) sc__law_none.nd rfl (Or.inl rfl) pe_str)
      (pss_cons (ps_set (i := 2) sc__law_none.nd rfl (Or.inl rfl) (pe_ix (ix_listK (K := K) rfl) (pe_call0 G__law_words (hr.mono (by omega)) (by rfl) T.g__law_words T.F__law_words.kp T.b__law_words .nil pass0) (pe_call G__law_pick (hr.mono (by omega)) (by rfl) T.g__law_pick T.F__law_pick.kp T.b__law_pick .nil pass0 (pa_cons (pv 0) (pa_cons pe_int pa_nil))) (fun _ _ => rfl)))
      (pss_cons (ps_set (i := 3) sc__law_none.nd rfl (Or.inl rfl) (pe_call G__law_pick (hr.mono (by omega)) (by rfl) T.g__law_pick T.F__law_pick.kp T.b__law_pick .nil pass0 (pa_cons (pv 0) (pa_cons (pe_callB call_len_str (by rfl) T.m_len PySem.boot_len (pa_cons (pv 2) pa_nil)) pa_nil))))
      (pss_cons (ps_set (i := 4) sc__law_none.nd rfl (Or.inl rfl) (pe_ix ix_str (pv 1) (pe_call G__law_pick (hr.mono (by omega)) (by rfl) T.g__law_pick T.F__law_pick.kp T.b__law_pick .nil pass0 (pa_cons (pv 0) (pa_cons (pe_callB call_len_str (by rfl) T.m_len PySem.boot_len (pa_cons (pv 1) pa_nil)) pa_nil))) (fun _ _ => rfl)))
      (pss_cons (ps_set (i := 5) sc__law_none.nd rfl (Or.inl rfl) (pe_call G__law_pick (hr.mono (by omega)) (by rfl) T.g__law_pick T.F__law_pick.kp T.b__law_pick .nil pass0 (pa_cons (pv 0) (pa_cons pe_int pa_nil))))
      (pss_cons (ps_if (pt_cmpR op_eq (pv 5) pe_int (nomark _)) (pss_one (ps_set (i := 2) sc__law_none.nd rfl (Or.inl rfl) (pe_op op_add_str (pe_op op_add_str (pe_slice sl_str (pv 2) po_none (po_some (pv 3))) (pv 4)) (pe_slice sl_str (pv 2) (po_some (pv 3)) po_none)))) (pss_one (ps_if (pt_cmpR op_eq (pv 5) pe_int (nomark _)) (pss_one (ps_set (i := 2) sc__law_none.nd rfl (Or.inl rfl) (pe_op op_add_str (pe_slice sl_str (pv 2) po_none (po_some (pv 3))) (pe_slice sl_str (pv 2) (po_some (pe_op op_add (pv 3) pe_int)) po_none)))) (pss_one (ps_if (pt_cmpR op_eq (pv 5) pe_int (nomark _)) (pss_one (ps_set (i := 2) sc__law_none.nd rfl (Or.inl rfl) (pe_op op_add_str (pe_op op_add_str (pe_slice sl_str (pv 2) po_none (po_some (pv 3))) (pv 4)) (pe_slice sl_str (pv 2) (po_some (pe_op op_add (pv 3) pe_int)) po_none)))) (pss_one (ps_if (pt_cmpR op_eq (pv 5) pe_int (nomark _)) (pss_one (ps_set (i := 2) sc__law_none.nd rfl (Or.inl rfl) (pe_op op_add_str (pv 2) (pv 4)))) (pss_one (ps_if (pt_cmpR op_eq (pv 5) pe_int (nomark _)) (pss_one (ps_set (i := 2) sc__law_none.nd rfl (Or.inl rfl) pe_str)) (pss_one (ps_set (i := 2) sc__law_none.nd rfl (Or.inl rfl) (pe_call G__law_new_name (hr.mono (by omega)) (by rfl) T.g__law_new_name T.F__law_new_name.kp T.b__law_new_name .nil pass0 (pa_cons (pv 0) (pa_cons (pe_lst pa_nil) pa_nil))))))))))))))
      (pss_cons (ps_if (pt_cmpR (op_in_seqK (K := K) rfl) (pv 2) (pe_call0 G__law_words (hr.mono (by omega)) (by rfl) T.g__law_words T.F__law_words.kp T.b__law_words .nil pass0) (by rfl)) (pss_one (ps_ret (pe_op op_add_str (pv 2) pe_str))) pss_nil)
      (pss_one (ps_ret (pv 2)))))))))), ?_⟩
    generalize eal : Str.ofString "abcdefghijklmnopqrstuvwxyz ABLNOS" = al
    have lal : (sg al).length = 33 := by rw [← eal]; decide +kernel
    have lal' := sg_len al
    clear eal
    walk_at "g"
    refine fun p1 hp1 => ?_
    have s1 : Same H (upd H p1 (.lst (words.map V.str))) := same_new hp1
    have hp1' : upd H p1 (.lst (words.map V.str)) p1 = some (.lst (words.map V.str)) := upd_same
    generalize upd H p1 (.lst (words.map V.str)) = H1 at s1 hp1'
    have hB1 := hB.same s1
    walk_at "g"
    refine ⟨b, 5, M, rfl, hB1, by omega, by omega, fun n2 H2 a0 a1 hA2 hB2 => ?_⟩
    obtain ⟨j, rfl⟩ : ∃ j : Nat, n2 = (j : Int) := ⟨n2.toNat, by omega⟩
    have pb : p1 ≠ b := fun z => hB.there (by rw [← z]; exact hp1)
    have hp2 : H2 p1 = some (.lst (words.map V.str)) := (hA2 p1 pb).trans hp1'
    have hj : j < words.length := by show j < 5; omega
    obtain ⟨z0, hz0⟩ : ∃ z0, words[j]? = some z0 := ⟨_, List.getElem?_eq_getElem hj⟩
    have lz0 : 3 ≤ z0.length ∧ z0.length ≤ 4 := by
      have : ∀ z ∈ words, 3 ≤ z.length ∧ z.length ≤ 4 := by decide +kernel
      exact this z0 (List.mem_of_getElem? hz0)
    have sx2 : Sx (one b) H H2 := (Sx.same s1).trans hA2.sx
    have g2 : Gr H H2 := (Gr.same s1).trans (At.gr hA2 hB2.there)
    refine ⟨_, _, _, _, rfl, rfl, SqL.of hp2, atI_nat (by rw [List.getElem?_map, hz0]; rfl), ?_⟩
    walk_at "g"
    refine ⟨small100 (by omega), ?_⟩
    walk_at "g"
    refine ⟨b, _, M, rfl, hB2, by omega, by omega, fun n3 H3 b0 b1 hA3 hB3 => ?_⟩
    obtain ⟨i, rfl⟩ : ∃ i : Nat, n3 = (i : Int) := ⟨n3.toNat, by omega⟩
    walk_at "g"
    refine ⟨small100 (by omega), ?_⟩
    walk_at "g"
    refine ⟨b, _, M, rfl, hB3, by omega, by omega, fun n4 H4 c0 c1 hA4 hB4 => ?_⟩
    obtain ⟨k, rfl⟩ : ∃ k : Nat, n4 = (k : Int) := ⟨n4.toNat, by omega⟩
    have hk : k < (sg al).length := by omega
    refine ⟨al, _, (sg al)[k], rfl, rfl, small100 (by omega), atI_nat (List.getElem?_eq_getElem hk), ?_⟩
    generalize (sg al)[k] = sc
    have lsc : (⟨#[sc]⟩ : Str).length = 1 := rfl
    generalize (⟨#[sc]⟩ : Str) = sn at lsc
    walk_at "g"
    refine ⟨b, 6, M, rfl, hB4, by omega, by omega, fun n5 H5 d0 d1 hA5 hB5 => ?_⟩
    have sx5 : Sx (one b) H H5 := sx2.trans (hA3.sx.trans (hA4.sx.trans hA5.sx))
    have g5 : Gr H H5 := g2.trans ((At.gr hA3 hB3.there).trans ((At.gr hA4 hB4.there).trans (At.gr hA5 hB5.there)))
    have hM5 : Mk M H5 := hM.gr g5
    have lc1 := cut_le z0 i
    have lc2 := from_le z0 i
    have lc3 := from_le1 z0 i
    dsimp only [gName]
    with_reducible refine seq_joinN (fun σ6 H6 => ∃ (z : Str) (y3 y4 y5 : Option V), σ6 = [some (.ref b), some (.str al), some (.str z), y3, y4, y5] ∧ z.length ≤ 20 ∧ Sx (one b) H H6 ∧ Gr H H6 ∧ Bag K M H6 b) (fun N hN => ?_) (fun σ6 H6 c => ?_)
    · have cs : n5 = 0 ∨ n5 = 1 ∨ n5 = 2 ∨ n5 = 3 ∨ n5 = 4 ∨ n5 = 5 := by omega
      rcases cs with rfl | rfl | rfl | rfl | rfl | rfl
      · walk_at "g"
        refine ⟨small100 (by omega), ?_⟩
        walk_at "g"
        refine ⟨by rw [sizeLine_eq]; omega, ?_⟩
        walk_at "g"
        refine ⟨small100 (by omega), ?_⟩
        refine ⟨_, _, rfl, rfl, by rw [app_len, sizeLine_eq]; omega, ?_⟩
        exact hN _ _ ⟨_, _, _, _, rfl, by rw [app_len, app_len]; omega, sx5, g5, hB5⟩
      · walk_at "g"
        refine ⟨small100 (by omega), ?_⟩
        walk_at "g"
        refine ⟨small100 (by omega), ?_⟩
        refine ⟨_, _, rfl, rfl, by rw [sizeLine_eq]; omega, ?_⟩
        exact hN _ _ ⟨_, _, _, _, rfl, by rw [app_len]; omega, sx5, g5, hB5⟩
      · walk_at "g"
        refine ⟨small100 (by omega), ?_⟩
        walk_at "g"
        refine ⟨by rw [sizeLine_eq]; omega, ?_⟩
        walk_at "g"
        refine ⟨small100 (by omega), ?_⟩
        refine ⟨_, _, rfl, rfl, by rw [app_len, sizeLine_eq]; omega, ?_⟩
        exact hN _ _ ⟨_, _, _, _, rfl, by rw [app_len, app_len]; omega, sx5, g5, hB5⟩
      · walk_at "g"
        refine ⟨by rw [sizeLine_eq]; omega, ?_⟩
        exact hN _ _ ⟨_, _, _, _, rfl, by rw [app_len]; omega, sx5, g5, hB5⟩
      · walk_at "g"
        exact hN _ _ ⟨_, _, _, _, rfl, by decide, sx5, g5, hB5⟩
      · walk_at "g"
        refine ⟨szK rfl, fun u hu => ?_⟩
        have ub : u ≠ b := fun z => hB5.there (by rw [← z]; exact hu)
        walk_at "g"
        refine ⟨b, u, [], also M u, rfl, (hB5.more hu).same (same_new hu), (hM5.gr Gr.upd).also (by rw [upd_same]; simp), .inr rfl, ub, upd_same, by decide, (fun w hw => nomatch hw), fun H7 z s7 g7 hB7 _ okz _ => ?_⟩
        have s57 : Sx (one b) H5 H7 := (((Sx.new hu).le fun c z => .inr z : Sx (also (one b) u) _ _).trans s7).cut hu
        walk_at "g"
        exact hN _ _ ⟨z, _, _, _, rfl, by have := okz.2.1; rw [sg_len] at this; omega, sx5.trans s57, g5.trans (Gr.upd.trans g7), hB7.less hB.w also_le⟩
    obtain ⟨z, y3, y4, y5, rfl, lz, sx6, g6, hB6⟩ := c
    walk_at "g"
    refine fun p7 hp7 => ?_
    have s67 := same_new (o := .lst (words.map V.str)) hp7
    have e7 : upd H6 p7 (.lst (words.map V.str)) p7 = some (.lst (words.map V.str)) := upd_same
    generalize upd H6 p7 (.lst (words.map V.str)) = H7 at s67 e7
    have sx7 := sx6.trans (Sx.same s67)
    have g7 := g6.trans (Gr.same s67)
    have hB7 := hB6.same s67
    refine ⟨p7, _, rfl, .inl (SqL.of e7), rfl, flat_strs _, ?_⟩
    by_cases cz : z ∈ words
    · rw [show inV (.str z) (List.map V.str words) = true from (in_strs _ _).trans (decide_eq_true cz)]
      walk_at "g"
      refine ⟨by have e1 : (Str.ofString "a").length = 1 := rfl; rw [e1, sizeLine_eq]; omega, ?_⟩
      refine q _ _ sx7 g7 hB7 ?_
      have : ∀ z ∈ words, z ++ Str.ofString "a" ∉ words := by decide +kernel
      exact this z cz
    · rw [show inV (.str z) (List.map V.str words) = false from (in_strs _ _).trans (decide_eq_false cz)]
      walk_at "g"
      exact q _ _ sx7 g7 hB7 cz
end
end D

namespace D
open PySem PySem.Spec PyProof.Rows L2
local macro_rules | `(tactic| walk_at "st") => `(tactic| first | exact SqT.of (by assumption) | exact Or.inl (by assumption) | exact SqT.of upd_same | fail "st")
local macro_rules | `(tactic| walk_at "ixt") => `(tactic| refine ⟨_, _, _, _, rfl, rfl, (by walk_at "st" : SqT _ _ _ _), by rfl, ?_⟩)
local macro_rules | `(tactic| walk_at "sq") => `(tactic| first | exact SqL.of (by assumption) | assumption | exact Or.inl (by assumption) | exact SqL.of upd_same | fail "sq")
local macro_rules | `(tactic| walk_at "ix") => `(tactic| refine ⟨_, _, _, _, rfl, rfl, (by walk_at "sq" : SqL _ _ _ _), by rfl, ?_⟩)
local macro_rules | `(tactic| walk_at "set") => `(tactic| refine ⟨_, _, _, _, rfl, rfl, by first | assumption | exact upd_same, by rfl, ?_⟩)
local macro_rules | `(tactic| walk_at "len") => `(tactic| refine ⟨_, _, rfl, Or.inl (by walk_at "sq" : SqL _ _ _ _), ?_⟩)
local macro_rules | `(tactic| walk_at "g") => `(tactic| repeat (first | refine ⟨_, rfl, ?_⟩ | refine ⟨_, _, rfl, rfl, ?_⟩ | refine ⟨Or.inr (by decide), ?_⟩ | refine ⟨Or.inl (by decide), ?_⟩ | refine ⟨(by decide : (0 : Int) < _), ?_⟩ | refine ⟨(⟨by decide, by decide⟩ : CDiv _ _), ?_⟩ | refine ⟨(⟨by decide, by decide, by decide⟩ : CPow _ _), ?_⟩ | refine Or.inl ⟨_, rfl, ?_⟩ | refine ⟨rfl, ?_⟩ | walk_at "ix" | walk_at "ixt" | walk_at "len" | fail "g"))
local macro_rules | `(tactic| walk_at "if") => `(tactic| refine ite2 (fun e => ?_) (fun e => ?_))
section
variable {P : Program} {w : World} {K : PySem.W.Frag} {mg : Str → Option Value} {base : Heap}
def sp_law (K : PySem.W.Frag) : Sp := fun vs H Q _ => ∃ (a : Addr) (ns : List Int), vs = [.ref a] ∧ SqL K H a (ns.map V.int) ∧ ns.length ≤ 63 ∧ ∀ H', Q (.bl true) H'
theorem mem_words {z : Str} (h : z ∈ words) : ∃ i : Wd, z = i.txt := by
  obtain ⟨i, _, e⟩ := List.mem_map.mp h
  exact ⟨i, e.symm⟩
theorem PrsAt.push {T : Txt K mg} {M : Ms} {H : Hp} {xs : List V} {ws : List Wd} {v : V} {w : Wd} (h : PrsAt T M H xs ws) (g : PrAt T M H v w) : PrsAt T M H (xs ++ [v]) (ws ++ [w]) := by
  refine ⟨by rw [List.length_append, List.length_append, h.1]; rfl, fun i x e => ?_⟩
  by_cases c : i < xs.length
  · rw [List.getElem?_append_left c] at e
    obtain ⟨w', a, b⟩ := h.2 i x e
    exact ⟨w', by rw [List.getElem?_append_left (by rw [← h.1]; exact c)]; exact a, b⟩
  · rw [List.getElem?_append_right (by omega)] at e
    have e0 : i - xs.length = 0 := by
      cases z : i - xs.length with
      | zero => rfl
      | succ n => rw [z] at e; simp at e
    rw [e0] at e
    cases e
    exact ⟨w, by rw [List.getElem?_append_right (by rw [← h.1]; omega), ← h.1, e0]; rfl, g⟩
theorem PrsAt.less {T : Txt K mg} {M N : Ms} {H : Hp} {xs : List V} {ws : List Wd} (h : PrsAt T M H xs ws) (f : ∀ a, N a → M a) : PrsAt T N H xs ws :=
  ⟨h.1, fun i v e => let ⟨w, a, t, fv, b, n, ht, x, d, g, nx, hx⟩ := h.2 i v e; ⟨w, a, t, fv, b, fun z => n (f _ z), ht, x, d, g, fun z => nx (f _ z), hx⟩⟩
theorem ok_law (T : Txt K mg) (Z : TFam T) : FnOk P w K mg base CX0 20 T.f_law T.d_law ["_law_script"] (sp_law K) := by
  have G__law_bag := ok_bag (P := P) (w := w) (base := base) T
  have G__law_pick := ok_pick (P := P) (w := w) (base := base) T
  have G__law_words := ok_words (P := P) (w := w) (base := base) T
  have G__law_mingled := ok_mingV (P := P) (w := w) (base := base) T
  have G_fence_of := ok_fence (P := P) (w := w) (base := base) T Z
  have G__law_classes := ok_classes (P := P) (w := w) (base := base) T
  have G__law_new_name := ok_newname (P := P) (w := w) (base := base) T
  have G__law_any_number := ok_anyn (P := P) (w := w) (base := base) T
  have G__law_entry := ok_entry (P := P) (w := w) (base := base) T
  have G_Entry___init__ := ok_einit (P := P) (w := w) (base := base) T
  have G__law_fields := ok_fields (P := P) (w := w) (base := base) T
  have G__law_asked := ok_asked (P := P) (w := w) (base := base) T
  have G__law_none := ok_none (P := P) (w := w) (base := base) T
  have G__law_refused := ok_refused (P := P) (w := w) (base := base) T Z
  have G__law_truth := ok_truth (P := P) (w := w) (base := base) T
  have G__law_at_most := ok_atmost (P := P) (w := w) (base := base) T
  have U_le := le_all (P := P) (w := w) (base := base) T Z
  refine T.F_law.ok sc_law (fun vs H Q E h => ?_) (fun cdv A outer s H vs Q E hr h => ?_)
  · obtain ⟨_, _, rfl, _⟩ := h
    rfl
  · obtain ⟨a, ns, rfl, hS, hl, q⟩ := h
    refine ⟨_, (pss_cons (ps_set (i := 1) sc_law.nd rfl (Or.inr rfl) (pe_call G__law_bag (hr.mono (by omega)) (by rfl) T.g__law_bag T.F__law_bag.kp T.b__law_bag .nil pass0 (pa_cons (pv 0) pa_nil)))
      (pss_cons (ps_set (i := 2) sc_law.nd rfl (Or.inl rfl) (pe_lst (pa_cons (pe_tup (pa_cons pe_str (pa_cons (pe_make00 T.m0_Fence (by rfl) T.g_Fence) pa_nil))) (pa_cons (pe_tup (pa_cons pe_str (pa_cons (pe_make00 T.m0_Own (by rfl) T.g_Own) pa_nil))) (pa_cons (pe_tup (pa_cons pe_str (pa_cons (pe_make00 T.m0_Same (by rfl) T.g_Same) pa_nil))) (pa_cons (pe_tup (pa_cons pe_str (pa_cons (pe_make00 T.m0_Both (by rfl) T.g_Both) pa_nil))) (pa_cons (pe_tup (pa_cons pe_str (pa_cons (pe_make00 T.m0_Last (by rfl) T.g_Last) pa_nil))) pa_nil)))))))
      (pss_cons (ps_for PassesOwn.never rfl (pi_listK (K := K) rfl (pe_call G__law_mingled (hr.mono (by omega)) (by rfl) T.g__law_mingled T.F__law_mingled.kp T.b__law_mingled .nil pass0 (pa_cons (pv 1) (pa_cons (pe_call0 G__law_words (hr.mono (by omega)) (by rfl) T.g__law_words T.F__law_words.kp T.b__law_words .nil pass0) pa_nil)))) (pg_name (i := 3) sc_law.nd rfl (Or.inl rfl)) (pss_one (ps_expr (pe_bmK2 (K := K) rfl PySem.F.plainAttrs_list PySem.F.slot_list_append PySem.F.type_list_append mt_append (pv 2) (pa_cons (pe_tup (pa_cons (pv 3) (pa_cons (pe_call G_fence_of (hr.mono (by omega)) (by rfl) T.g_fence_of T.F_fence_of.kp T.b_fence_of .nil pass0 (pa_cons (pv 3) pa_nil)) pa_nil))) pa_nil)))))
      (pss_cons (ps_if (pt_not (pt_val (pe_call G__law_classes (hr.mono (by omega)) (by rfl) T.g__law_classes T.F__law_classes.kp T.b__law_classes .nil pass0 (pa_cons (pv 2) pa_nil)))) (pss_one (ps_ret pe_bl)) pss_nil)
      (pss_cons (ps_for PassesOwn.never rfl (pi_range1 (by rfl) T.m_range (pa_cons (pe_op op_add pe_int (pe_call G__law_pick (hr.mono (by omega)) (by rfl) T.g__law_pick T.F__law_pick.kp T.b__law_pick .nil pass0 (pa_cons (pv 1) (pa_cons pe_int pa_nil)))) pa_nil)) (pg_name (i := 4) sc_law.nd rfl (Or.inl rfl)) (pss_cons (ps_set (i := 3) sc_law.nd rfl (Or.inl rfl) (pe_call G__law_new_name (hr.mono (by omega)) (by rfl) T.g__law_new_name T.F__law_new_name.kp T.b__law_new_name .nil pass0 (pa_cons (pv 1) (pa_cons (pe_lst pa_nil) pa_nil))))
      (pss_cons (ps_set (i := 5) sc_law.nd rfl (Or.inl rfl) (pe_callTy (call_tupleK (K := K) rfl) (by rfl) T.m_tuple (by decide +kernel) (pa_cons (pe_lc (own := [("_law_step", 12)]) (g := gName 12) (tt := tYes) (by rfl) sc_law.nd (pi_range1 (by rfl) T.m_range (pa_cons (pe_call G__law_pick (hr.mono (by omega)) (by rfl) T.g__law_pick T.F__law_pick.kp T.b__law_pick .nil pass0 (pa_cons (pv 1) (pa_cons pe_int pa_nil))) pa_nil)) (blkOk_by (own := [("_law_step", 12)]) (N := ["_law_script", "_law_bag_here", "_law_made", "_law_word", "_law_turn", "_law_path", "_law_row", "_law_entry_here", "_law_first", "_law_one", "_law_second", "_law_two", "_law_step"]) (sc := defScope s_law) (by decide +kernel)) (fun _ _ _ _ _ => (pg_name (i := 12) sc_law.nd rfl (Or.inl rfl))) (fun _ _ _ _ _ => pts_nil) (fun _ _ _ _ _ => (pe_tup (pa_cons (pe_op op_add pe_int (pe_call G__law_pick (hr.mono (by omega)) (by rfl) T.g__law_pick T.F__law_pick.kp T.b__law_pick .nil pass0 (pa_cons (pv 1) (pa_cons pe_int pa_nil)))) pa_nil)))) pa_nil)))
      (pss_cons (ps_set (i := 6) sc_law.nd rfl (Or.inl rfl) (pe_tup (pa_cons (pv 5) (pa_cons (pv 3) (pa_cons (pe_call G__law_any_number (hr.mono (by omega)) (by rfl) T.g__law_any_number T.F__law_any_number.kp T.b__law_any_number .nil pass0 (pa_cons (pv 1) pa_nil)) (pa_cons (pe_call G__law_pick (hr.mono (by omega)) (by rfl) T.g__law_pick T.F__law_pick.kp T.b__law_pick .nil pass0 (pa_cons (pv 1) (pa_cons pe_int pa_nil))) (pa_cons (pe_call G__law_pick (hr.mono (by omega)) (by rfl) T.g__law_pick T.F__law_pick.kp T.b__law_pick .nil pass0 (pa_cons (pv 1) (pa_cons pe_int pa_nil))) (pa_cons (pe_op op_add pe_int (pe_call G__law_pick (hr.mono (by omega)) (by rfl) T.g__law_pick T.F__law_pick.kp T.b__law_pick .nil pass0 (pa_cons (pv 1) (pa_cons pe_int pa_nil)))) pa_nil))))))))
      (pss_cons (ps_set (i := 7) sc_law.nd rfl (Or.inl rfl) (pe_call G__law_entry (hr.mono (by omega)) (by rfl) T.g__law_entry T.F__law_entry.kp T.b__law_entry .nil pass0 (pa_cons (pv 1) (pa_cons (pv 6) pa_nil))))
      (pss_cons (ps_if (pt_cmpR op_eq (pe_call G__law_pick (hr.mono (by omega)) (by rfl) T.g__law_pick T.F__law_pick.kp T.b__law_pick .nil pass0 (pa_cons (pv 1) (pa_cons pe_int pa_nil))) pe_int (nomark _)) (pss_cons (ps_set (i := 6) sc_law.nd rfl (Or.inl rfl) (pe_tup (pa_cons (pv 5) (pa_cons (pv 3) (pa_cons (pe_ix (ix_tupK (K := K) rfl) (pv 6) pe_int (fun _ _ => rfl)) (pa_cons (pe_call G__law_any_number (hr.mono (by omega)) (by rfl) T.g__law_any_number T.F__law_any_number.kp T.b__law_any_number .nil pass0 (pa_cons (pv 1) pa_nil)) (pa_cons (pe_ix (ix_tupK (K := K) rfl) (pv 6) pe_int (fun _ _ => rfl)) (pa_cons (pe_ix (ix_tupK (K := K) rfl) (pv 6) pe_int (fun _ _ => rfl)) pa_nil))))))))
      (pss_one (ps_set (i := 7) sc_law.nd rfl (Or.inl rfl) (pe_make ⟨T.mk_Entry, T.a_Entry___init__, T.i_Entry___init__, T.kc_Entry⟩ G_Entry___init__ (hr.mono (by omega)) (by rfl) T.g_Entry T.b_Entry___init__ .nil pass0 (pa_cons (pe_ix (ix_tupK (K := K) rfl) (pv 6) pe_int (fun _ _ => rfl)) (pa_cons (pe_ix (ix_tupK (K := K) rfl) (pv 6) pe_int (fun _ _ => rfl)) (pa_cons (pe_ix (ix_tupK (K := K) rfl) (pv 6) pe_int (fun _ _ => rfl)) (pa_cons (pe_ix (ix_tupK (K := K) rfl) (pv 6) pe_int (fun _ _ => rfl)) (pa_cons (pe_ix (ix_tupK (K := K) rfl) (pv 6) pe_int (fun _ _ => rfl)) (pa_cons (pe_ix (ix_tupK (K := K) rfl) (pv 6) pe_int (fun _ _ => rfl)) pa_nil)))))))))) pss_nil)
      (pss_one (ps_if (PW.pt (pw_or (pt_cmpR (op_neDK (K := K) rfl hr.units) (pe_call G__law_fields (hr.mono (by omega)) (by rfl) T.g__law_fields T.F__law_fields.kp T.b__law_fields .nil pass0 (pa_cons (pv 7) pa_nil)) (pv 6) (nomark _)) (pw_or (pt_not (pt_val (pe_call G__law_asked (hr.mono (by omega)) (by rfl) T.g__law_asked T.F__law_asked.kp T.b__law_asked .nil pass0 (pa_cons (pv 1) (pa_cons (pv 2) (pa_cons (pv 7) (pa_cons (pv 6) pa_nil))))))) (pw_or1 (pt_not (pt_val (pe_call G__law_refused (hr.mono (by omega)) (by rfl) T.g__law_refused T.F__law_refused.kp T.b__law_refused .nil pass0 (pa_cons (pe_call G__law_none (hr.mono (by omega)) (by rfl) T.g__law_none T.F__law_none.kp T.b__law_none .nil pass0 (pa_cons (pv 1) pa_nil)) pa_nil)))))))) (pss_one (ps_ret pe_bl)) pss_nil))))))))
      (pss_cons (ps_for PassesOwn.never rfl (pi_listK (K := K) rfl (pv 2)) (pg_tupK (K := K) rfl rfl (pgs_cons (pg_name (i := 8) sc_law.nd rfl (Or.inl rfl)) (pgs_cons (pg_name (i := 9) sc_law.nd rfl (Or.inl rfl)) pgs_nil))) (pss_one (ps_for PassesOwn.never rfl (pi_listK (K := K) rfl (pv 2)) (pg_tupK (K := K) rfl rfl (pgs_cons (pg_name (i := 10) sc_law.nd rfl (Or.inl rfl)) (pgs_cons (pg_name (i := 11) sc_law.nd rfl (Or.inl rfl)) pgs_nil))) (pss_one (ps_if (pt_not (pt_val (pe_call G__law_truth (hr.mono (by omega)) (by rfl) T.g__law_truth T.F__law_truth.kp T.b__law_truth .nil pass0 (pa_cons (pe_cmpR (op_leW U_le (hr.mono (by omega)) pass0) (pv 9) (pv 11) (nomark _)) (pa_cons (pe_call G__law_at_most (hr.mono (by omega)) (by rfl) T.g__law_at_most T.F__law_at_most.kp T.b__law_at_most .nil pass0 (pa_cons (pv 8) (pa_cons (pv 10) pa_nil))) pa_nil))))) (pss_one (ps_ret pe_bl)) pss_nil)))))
      (pss_one (ps_ret (pe_and (pe_call G__law_refused (hr.mono (by omega)) (by rfl) T.g__law_refused T.F__law_refused.kp T.b__law_refused .nil pass0 (pa_cons pe_str pa_nil)) (pe_one (pe_call G__law_refused (hr.mono (by omega)) (by rfl) T.g__law_refused T.F__law_refused.kp T.b__law_refused .nil pass0 (pa_cons pe_str pa_nil)))))))))))), ?_⟩
    walk_at "g"
    refine ⟨a, ns, rfl, hS, hl, fun b H1 s1 nb hB1 => ?_⟩
    have hM1 : Mk (one b) H1 := fun c z => by rw [show c = b from z]; exact hB1.there
    walk_at "g"
    intro x1 d1 hx hd ne
    have hx2 : upd H1 d1 (.own x1) x1 = none := by rw [upd_ne (fun z => ne z.symm)]; exact hx
    have sA : Same H1 (upd (upd H1 d1 (.own x1)) x1 (.ins T.C_Fence d1 [])) := (same_new hd).trans (same_new hx2)
    have eA : upd (upd H1 d1 (.own x1)) x1 (.ins T.C_Fence d1 []) x1 = some (.ins (Wd.any.cls T) d1 []) := upd_same
    have nx1 : ¬ one b x1 := hM1.out hx
    generalize upd (upd H1 d1 (.own x1)) x1 (.ins T.C_Fence d1 []) = A1 at sA eA
    clear hx hd ne hx2
    walk_at "g"
    refine ⟨szK rfl, fun t1 ht => ?_⟩
    have sB : Same A1 (upd A1 t1 (.tup [.str (Str.ofString "any"), .ref x1])) := same_new ht
    have eB : upd A1 t1 (.tup [.str (Str.ofString "any"), .ref x1]) t1 = some (.tup [.str Wd.any.txt, .ref x1]) := upd_same
    have nt1 : ¬ one b t1 := (hM1.gr (Gr.same sA)).out ht
    generalize upd A1 t1 (.tup [.str (Str.ofString "any"), .ref x1]) = H2 at sB eB
    have s2 : Same H1 H2 := sA.trans sB
    have P1 : PrAt T (one b) H2 (.ref t1) .any := ⟨t1, .ref x1, rfl, nt1, eB, x1, d1, rfl, nx1, sB _ _ eA⟩
    have hM2 : Mk (one b) H2 := hM1.gr (Gr.same s2)
    clear sA eA sB eB ht
    walk_at "g"
    intro x2 d2 hx hd ne
    have hx2 : upd H2 d2 (.own x2) x2 = none := by rw [upd_ne (fun z => ne z.symm)]; exact hx
    have sA : Same H2 (upd (upd H2 d2 (.own x2)) x2 (.ins T.C_Own d2 [])) := (same_new hd).trans (same_new hx2)
    have eA : upd (upd H2 d2 (.own x2)) x2 (.ins T.C_Own d2 []) x2 = some (.ins (Wd.own.cls T) d2 []) := upd_same
    have nx2 : ¬ one b x2 := hM2.out hx
    generalize upd (upd H2 d2 (.own x2)) x2 (.ins T.C_Own d2 []) = A2 at sA eA
    clear hx hd ne hx2
    walk_at "g"
    refine ⟨szK rfl, fun t2 ht => ?_⟩
    have sB : Same A2 (upd A2 t2 (.tup [.str (Str.ofString "own"), .ref x2])) := same_new ht
    have eB : upd A2 t2 (.tup [.str (Str.ofString "own"), .ref x2]) t2 = some (.tup [.str Wd.own.txt, .ref x2]) := upd_same
    have nt2 : ¬ one b t2 := (hM2.gr (Gr.same sA)).out ht
    generalize upd A2 t2 (.tup [.str (Str.ofString "own"), .ref x2]) = H3 at sB eB
    have s3 : Same H2 H3 := sA.trans sB
    have P2 : PrAt T (one b) H3 (.ref t2) .own := ⟨t2, .ref x2, rfl, nt2, eB, x2, d2, rfl, nx2, sB _ _ eA⟩
    have hM3 : Mk (one b) H3 := hM2.gr (Gr.same s3)
    clear sA eA sB eB ht
    walk_at "g"
    intro x3 d3 hx hd ne
    have hx2 : upd H3 d3 (.own x3) x3 = none := by rw [upd_ne (fun z => ne z.symm)]; exact hx
    have sA : Same H3 (upd (upd H3 d3 (.own x3)) x3 (.ins T.C_Same d3 [])) := (same_new hd).trans (same_new hx2)
    have eA : upd (upd H3 d3 (.own x3)) x3 (.ins T.C_Same d3 []) x3 = some (.ins (Wd.same.cls T) d3 []) := upd_same
    have nx3 : ¬ one b x3 := hM3.out hx
    generalize upd (upd H3 d3 (.own x3)) x3 (.ins T.C_Same d3 []) = A3 at sA eA
    clear hx hd ne hx2
    walk_at "g"
    refine ⟨szK rfl, fun t3 ht => ?_⟩
    have sB : Same A3 (upd A3 t3 (.tup [.str (Str.ofString "same"), .ref x3])) := same_new ht
    have eB : upd A3 t3 (.tup [.str (Str.ofString "same"), .ref x3]) t3 = some (.tup [.str Wd.same.txt, .ref x3]) := upd_same
    have nt3 : ¬ one b t3 := (hM3.gr (Gr.same sA)).out ht
    generalize upd A3 t3 (.tup [.str (Str.ofString "same"), .ref x3]) = H4 at sB eB
    have s4 : Same H3 H4 := sA.trans sB
    have P3 : PrAt T (one b) H4 (.ref t3) .same := ⟨t3, .ref x3, rfl, nt3, eB, x3, d3, rfl, nx3, sB _ _ eA⟩
    have hM4 : Mk (one b) H4 := hM3.gr (Gr.same s4)
    clear sA eA sB eB ht
    walk_at "g"
    intro x4 d4 hx hd ne
    have hx2 : upd H4 d4 (.own x4) x4 = none := by rw [upd_ne (fun z => ne z.symm)]; exact hx
    have sA : Same H4 (upd (upd H4 d4 (.own x4)) x4 (.ins T.C_Both d4 [])) := (same_new hd).trans (same_new hx2)
    have eA : upd (upd H4 d4 (.own x4)) x4 (.ins T.C_Both d4 []) x4 = some (.ins (Wd.both.cls T) d4 []) := upd_same
    have nx4 : ¬ one b x4 := hM4.out hx
    generalize upd (upd H4 d4 (.own x4)) x4 (.ins T.C_Both d4 []) = A4 at sA eA
    clear hx hd ne hx2
    walk_at "g"
    refine ⟨szK rfl, fun t4 ht => ?_⟩
    have sB : Same A4 (upd A4 t4 (.tup [.str (Str.ofString "both"), .ref x4])) := same_new ht
    have eB : upd A4 t4 (.tup [.str (Str.ofString "both"), .ref x4]) t4 = some (.tup [.str Wd.both.txt, .ref x4]) := upd_same
    have nt4 : ¬ one b t4 := (hM4.gr (Gr.same sA)).out ht
    generalize upd A4 t4 (.tup [.str (Str.ofString "both"), .ref x4]) = H5 at sB eB
    have s5 : Same H4 H5 := sA.trans sB
    have P4 : PrAt T (one b) H5 (.ref t4) .both := ⟨t4, .ref x4, rfl, nt4, eB, x4, d4, rfl, nx4, sB _ _ eA⟩
    have hM5 : Mk (one b) H5 := hM4.gr (Gr.same s5)
    clear sA eA sB eB ht
    walk_at "g"
    intro x5 d5 hx hd ne
    have hx2 : upd H5 d5 (.own x5) x5 = none := by rw [upd_ne (fun z => ne z.symm)]; exact hx
    have sA : Same H5 (upd (upd H5 d5 (.own x5)) x5 (.ins T.C_Last d5 [])) := (same_new hd).trans (same_new hx2)
    have eA : upd (upd H5 d5 (.own x5)) x5 (.ins T.C_Last d5 []) x5 = some (.ins (Wd.last.cls T) d5 []) := upd_same
    have nx5 : ¬ one b x5 := hM5.out hx
    generalize upd (upd H5 d5 (.own x5)) x5 (.ins T.C_Last d5 []) = A5 at sA eA
    clear hx hd ne hx2
    walk_at "g"
    refine ⟨szK rfl, fun t5 ht => ?_⟩
    have sB : Same A5 (upd A5 t5 (.tup [.str (Str.ofString "last"), .ref x5])) := same_new ht
    have eB : upd A5 t5 (.tup [.str (Str.ofString "last"), .ref x5]) t5 = some (.tup [.str Wd.last.txt, .ref x5]) := upd_same
    have nt5 : ¬ one b t5 := (hM5.gr (Gr.same sA)).out ht
    generalize upd A5 t5 (.tup [.str (Str.ofString "last"), .ref x5]) = H6 at sB eB
    have s6 : Same H5 H6 := sA.trans sB
    have P5 : PrAt T (one b) H6 (.ref t5) .last := ⟨t5, .ref x5, rfl, nt5, eB, x5, d5, rfl, nx5, sB _ _ eA⟩
    have hM6 : Mk (one b) H6 := hM5.gr (Gr.same s6)
    clear sA eA sB eB ht
    walk_at "g"
    refine ⟨szK rfl, fun mo hmo => ?_⟩
    have sC : Same H6 (upd H6 mo (.lst [.ref t1, .ref t2, .ref t3, .ref t4, .ref t5])) := same_new hmo
    have eC : upd H6 mo (.lst [.ref t1, .ref t2, .ref t3, .ref t4, .ref t5]) mo = some (.lst [.ref t1, .ref t2, .ref t3, .ref t4, .ref t5]) := upd_same
    generalize upd H6 mo (.lst [.ref t1, .ref t2, .ref t3, .ref t4, .ref t5]) = H7 at sC eC
    have s17 : Same H1 H7 := s2.trans (s3.trans (s4.trans (s5.trans (s6.trans sC))))
    have hB7 : Bag K (one b) H7 b := hB1.same s17
    have bm : b ≠ mo := fun z => (hB1.same (s2.trans (s3.trans (s4.trans (s5.trans s6))))).there (by rw [z]; exact hmo)
    have up : ∀ {v w}, PrAt T (one b) H6 v w → PrAt T (also (one b) mo) H7 v w := fun {v w} h => by
      obtain ⟨t, fv, rfl, n, ht, x, d, rfl, nx, hx⟩ := h
      refine ⟨t, _, rfl, fun z => z.elim n fun z => ?_, sC _ _ ht, x, d, rfl, fun z => z.elim nx fun z => ?_, sC _ _ hx⟩
      · rw [show t = mo from z, hmo] at ht; cases ht
      · rw [show x = mo from z, hmo] at hx; cases hx
    have hP7 : PrsAt T (also (one b) mo) H7 [.ref t1, .ref t2, .ref t3, .ref t4, .ref t5] allW := ⟨rfl, fun i v e => by
      match i, e with
      | 0, e => cases e; exact ⟨_, rfl, up (P1.sx (Sx.same (s3.trans (s4.trans (s5.trans s6)))))⟩
      | 1, e => cases e; exact ⟨_, rfl, up (P2.sx (Sx.same (s4.trans (s5.trans s6))))⟩
      | 2, e => cases e; exact ⟨_, rfl, up (P3.sx (Sx.same (s5.trans s6)))⟩
      | 3, e => cases e; exact ⟨_, rfl, up (P4.sx (Sx.same s6))⟩
      | 4, e => cases e; exact ⟨_, rfl, up P5⟩
      | n + 5, e => simp at e⟩
    have hM7 : Mk (also (one b) mo) H7 := (hM6.gr (Gr.same sC)).also (by rw [eC]; simp)
    have hB7m : Bag K (also (one b) mo) H7 b := ((hB1.same (s2.trans (s3.trans (s4.trans (s5.trans s6))))).more hmo).same sC
    clear up sC hmo P1 P2 P3 P4 P5 s2 s3 s4 s5 s6 hM2 hM3 hM4 hM5 hM6 nt1 nt2 nt3 nt4 nt5 nx1 nx2 nx3 nx4 nx5
    generalize ([.ref t1, .ref t2, .ref t3, .ref t4, .ref t5] : List V) = xs7 at eC hP7
    walk_at "g"
    refine fun p8 hp8 => ?_
    have s78 := same_new (o := .lst (words.map V.str)) hp8
    have e8 : upd H7 p8 (.lst (words.map V.str)) p8 = some (.lst (words.map V.str)) := upd_same
    generalize upd H7 p8 (.lst (words.map V.str)) = H8 at s78 e8
    have hB8 := hB7m.same s78
    refine ⟨b, p8, words.map V.str, also (one b) mo, rfl, hB8, hM7.gr (Gr.same s78), SqL.of e8, by decide, fun H9 p9 ys sx9 g9 hB9 np9 e9 pm => ?_⟩
    have lys : ys.length = 5 := by rw [pm.length_eq]; rfl
    have s79 : Sx (also (one b) mo) H7 H9 := (Sx.same s78).trans (sx9.le fun c z => .inl z)
    have e79 : H9 mo = some (.lst xs7) := sx9 _ _ (fun z => bm (show mo = b from z).symm) (s78 _ _ eC)
    have hP9 := hP7.sx s79
    have n9 : ¬ also (one b) mo p9 := (hM7.gr (Gr.same s78)).out np9
    refine ⟨p9, rfl, ⟨_, SqL.of e9⟩, ?_⟩
    refine for_list (xs := ys) (fun k σ H' => (∃ y3 y4 y5 y6 y7 y8 y9 y10 y11 y12, σ = [some (.ref a), some (.ref b), some (.ref mo), y3, y4, y5, y6, y7, y8, y9, y10, y11, y12]) ∧ Sx (also (one b) mo) H9 H' ∧ Gr H9 H' ∧ Bag K (also (one b) mo) H' b ∧ ∃ xs ws, H' mo = some (.lst xs) ∧ PrsAt T (also (one b) mo) H' xs ws ∧ ws.length = 5 + k) ⟨⟨_, _, _, _, _, _, _, _, _, _, rfl⟩, Sx.refl, Gr.refl, hB9, xs7, allW, e79, hP9, rfl⟩ (fun k σ H' _ z => SqL.of (z.2.1 _ _ n9 e9)) (fun k x σ H10 hx z => ?_) (fun σ H10 z => ?_)
    · obtain ⟨⟨y3, y4, y5, y6, y7, y8, y9, y10, y11, y12, rfl⟩, s10, g10, hB10, xs, ws, e10, hP10, lw⟩ := z
      have hk : k < ys.length := (List.getElem?_eq_some_iff.mp hx).1
      obtain ⟨zz, hzz, rfl⟩ := List.mem_map.mp (pm.mem_iff.mp (List.mem_of_getElem? hx))
      obtain ⟨i, rfl⟩ := mem_words hzz
      have lxs := hP10.1
      walk_at "g"
      refine ⟨.inl ⟨rfl, _, SqL.of e10⟩, ?_⟩
      walk_at "g"
      refine fun H11 x dx s11 hx11 ex11 => ?_
      walk_at "g"
      refine ⟨szK rfl, fun t ht => ?_⟩
      have s12 : Same H11 (upd H11 t (.tup [.str i.txt, .ref x])) := same_new ht
      have e12 : upd H11 t (.tup [.str i.txt, .ref x]) t = some (.tup [.str i.txt, .ref x]) := upd_same
      have hM10 : Mk (also (one b) mo) H10 := ((hM7.gr (Gr.same s78)).gr g9).gr g10
      have nx : ¬ also (one b) mo x := hM10.out hx11
      have nt : ¬ also (one b) mo t := (hM10.gr (Gr.same s11)).out ht
      generalize upd H11 t (.tup [.str i.txt, .ref x]) = H12 at s12 e12
      have s1012 := s11.trans s12
      have e12m := s1012 _ _ e10
      have sP : Sx (also (one b) mo) H12 (upd H12 mo (.lst (xs ++ [.ref t]))) := Sx.put (.inr rfl)
      refine ⟨mo, xs, .ref t, rfl, rfl, e12m, small1000 (by omega), ⟨_, _, _, _, _, _, _, _, _, _, rfl⟩, s10.trans ((Sx.same s1012).trans sP), g10.trans ((Gr.same s1012).trans Gr.upd), (hB10.same s1012).keep (N := one mo) (Sx.put rfl) bm (fun c z => .inr z), xs ++ [.ref t], ws ++ [i], upd_same, ?_, by rw [List.length_append, lw]; show _ + 1 = _; omega⟩
      exact (hP10.sx ((Sx.same s1012).trans sP)).push (PrAt.sx ⟨t, .ref x, rfl, nt, e12, x, dx, rfl, nx, s12 _ _ ex11⟩ sP)
    obtain ⟨⟨y3, y4, y5, y6, y7, y8, y9, y10, y11, y12, rfl⟩, s10, g10, hB10, xs, ws, e10, hP10, lw⟩ := z
    have hF10 : FsAt T (one b) H10 mo ws := ⟨xs, fun z => bm (show mo = b from z).symm, e10, hP10.less (fun c z => .inl z), by omega⟩
    have hB10b : Bag K (one b) H10 b := hB10.less rfl fun c z => .inl z
    clear hP10 hB10 hP9 e79 s79 hP7 hB7m hM7 hB8 hB9 n9 s10
    have hM10 : Mk (one b) H10 := fun c z => by rw [show c = b from z]; exact hB10b.there
    walk_at "g"
    refine ⟨mo, ws, one b, rfl, hF10, fun H13 s13 => ?_⟩
    walk_at "g"
    have hB13 := hB10b.same s13
    have hF13 := hF10.sx (Sx.same s13)
    refine ⟨b, 5, one b, rfl, hB13, by omega, by omega, fun n14 H14 a0 a1 hA14 hB14 => ?_⟩
    have hF14 := hF13.sx hA14.sx
    walk_at "g"
    refine ⟨by omega, by omega, ?_⟩
    refine for_range (lo := 0) (n := (1 + n14).toNat) (fun k σ H' => (∃ y3 y4 y5 y6 y7 y8 y9 y10 y11 y12, σ = [some (.ref a), some (.ref b), some (.ref mo), y3, y4, y5, y6, y7, y8, y9, y10, y11, y12]) ∧ Sx (one b) H14 H' ∧ Gr H14 H' ∧ Bag K (one b) H' b) ⟨⟨_, _, _, _, _, _, _, _, _, _, rfl⟩, Sx.refl, Gr.refl, hB14⟩ (fun k σ H15 hk z => ?_) (fun σ H15 z => ?_)
    · obtain ⟨⟨y3, y4, y5, y6, y7, y8, y9, y10, y11, y12, rfl⟩, s15, g15, hB15⟩ := z
      walk_at "g"
      refine ⟨szK rfl, fun u hu => ?_⟩
      have ub : u ≠ b := fun z => hB15.there (by rw [← z]; exact hu)
      have hM15 : Mk (one b) H15 := fun c z => by rw [show c = b from z]; exact hB15.there
      walk_at "g"
      refine ⟨b, u, [], also (one b) u, rfl, (hB15.more hu).same (same_new hu), (hM15.gr Gr.upd).also (by rw [upd_same]; simp), .inr rfl, ub, upd_same, by decide, (fun w hw => nomatch hw), fun H16 z s16 g16 hB16u _ okz _ => ?_⟩
      have s1516 : Sx (one b) H15 H16 := (((Sx.new hu).le fun c z => .inr z : Sx (also (one b) u) _ _).trans s16).cut hu
      have hB16 : Bag K (one b) H16 b := hB16u.less rfl fun c z => .inl z
      have g1516 : Gr H15 H16 := Gr.upd.trans g16
      clear s16 g16 hB16u hu ub
      walk_at "g"
      refine ⟨b, 6, one b, rfl, hB16, by omega, by omega, fun n17 H17 a2 a3 hA17 hB17 => ?_⟩
      walk_at "g"
      refine ⟨by omega, by omega, fun D hD => ?_⟩
      have Db : D ≠ b := fun z => hB17.there (by rw [← z]; exact hD)
      refine rng_loop (lo := 0) (n := n17.toNat) (fun i H' => ∃ (xs : List V) (ms : List Int), H' D = some (.lst xs) ∧ RpAll (also (one b) D) H' xs (ms.map fun n => PyData.tuple [.int n]) ∧ ms.length = i ∧ Sx (one b) H17 H' ∧ Gr H17 H' ∧ Bag K (also (one b) D) H' b) ⟨[], [], upd_same, .nil, rfl, Sx.new hD, Gr.upd, (hB17.more hD).same (same_new hD)⟩ (fun i H18 hi z => ?_) (fun H18 z => ?_)
      · obtain ⟨xs, ms, eD, rD, lm, s18, g18, hB18⟩ := z
        have hM17 : Mk (one b) H17 := fun c z => by rw [show c = b from z]; exact hB17.there
        have hM18 : Mk (also (one b) D) H18 := (hM17.gr g18).also (by rw [eD]; simp)
        refine ⟨rfl, ?_⟩
        walk_at "g"
        refine ⟨b, 15, also (one b) D, rfl, hB18, by omega, by omega, fun w19 H19 b0 b1 hA19 hB19 => ?_⟩
        walk_at "g"
        refine ⟨szK rfl, fun p hp => ?_⟩
        have eD19 := (hA19 D Db).trans eD
        have np : ¬ also (one b) D p := (hM18.gr (At.gr hA19 hB19.there)).out hp
        have sp := same_new (o := .tup [.int (1 + w19)]) hp
        have ep : upd H19 p (.tup [.int (1 + w19)]) p = some (.tup [.int (1 + w19)]) := upd_same
        generalize upd H19 p (.tup [.int (1 + w19)]) = H20 at sp ep
        have lxs := rD.length
        rw [List.length_map] at lxs
        have sD : Sx (also (one b) D) H20 (upd H20 D (.lst (xs ++ [.ref p]))) := Sx.put (.inr rfl)
        have s1820 : Sx (also (one b) D) H18 (upd H20 D (.lst (xs ++ [.ref p]))) := (hA19.sx.le fun c z => .inl z).trans ((Sx.same sp).trans sD)
        refine ⟨_, sp _ _ eD19, small1000 (by omega), xs ++ [.ref p], ms ++ [1 + w19], upd_same, ?_, by rw [List.length_append, lm]; rfl, fun c o n e => ?_, g18.trans ((At.gr hA19 hB19.there).trans ((Gr.same sp).trans Gr.upd)), (hB19.same sp).keep (N := one D) (Sx.put rfl) (Ne.symm Db) (fun c z => .inr z)⟩
        · rw [List.map_append]
          exact (rD.sx s1820).append (.one (.tup np (.inl ((upd_ne (fun z => np (.inr z))).trans ep)) (.cons (.int _) .nil)))
        · have cD : c ≠ D := fun z => by rw [z, hD] at e; cases e
          rw [upd_ne cD]
          exact sp _ _ (hA19.sx c o n (s18 c o n e))
      obtain ⟨xs, ms, eD, rD, lm, s18, g18, hB18⟩ := z
      walk_at "g"
      refine ⟨D, xs, rfl, .inl ⟨SqL.of eD, fun pa hpa => ?_⟩⟩
      have hB18b : Bag K (one b) H18 b := hB18.less rfl fun c z => .inl z
      have hM18 : Mk (one b) H18 := fun c z => by rw [show c = b from z]; exact hB18b.there
      have sp := same_new (o := .tup xs) hpa
      have rpa : Rp (one b) (upd H18 pa (.tup xs)) (.ref pa) (pathD ms) := .tup (hM18.out hpa) (.inl upd_same) ((rD.less fun c z => .inl z).sx (Sx.same sp))
      generalize upd H18 pa (.tup xs) = H21 at sp rpa
      have hB21 := hB18b.same sp
      have s1521 : Sx (one b) H15 H21 := s1516.trans (hA17.sx.trans (s18.trans (Sx.same sp)))
      have g1521 : Gr H15 H21 := g1516.trans ((At.gr hA17 hB17.there).trans (g18.trans (Gr.same sp)))
      clear rD eD hD Db hB18 hB18b hM18 s18 g18 hA17 hB17 s1516 g1516 hB16
      walk_at "g"
      refine ⟨b, one b, rfl, hB21, fun H22 who s22 g22 hB22 => ?_⟩
      walk_at "g"
      refine ⟨b, 4, one b, rfl, hB22, by omega, by omega, fun tk H23 c0 c1 hA23 hB23 => ?_⟩
      walk_at "g"
      refine ⟨b, 4, one b, rfl, hB23, by omega, by omega, fun qn H24 d0 d1 hA24 hB24 => ?_⟩
      walk_at "g"
      refine ⟨b, 3, one b, rfl, hB24, by omega, by omega, fun an H25 e0 e1 hA25 hB25 => ?_⟩
      walk_at "g"
      refine ⟨szK rfl, fun tr htr => ?_⟩
      have s2125 : Sx (one b) H21 H25 := s22.trans (hA23.sx.trans (hA24.sx.trans hA25.sx))
      have g2125 : Gr H21 H25 := g22.trans ((At.gr hA23 hB23.there).trans ((At.gr hA24 hB24.there).trans (At.gr hA25 hB25.there)))
      have hM25 : Mk (one b) H25 := fun c z => by rw [show c = b from z]; exact hB25.there
      have ntr : ¬ one b tr := hM25.out htr
      generalize e26 : upd H25 tr _ = H26
      have sr : Same H25 H26 := by rw [← e26]; exact same_new htr
      have er : H26 tr = some (.tup (En.vs ⟨.ref pa, z, who, tk, qn, 1 + an⟩)) := by rw [← e26]; exact upd_same
      clear e26
      have hB26 := hB25.same sr
      have hM26 := hM25.gr (Gr.same sr)
      have s1526 : Sx (one b) H15 H26 := s1521.trans (s2125.trans (Sx.same sr))
      have g1526 : Gr H15 H26 := g1521.trans (g2125.trans (Gr.same sr))
      have r26 := rpa.sx (s2125.trans (Sx.same sr))
      clear hA23 hB23 hA24 hB24 hA25 hB25 s22 g22 hB22 sr s2125 g2125 s1521 g1521 sp
      walk_at "g"
      refine ⟨b, tr, ⟨.ref pa, z, who, tk, qn, 1 + an⟩, one b, rfl, hB26, hM26, ntr, .inl (.inl er), c0, c1, d0, d1, fun H27 v27 s27 g27 hB27 en27 => ?_⟩
      have er27 := s27 _ _ ntr er
      have r27 := r26.sx s27
      have s1527 := s1526.trans s27
      have g1527 := g1526.trans g27
      dsimp only [gName]
      with_reducible refine seq_joinN (fun σ3 H3 => ∃ (t : Addr) (v : V) (en : En), σ3 = [some (.ref a), some (.ref b), some (.ref mo), some (.str z), some (.int (0 + (k : Int))), some (.ref pa), some (.ref t), some v, y8, y9, y10, y11, y12] ∧ Sx (one b) H15 H3 ∧ Gr H15 H3 ∧ Bag K (one b) H3 b ∧ ¬ one b t ∧ H3 t = some (.tup en.vs) ∧ EnAt T.C_Entry (one b) H3 v en ∧ Rp (one b) H3 en.ov (pathD ms) ∧ en.word = z ∧ 0 ≤ en.question ∧ en.question < 4) (fun N hN => ?_) (fun σ3 H3 c => ?_)
      · walk_at "g"
        refine ⟨b, 3, one b, rfl, hB27, by omega, by omega, fun n28 H28 f0 f1 hA28 hB28 => ?_⟩
        have er28 := hA28.sx _ _ ntr er27
        have r28 := r27.sx hA28.sx
        have s1528 := s1527.trans hA28.sx
        have g1528 := g1527.trans (At.gr hA28 hB28.there)
        by_cases c : n28 = 0
        · subst c
          walk_at "g"
          refine ⟨b, one b, rfl, hB28, fun H29 tk2 s29 g29 hB29 => ?_⟩
          have er29 := s29 _ _ ntr er28
          walk_at "g"
          refine ⟨szK rfl, fun t3 ht3 => ?_⟩
          have hM29 : Mk (one b) H29 := fun c z => by rw [show c = b from z]; exact hB29.there
          have nt3 : ¬ one b t3 := hM29.out ht3
          generalize e30 : upd H29 t3 _ = H30
          have sr3 : Same H29 H30 := by rw [← e30]; exact same_new ht3
          have er3 : H30 t3 = some (.tup (En.vs ⟨.ref pa, z, who, tk2, qn, 1 + an⟩)) := by rw [← e30]; exact upd_same
          clear e30
          have hM30 := hM29.gr (Gr.same sr3)
          have s1530 := s1528.trans (s29.trans (Sx.same sr3))
          have g1530 := g1528.trans (g29.trans (Gr.same sr3))
          have r30 := r28.sx (s29.trans (Sx.same sr3))
          have hB30 := hB29.same sr3
          walk_at "g"
          intro x dx hx hd ne
          have hx2 : upd H30 dx (.own x) x = none := by rw [upd_ne (fun z => ne z.symm)]; exact hx
          have sE1 : Same H30 (upd (upd H30 dx (.own x)) x (.ins T.C_Entry dx [])) := (same_new hd).trans (same_new hx2)
          have sE : Same H30 (upd (upd (upd H30 dx (.own x)) x (.ins T.C_Entry dx [])) x (.ins T.C_Entry dx (En.fs ⟨.ref pa, z, who, tk2, qn, 1 + an⟩))) := same_put sE1 hx
          refine ⟨x, dx, ⟨.ref pa, z, who, tk2, qn, 1 + an⟩, rfl, upd_same, rfl, ?_⟩
          walk_at "g"
          exact hN _ _ ⟨t3, .ref x, ⟨.ref pa, z, who, tk2, qn, 1 + an⟩, rfl, s1530.trans (Sx.same sE), g1530.trans (Gr.same sE), hB30.same sE, nt3, sE _ _ er3, ⟨x, dx, rfl, hM30.out hx, upd_same⟩, r30.sx (Sx.same sE), rfl, d0, d1⟩
        · have e1 : decide (V.int n28 = V.int 0) = false := decide_eq_false fun z => c (V.int.inj z)
          walk_at "g"
          rw [e1]
          walk_at "g"
          refine hN _ _ ⟨tr, v27, ⟨.ref pa, z, who, tk, qn, 1 + an⟩, rfl, s1528, g1528, hB28, ntr, er28, en27.sx hA28.sx, r28, rfl, d0, d1⟩
      obtain ⟨t3, v3, en3, rfl, s3, g3, hB3, nt3, et3, en3', rp3, ew3, q0, q4⟩ := c
      have hM3 : Mk (one b) H3 := fun c z => by rw [show c = b from z]; exact hB3.there
      have okw : okN en3.word := by rw [ew3]; exact okz
      walk_at "g"
      refine ⟨v3, en3, one b, rfl, en3', fun p31 hp31 => ?_⟩
      have sp3 := same_new (o := .tup en3.vs) hp31
      have np31 : ¬ one b p31 := hM3.out hp31
      have dA : ∀ a, ¬ one b a → upd H3 p31 (.tup en3.vs) a = some (.tup en3.vs) → Rp (one b) (upd H3 p31 (.tup en3.vs)) (.ref a) (rowT en3 ms) := fun a na ha =>
        .tup na (.inl ha) (.cons (rp3.sx (Sx.same sp3)) (.cons (.str _) (.cons (.int _) (.cons (.int _) (.cons (.int _) (.cons (.int _) .nil))))))
      have dA1 := Rp.dp (K := K) _ _ (dA p31 np31 upd_same)
      have dA2 := Rp.dp (K := K) _ _ (dA t3 nt3 (sp3 _ _ et3))
      refine ⟨_, rfl, rowT en3 ms, rowT en3 ms, dA1, dA2, row_shaped en3 ms okw, row_shaped en3 ms okw, ?_⟩
      rw [row_eqv en3 ms okw]
      have hB32 := hB3.same sp3
      have et32 := sp3 _ _ et3
      have en32 := en3'.sx (Sx.same sp3)
      have rp32 := rp3.sx (Sx.same sp3)
      have s32 := s3.trans (Sx.same sp3)
      have g32 := g3.trans (Gr.same sp3)
      have hM32 := hM3.gr (Gr.same sp3)
      have hF32 : FsAt T (one b) (upd H3 p31 (.tup en3.vs)) mo ws := (hF14.sx s15).sx s32
      walk_at "g"
      refine ⟨b, mo, t3, v3, en3, ms, ws, one b, rfl, hB32, hM32, hF32, en32, nt3, et32, rp32, okw, q0, q4, fun H33 s33 g33 hB33 => ?_⟩
      have hM33 := hM32.gr g33
      walk_at "g"
      refine ⟨b, one b, rfl, hB33, hM33, fun H34 z34 s34 g34 hB34 nz34 => ?_⟩
      walk_at "g"
      refine ⟨nz34, fun H35 s35 => ?_⟩
      walk_at "g"
      exact ⟨⟨_, _, _, _, _, _, _, _, _, _, rfl⟩, s15.trans (s32.trans (s33.trans (s34.trans (Sx.same s35)))), g15.trans (g32.trans (g33.trans (g34.trans (Gr.same s35)))), hB34.same s35⟩
    · obtain ⟨⟨y3, y4, y5, y6, y7, y8, y9, y10, y11, y12, rfl⟩, s15, g15, hB15⟩ := z
      have hF15 := hF14.sx s15
      walk_at "g"
      obtain ⟨xs15, nm, e15, hP15, lw15⟩ := id hF15
      refine ⟨⟨_, SqL.of e15⟩, ?_⟩
      refine for_list (xs := xs15) (fun k σ H' => (∃ y3 y4 y5 y6 y7 y8 y9 y10 y11 y12, σ = [some (.ref a), some (.ref b), some (.ref mo), y3, y4, y5, y6, y7, y8, y9, y10, y11, y12]) ∧ Same H15 H') ⟨⟨_, _, _, _, _, _, _, _, _, _, rfl⟩, fun _ _ e => e⟩ (fun k σ H' _ z => SqL.of (z.2 _ _ e15)) (fun k x σ H16 hx z => ?_) (fun σ H16 z => ?_)
      · obtain ⟨⟨y3, y4, y5, y6, y7, y8, y9, y10, y11, y12, rfl⟩, s16⟩ := z
        obtain ⟨i, hi, r, fv, rfl, nr, hr0, hfv⟩ := hP15.2 k x hx
        refine ⟨r, [.str i.txt, fv], rfl, .inl (.inl (s16 _ _ hr0)), rfl, _, _, rfl, _, _, rfl, rfl, ?_⟩
        walk_at "g"
        refine ⟨⟨_, SqL.of (s16 _ _ e15)⟩, ?_⟩
        refine for_list (xs := xs15) (fun k σ H' => (∃ y10 y11 y12, σ = [some (.ref a), some (.ref b), some (.ref mo), y3, y4, y5, y6, y7, some (.str i.txt), some fv, y10, y11, y12]) ∧ Same H15 H') ⟨⟨_, _, _, rfl⟩, s16⟩ (fun k σ H' _ z => SqL.of (z.2 _ _ e15)) (fun k2 x2 σ H17 hx2 z => ?_) (fun σ H17 z => ?_)
        · obtain ⟨⟨y10, y11, y12, rfl⟩, s17⟩ := z
          obtain ⟨j, hj, r2, fv2, rfl, nr2, hr2, hfv2⟩ := hP15.2 k2 x2 hx2
          refine ⟨r2, [.str j.txt, fv2], rfl, .inl (.inl (s17 _ _ hr2)), rfl, _, _, rfl, _, _, rfl, rfl, ?_⟩
          have f1 := hfv.same s17
          have f2 := hfv2.same s17
          obtain ⟨fa, fd, rfl, nfa, hfa⟩ := id f1
          obtain ⟨fb, fe, rfl, nfb, hfb⟩ := id f2
          walk_at "g"
          refine ⟨i, j, fa, fd, [], fb, fe, [], rfl, rfl, hfa, hfb, ?_⟩
          refine ⟨.ref fa, .ref fb, j, one b, rfl, f1, f2, fun H18 s18 => ?_⟩
          refine ⟨_, rfl, ?_⟩
          walk_at "g"
          refine ⟨i, j, rfl, fun H19 s19 => ?_⟩
          walk_at "g"
          refine ⟨_, _, rfl, ?_⟩
          rw [am_le, beq_self_eq_true]
          walk_at "g"
          exact ⟨⟨_, _, _, rfl⟩, s17.trans (s18.trans s19)⟩
        · obtain ⟨⟨y10, y11, y12, rfl⟩, s17⟩ := z
          exact ⟨⟨_, _, _, _, _, _, _, _, _, _, rfl⟩, s17⟩
      · obtain ⟨⟨y3, y4, y5, y6, y7, y8, y9, y10, y11, y12, rfl⟩, s16⟩ := z
        walk_at "g"
        refine ⟨by decide +kernel, fun H17 s17 => ?_⟩
        walk_at "g"
        refine ⟨by decide +kernel, fun H18 s18 => ?_⟩
        exact q _
end
end D

namespace D
open PySem PySem.Spec PyProof.Rows L2
theorem strs_sq {K : PySem.W.Frag} {p : Addr} {arr : Array Value} {n : Nat} {zs : List Str} (l : K.lookup p = some ⟨.type "tuple", none, .seq arr n, #[]⟩) (v : Vals (zs.map V.str) arr.toList) (hz : zs.length ≤ 100) (H : Hp) : SqT K H p (zs.map V.str) := by
  refine .inr ⟨_, arr, n, l, rfl, rfl, ?_, v⟩
  have e : arr.size = zs.length := by
    rw [← Array.length_toList, ← v.length, List.length_map]
  rw [e, sizeLine_eq]
  omega
theorem all_mk {l : PySem.W.OpenLaw} {w : World} {K : PySem.W.Frag} {h : Heap} {mg : Str → Option Value} {fa : Addr} {f__wall f__reads_no_less f_fence_of f__law_mixed f__law_bag f__law_pick f__law_mingled f__law_new_name f__law_words f__law_lets f__law_cases f__law_at_most f__law_truth f__law_any_number f__law_other f__law_entry f__law_fields f__law_asked f__law_classes f__law_none f__law_refused f_law C_Entry f_Entry___init__ C_Line f_Line___init__ f_Line_edition p_Line_edition f_Line_send f_Line_take f_Line_entries f_Line_turn f_Line_has_next f_Line_copy C_Fence f_Fence_lets f_Fence___le__ C_Own f_Own_lets f_Own___le__ C_Same f_Same_lets f_Same___le__ C_Both f_Both_lets f_Both___le__ C_Last f_Last_lets f_Last___le__ C_ScreenError C_BadFence f_BadFence___init__ C_NoAnswer f_NoAnswer___init__ : Addr} (X : K.In h) (G : h.Ns mainGlobals mg) (hfa : mg "law" = some (.ref fa))
    {od__wall an__wall : Option Addr} {sl__wall : Array (Option Value)} {oc__wall kV__wall dc__wall pm__wall cd__wall ct__wall : Value}
    (a__wall : PySem.W.nsIn K mainGlobals "_wall" = some (some (.ref f__wall))) (l__wall : K.lookup f__wall = some ⟨oc__wall, od__wall, .func (PySem.W.fnOf "_wall" "_wall" (defArgs s__wall) (defBody s__wall) (defScope s__wall) .none kV__wall dc__wall pm__wall an__wall cd__wall ct__wall), sl__wall⟩) (c__wall : PySem.W.codeIn K cd__wall "_wall" = true) (k__wall : PySem.W.keepIn K (.ref f__wall) = true)
    {od__reads_no_less an__reads_no_less : Option Addr} {sl__reads_no_less : Array (Option Value)} {oc__reads_no_less kV__reads_no_less dc__reads_no_less pm__reads_no_less cd__reads_no_less ct__reads_no_less : Value}
    (a__reads_no_less : PySem.W.nsIn K mainGlobals "_reads_no_less" = some (some (.ref f__reads_no_less))) (l__reads_no_less : K.lookup f__reads_no_less = some ⟨oc__reads_no_less, od__reads_no_less, .func (PySem.W.fnOf "_reads_no_less" "_reads_no_less" (defArgs s__reads_no_less) (defBody s__reads_no_less) (defScope s__reads_no_less) .none kV__reads_no_less dc__reads_no_less pm__reads_no_less an__reads_no_less cd__reads_no_less ct__reads_no_less), sl__reads_no_less⟩) (c__reads_no_less : PySem.W.codeIn K cd__reads_no_less "_reads_no_less" = true) (k__reads_no_less : PySem.W.keepIn K (.ref f__reads_no_less) = true)
    {od_fence_of an_fence_of : Option Addr} {sl_fence_of : Array (Option Value)} {oc_fence_of kV_fence_of dc_fence_of pm_fence_of cd_fence_of ct_fence_of : Value}
    (a_fence_of : PySem.W.nsIn K mainGlobals "fence_of" = some (some (.ref f_fence_of))) (l_fence_of : K.lookup f_fence_of = some ⟨oc_fence_of, od_fence_of, .func (PySem.W.fnOf "fence_of" "fence_of" (defArgs s_fence_of) (defBody s_fence_of) (defScope s_fence_of) .none kV_fence_of dc_fence_of pm_fence_of an_fence_of cd_fence_of ct_fence_of), sl_fence_of⟩) (c_fence_of : PySem.W.codeIn K cd_fence_of "fence_of" = true) (k_fence_of : PySem.W.keepIn K (.ref f_fence_of) = true)
    {od__law_mixed an__law_mixed : Option Addr} {sl__law_mixed : Array (Option Value)} {oc__law_mixed kV__law_mixed dc__law_mixed pm__law_mixed cd__law_mixed ct__law_mixed : Value}
    (a__law_mixed : PySem.W.nsIn K mainGlobals "_law_mixed" = some (some (.ref f__law_mixed))) (l__law_mixed : K.lookup f__law_mixed = some ⟨oc__law_mixed, od__law_mixed, .func (PySem.W.fnOf "_law_mixed" "_law_mixed" (defArgs s__law_mixed) (defBody s__law_mixed) (defScope s__law_mixed) .none kV__law_mixed dc__law_mixed pm__law_mixed an__law_mixed cd__law_mixed ct__law_mixed), sl__law_mixed⟩) (c__law_mixed : PySem.W.codeIn K cd__law_mixed "_law_mixed" = true) (k__law_mixed : PySem.W.keepIn K (.ref f__law_mixed) = true)
    {od__law_bag an__law_bag : Option Addr} {sl__law_bag : Array (Option Value)} {oc__law_bag kV__law_bag dc__law_bag pm__law_bag cd__law_bag ct__law_bag : Value}
    (a__law_bag : PySem.W.nsIn K mainGlobals "_law_bag" = some (some (.ref f__law_bag))) (l__law_bag : K.lookup f__law_bag = some ⟨oc__law_bag, od__law_bag, .func (PySem.W.fnOf "_law_bag" "_law_bag" (defArgs s__law_bag) (defBody s__law_bag) (defScope s__law_bag) .none kV__law_bag dc__law_bag pm__law_bag an__law_bag cd__law_bag ct__law_bag), sl__law_bag⟩) (c__law_bag : PySem.W.codeIn K cd__law_bag "_law_bag" = true) (k__law_bag : PySem.W.keepIn K (.ref f__law_bag) = true)
    {od__law_pick an__law_pick : Option Addr} {sl__law_pick : Array (Option Value)} {oc__law_pick kV__law_pick dc__law_pick pm__law_pick cd__law_pick ct__law_pick : Value}
    (a__law_pick : PySem.W.nsIn K mainGlobals "_law_pick" = some (some (.ref f__law_pick))) (l__law_pick : K.lookup f__law_pick = some ⟨oc__law_pick, od__law_pick, .func (PySem.W.fnOf "_law_pick" "_law_pick" (defArgs s__law_pick) (defBody s__law_pick) (defScope s__law_pick) .none kV__law_pick dc__law_pick pm__law_pick an__law_pick cd__law_pick ct__law_pick), sl__law_pick⟩) (c__law_pick : PySem.W.codeIn K cd__law_pick "_law_pick" = true) (k__law_pick : PySem.W.keepIn K (.ref f__law_pick) = true)
    {od__law_mingled an__law_mingled : Option Addr} {sl__law_mingled : Array (Option Value)} {oc__law_mingled kV__law_mingled dc__law_mingled pm__law_mingled cd__law_mingled ct__law_mingled : Value}
    (a__law_mingled : PySem.W.nsIn K mainGlobals "_law_mingled" = some (some (.ref f__law_mingled))) (l__law_mingled : K.lookup f__law_mingled = some ⟨oc__law_mingled, od__law_mingled, .func (PySem.W.fnOf "_law_mingled" "_law_mingled" (defArgs s__law_mingled) (defBody s__law_mingled) (defScope s__law_mingled) .none kV__law_mingled dc__law_mingled pm__law_mingled an__law_mingled cd__law_mingled ct__law_mingled), sl__law_mingled⟩) (c__law_mingled : PySem.W.codeIn K cd__law_mingled "_law_mingled" = true) (k__law_mingled : PySem.W.keepIn K (.ref f__law_mingled) = true)
    {od__law_new_name an__law_new_name : Option Addr} {sl__law_new_name : Array (Option Value)} {oc__law_new_name kV__law_new_name dc__law_new_name pm__law_new_name cd__law_new_name ct__law_new_name : Value}
    (a__law_new_name : PySem.W.nsIn K mainGlobals "_law_new_name" = some (some (.ref f__law_new_name))) (l__law_new_name : K.lookup f__law_new_name = some ⟨oc__law_new_name, od__law_new_name, .func (PySem.W.fnOf "_law_new_name" "_law_new_name" (defArgs s__law_new_name) (defBody s__law_new_name) (defScope s__law_new_name) .none kV__law_new_name dc__law_new_name pm__law_new_name an__law_new_name cd__law_new_name ct__law_new_name), sl__law_new_name⟩) (c__law_new_name : PySem.W.codeIn K cd__law_new_name "_law_new_name" = true) (k__law_new_name : PySem.W.keepIn K (.ref f__law_new_name) = true)
    {od__law_words an__law_words : Option Addr} {sl__law_words : Array (Option Value)} {oc__law_words kV__law_words dc__law_words pm__law_words cd__law_words ct__law_words : Value}
    (a__law_words : PySem.W.nsIn K mainGlobals "_law_words" = some (some (.ref f__law_words))) (l__law_words : K.lookup f__law_words = some ⟨oc__law_words, od__law_words, .func (PySem.W.fnOf "_law_words" "_law_words" (defArgs s__law_words) (defBody s__law_words) (defScope s__law_words) .none kV__law_words dc__law_words pm__law_words an__law_words cd__law_words ct__law_words), sl__law_words⟩) (c__law_words : PySem.W.codeIn K cd__law_words "_law_words" = true) (k__law_words : PySem.W.keepIn K (.ref f__law_words) = true)
    {od__law_lets an__law_lets : Option Addr} {sl__law_lets : Array (Option Value)} {oc__law_lets kV__law_lets dc__law_lets pm__law_lets cd__law_lets ct__law_lets : Value}
    (a__law_lets : PySem.W.nsIn K mainGlobals "_law_lets" = some (some (.ref f__law_lets))) (l__law_lets : K.lookup f__law_lets = some ⟨oc__law_lets, od__law_lets, .func (PySem.W.fnOf "_law_lets" "_law_lets" (defArgs s__law_lets) (defBody s__law_lets) (defScope s__law_lets) .none kV__law_lets dc__law_lets pm__law_lets an__law_lets cd__law_lets ct__law_lets), sl__law_lets⟩) (c__law_lets : PySem.W.codeIn K cd__law_lets "_law_lets" = true) (k__law_lets : PySem.W.keepIn K (.ref f__law_lets) = true)
    {od__law_cases an__law_cases : Option Addr} {sl__law_cases : Array (Option Value)} {oc__law_cases kV__law_cases dc__law_cases pm__law_cases cd__law_cases ct__law_cases : Value}
    (a__law_cases : PySem.W.nsIn K mainGlobals "_law_cases" = some (some (.ref f__law_cases))) (l__law_cases : K.lookup f__law_cases = some ⟨oc__law_cases, od__law_cases, .func (PySem.W.fnOf "_law_cases" "_law_cases" (defArgs s__law_cases) (defBody s__law_cases) (defScope s__law_cases) .none kV__law_cases dc__law_cases pm__law_cases an__law_cases cd__law_cases ct__law_cases), sl__law_cases⟩) (c__law_cases : PySem.W.codeIn K cd__law_cases "_law_cases" = true) (k__law_cases : PySem.W.keepIn K (.ref f__law_cases) = true)
    {od__law_at_most an__law_at_most : Option Addr} {sl__law_at_most : Array (Option Value)} {oc__law_at_most kV__law_at_most dc__law_at_most pm__law_at_most cd__law_at_most ct__law_at_most : Value}
    (a__law_at_most : PySem.W.nsIn K mainGlobals "_law_at_most" = some (some (.ref f__law_at_most))) (l__law_at_most : K.lookup f__law_at_most = some ⟨oc__law_at_most, od__law_at_most, .func (PySem.W.fnOf "_law_at_most" "_law_at_most" (defArgs s__law_at_most) (defBody s__law_at_most) (defScope s__law_at_most) .none kV__law_at_most dc__law_at_most pm__law_at_most an__law_at_most cd__law_at_most ct__law_at_most), sl__law_at_most⟩) (c__law_at_most : PySem.W.codeIn K cd__law_at_most "_law_at_most" = true) (k__law_at_most : PySem.W.keepIn K (.ref f__law_at_most) = true)
    {od__law_truth an__law_truth : Option Addr} {sl__law_truth : Array (Option Value)} {oc__law_truth kV__law_truth dc__law_truth pm__law_truth cd__law_truth ct__law_truth : Value}
    (a__law_truth : PySem.W.nsIn K mainGlobals "_law_truth" = some (some (.ref f__law_truth))) (l__law_truth : K.lookup f__law_truth = some ⟨oc__law_truth, od__law_truth, .func (PySem.W.fnOf "_law_truth" "_law_truth" (defArgs s__law_truth) (defBody s__law_truth) (defScope s__law_truth) .none kV__law_truth dc__law_truth pm__law_truth an__law_truth cd__law_truth ct__law_truth), sl__law_truth⟩) (c__law_truth : PySem.W.codeIn K cd__law_truth "_law_truth" = true) (k__law_truth : PySem.W.keepIn K (.ref f__law_truth) = true)
    {od__law_any_number an__law_any_number : Option Addr} {sl__law_any_number : Array (Option Value)} {oc__law_any_number kV__law_any_number dc__law_any_number pm__law_any_number cd__law_any_number ct__law_any_number : Value}
    (a__law_any_number : PySem.W.nsIn K mainGlobals "_law_any_number" = some (some (.ref f__law_any_number))) (l__law_any_number : K.lookup f__law_any_number = some ⟨oc__law_any_number, od__law_any_number, .func (PySem.W.fnOf "_law_any_number" "_law_any_number" (defArgs s__law_any_number) (defBody s__law_any_number) (defScope s__law_any_number) .none kV__law_any_number dc__law_any_number pm__law_any_number an__law_any_number cd__law_any_number ct__law_any_number), sl__law_any_number⟩) (c__law_any_number : PySem.W.codeIn K cd__law_any_number "_law_any_number" = true) (k__law_any_number : PySem.W.keepIn K (.ref f__law_any_number) = true)
    {od__law_other an__law_other : Option Addr} {sl__law_other : Array (Option Value)} {oc__law_other kV__law_other dc__law_other pm__law_other cd__law_other ct__law_other : Value}
    (a__law_other : PySem.W.nsIn K mainGlobals "_law_other" = some (some (.ref f__law_other))) (l__law_other : K.lookup f__law_other = some ⟨oc__law_other, od__law_other, .func (PySem.W.fnOf "_law_other" "_law_other" (defArgs s__law_other) (defBody s__law_other) (defScope s__law_other) .none kV__law_other dc__law_other pm__law_other an__law_other cd__law_other ct__law_other), sl__law_other⟩) (c__law_other : PySem.W.codeIn K cd__law_other "_law_other" = true) (k__law_other : PySem.W.keepIn K (.ref f__law_other) = true)
    {od__law_entry an__law_entry : Option Addr} {sl__law_entry : Array (Option Value)} {oc__law_entry kV__law_entry dc__law_entry pm__law_entry cd__law_entry ct__law_entry : Value}
    (a__law_entry : PySem.W.nsIn K mainGlobals "_law_entry" = some (some (.ref f__law_entry))) (l__law_entry : K.lookup f__law_entry = some ⟨oc__law_entry, od__law_entry, .func (PySem.W.fnOf "_law_entry" "_law_entry" (defArgs s__law_entry) (defBody s__law_entry) (defScope s__law_entry) .none kV__law_entry dc__law_entry pm__law_entry an__law_entry cd__law_entry ct__law_entry), sl__law_entry⟩) (c__law_entry : PySem.W.codeIn K cd__law_entry "_law_entry" = true) (k__law_entry : PySem.W.keepIn K (.ref f__law_entry) = true)
    {od__law_fields an__law_fields : Option Addr} {sl__law_fields : Array (Option Value)} {oc__law_fields kV__law_fields dc__law_fields pm__law_fields cd__law_fields ct__law_fields : Value}
    (a__law_fields : PySem.W.nsIn K mainGlobals "_law_fields" = some (some (.ref f__law_fields))) (l__law_fields : K.lookup f__law_fields = some ⟨oc__law_fields, od__law_fields, .func (PySem.W.fnOf "_law_fields" "_law_fields" (defArgs s__law_fields) (defBody s__law_fields) (defScope s__law_fields) .none kV__law_fields dc__law_fields pm__law_fields an__law_fields cd__law_fields ct__law_fields), sl__law_fields⟩) (c__law_fields : PySem.W.codeIn K cd__law_fields "_law_fields" = true) (k__law_fields : PySem.W.keepIn K (.ref f__law_fields) = true)
    {od__law_asked an__law_asked : Option Addr} {sl__law_asked : Array (Option Value)} {oc__law_asked kV__law_asked dc__law_asked pm__law_asked cd__law_asked ct__law_asked : Value}
    (a__law_asked : PySem.W.nsIn K mainGlobals "_law_asked" = some (some (.ref f__law_asked))) (l__law_asked : K.lookup f__law_asked = some ⟨oc__law_asked, od__law_asked, .func (PySem.W.fnOf "_law_asked" "_law_asked" (defArgs s__law_asked) (defBody s__law_asked) (defScope s__law_asked) .none kV__law_asked dc__law_asked pm__law_asked an__law_asked cd__law_asked ct__law_asked), sl__law_asked⟩) (c__law_asked : PySem.W.codeIn K cd__law_asked "_law_asked" = true) (k__law_asked : PySem.W.keepIn K (.ref f__law_asked) = true)
    {od__law_classes an__law_classes : Option Addr} {sl__law_classes : Array (Option Value)} {oc__law_classes kV__law_classes dc__law_classes pm__law_classes cd__law_classes ct__law_classes : Value}
    (a__law_classes : PySem.W.nsIn K mainGlobals "_law_classes" = some (some (.ref f__law_classes))) (l__law_classes : K.lookup f__law_classes = some ⟨oc__law_classes, od__law_classes, .func (PySem.W.fnOf "_law_classes" "_law_classes" (defArgs s__law_classes) (defBody s__law_classes) (defScope s__law_classes) .none kV__law_classes dc__law_classes pm__law_classes an__law_classes cd__law_classes ct__law_classes), sl__law_classes⟩) (c__law_classes : PySem.W.codeIn K cd__law_classes "_law_classes" = true) (k__law_classes : PySem.W.keepIn K (.ref f__law_classes) = true)
    {od__law_none an__law_none : Option Addr} {sl__law_none : Array (Option Value)} {oc__law_none kV__law_none dc__law_none pm__law_none cd__law_none ct__law_none : Value}
    (a__law_none : PySem.W.nsIn K mainGlobals "_law_none" = some (some (.ref f__law_none))) (l__law_none : K.lookup f__law_none = some ⟨oc__law_none, od__law_none, .func (PySem.W.fnOf "_law_none" "_law_none" (defArgs s__law_none) (defBody s__law_none) (defScope s__law_none) .none kV__law_none dc__law_none pm__law_none an__law_none cd__law_none ct__law_none), sl__law_none⟩) (c__law_none : PySem.W.codeIn K cd__law_none "_law_none" = true) (k__law_none : PySem.W.keepIn K (.ref f__law_none) = true)
    {od__law_refused an__law_refused : Option Addr} {sl__law_refused : Array (Option Value)} {oc__law_refused kV__law_refused dc__law_refused pm__law_refused cd__law_refused ct__law_refused : Value}
    (a__law_refused : PySem.W.nsIn K mainGlobals "_law_refused" = some (some (.ref f__law_refused))) (l__law_refused : K.lookup f__law_refused = some ⟨oc__law_refused, od__law_refused, .func (PySem.W.fnOf "_law_refused" "_law_refused" (defArgs s__law_refused) (defBody s__law_refused) (defScope s__law_refused) .none kV__law_refused dc__law_refused pm__law_refused an__law_refused cd__law_refused ct__law_refused), sl__law_refused⟩) (c__law_refused : PySem.W.codeIn K cd__law_refused "_law_refused" = true) (k__law_refused : PySem.W.keepIn K (.ref f__law_refused) = true)
    {od_law an_law : Option Addr} {sl_law : Array (Option Value)} {oc_law kV_law dc_law pm_law cd_law ct_law : Value}
    (a_law : PySem.W.nsIn K mainGlobals "law" = some (some (.ref f_law))) (l_law : K.lookup f_law = some ⟨oc_law, od_law, .func (PySem.W.fnOf "law" "law" (defArgs s_law) (defBody s_law) (defScope s_law) .none kV_law dc_law pm_law an_law cd_law ct_law), sl_law⟩) (c_law : PySem.W.codeIn K cd_law "law" = true) (k_law : PySem.W.keepIn K (.ref f_law) = true)
    (aC_Entry : PySem.W.nsIn K mainGlobals "Entry" = some (some (.ref C_Entry))) (pg_Entry : PySem.W.plainGet K C_Entry Str.empty = true) (hd_Entry : PySem.W.hasDictIn K C_Entry = true) (po_Entry : PySem.W.plainOver K C_Entry = true) (sa_Entry : PySem.W.findIn K (.ref C_Entry) "__setattr__" = some (some (.builtin "object.__setattr__"))) (mk_Entry : PySem.W.makesIn K C_Entry = true) (kc_Entry : PySem.W.keepIn K (.ref C_Entry) = true) (nf_Entry : PySem.W.notFirst K C_Entry (.ref C_Entry) = true) (ih_Entry : PySem.W.findIn K (.ref C_Entry) "__class__" = some (some (.builtin "object.__class__"))) (ig_Entry : PySem.W.specialIn K (.builtin "object.__class__") "__get__" = some (some (.builtin "getset_descriptor.__get__"))) (it_Entry : PySem.W.takesIn K (.builtin "object.__class__") = some true) (io_Entry : PySem.W.mroIn K C_Entry (.type "object") = some true) (ik_Entry : PySem.W.kitOne K (.ref C_Entry) (.ref C_Entry) = some true)
    (nA_Entry_answer : PySem.W.findIn K (.ref C_Entry) "answer" = some none)
    (nA_Entry_owner : PySem.W.findIn K (.ref C_Entry) "owner" = some none)
    (nA_Entry_question : PySem.W.findIn K (.ref C_Entry) "question" = some none)
    (nA_Entry_ticket : PySem.W.findIn K (.ref C_Entry) "ticket" = some none)
    (nA_Entry_who : PySem.W.findIn K (.ref C_Entry) "who" = some none)
    (nA_Entry_word : PySem.W.findIn K (.ref C_Entry) "word" = some none)
    {od_Entry___init__ an_Entry___init__ : Option Addr} {sl_Entry___init__ : Array (Option Value)} {oc_Entry___init__ kV_Entry___init__ dc_Entry___init__ pm_Entry___init__ cd_Entry___init__ ct_Entry___init__ : Value}
    (a_Entry___init__ : PySem.W.findIn K (.ref C_Entry) "__init__" = some (some (.ref f_Entry___init__))) (i_Entry___init__ : PySem.W.isFn K (.ref f_Entry___init__) = true) (n_Entry___init__ : PySem.W.fnIn K f_Entry___init__ = true)
    (l_Entry___init__ : K.lookup f_Entry___init__ = some ⟨oc_Entry___init__, od_Entry___init__, .func (PySem.W.fnOf "__init__" "Entry.__init__" (defArgs s_Entry___init__) (defBody s_Entry___init__) (defScope s_Entry___init__) .none kV_Entry___init__ dc_Entry___init__ pm_Entry___init__ an_Entry___init__ cd_Entry___init__ ct_Entry___init__), sl_Entry___init__⟩) (c_Entry___init__ : PySem.W.codeIn K cd_Entry___init__ "Entry.__init__" = true) (k_Entry___init__ : PySem.W.keepIn K (.ref f_Entry___init__) = true)
    (aC_Line : PySem.W.nsIn K mainGlobals "Line" = some (some (.ref C_Line))) (pg_Line : PySem.W.plainGet K C_Line Str.empty = true) (hd_Line : PySem.W.hasDictIn K C_Line = true) (po_Line : PySem.W.plainOver K C_Line = true) (sa_Line : PySem.W.findIn K (.ref C_Line) "__setattr__" = some (some (.builtin "object.__setattr__"))) (mk_Line : PySem.W.makesIn K C_Line = true) (kc_Line : PySem.W.keepIn K (.ref C_Line) = true) (nf_Line : PySem.W.notFirst K C_Line (.ref C_Line) = true) (ih_Line : PySem.W.findIn K (.ref C_Line) "__class__" = some (some (.builtin "object.__class__"))) (ig_Line : PySem.W.specialIn K (.builtin "object.__class__") "__get__" = some (some (.builtin "getset_descriptor.__get__"))) (it_Line : PySem.W.takesIn K (.builtin "object.__class__") = some true) (io_Line : PySem.W.mroIn K C_Line (.type "object") = some true) (ik_Line : PySem.W.kitOne K (.ref C_Line) (.ref C_Line) = some true)
    (nA_Line__edition : PySem.W.findIn K (.ref C_Line) "_edition" = some none)
    (nA_Line__entries : PySem.W.findIn K (.ref C_Line) "_entries" = some none)
    (nA_Line__far : PySem.W.findIn K (.ref C_Line) "_far" = some none)
    (nA_Line__room : PySem.W.findIn K (.ref C_Line) "_room" = some none)
    (nA_Line__tickets : PySem.W.findIn K (.ref C_Line) "_tickets" = some none)
    {od_Line___init__ an_Line___init__ : Option Addr} {sl_Line___init__ : Array (Option Value)} {oc_Line___init__ kV_Line___init__ dc_Line___init__ pm_Line___init__ cd_Line___init__ ct_Line___init__ : Value}
    (a_Line___init__ : PySem.W.findIn K (.ref C_Line) "__init__" = some (some (.ref f_Line___init__))) (i_Line___init__ : PySem.W.isFn K (.ref f_Line___init__) = true) (n_Line___init__ : PySem.W.fnIn K f_Line___init__ = true)
    (l_Line___init__ : K.lookup f_Line___init__ = some ⟨oc_Line___init__, od_Line___init__, .func (PySem.W.fnOf "__init__" "Line.__init__" (defArgs s_Line___init__) (defBody s_Line___init__) (defScope s_Line___init__) .none kV_Line___init__ dc_Line___init__ pm_Line___init__ an_Line___init__ cd_Line___init__ ct_Line___init__), sl_Line___init__⟩) (c_Line___init__ : PySem.W.codeIn K cd_Line___init__ "Line.__init__" = true) (k_Line___init__ : PySem.W.keepIn K (.ref f_Line___init__) = true)
    {od_Line_edition an_Line_edition : Option Addr} {sl_Line_edition : Array (Option Value)} {oc_Line_edition kV_Line_edition dc_Line_edition pm_Line_edition cd_Line_edition ct_Line_edition : Value}
    {re_Line_edition : List Value} (a_Line_edition : PySem.W.findIn K (.ref C_Line) "edition" = some (some (.ref p_Line_edition))) (ge_Line_edition : PySem.W.specialIn K (.ref p_Line_edition) "__get__" = some (some (.builtin "property.__get__"))) (ta_Line_edition : PySem.W.takesIn K (.ref p_Line_edition) = some true) (re1_Line_edition : PySem.W.recIn K p_Line_edition "property" = some (.ref f_Line_edition :: re_Line_edition))
    (l_Line_edition : K.lookup f_Line_edition = some ⟨oc_Line_edition, od_Line_edition, .func (PySem.W.fnOf "edition" "Line.edition" (defArgs s_Line_edition) (defBody s_Line_edition) (defScope s_Line_edition) .none kV_Line_edition dc_Line_edition pm_Line_edition an_Line_edition cd_Line_edition ct_Line_edition), sl_Line_edition⟩) (c_Line_edition : PySem.W.codeIn K cd_Line_edition "Line.edition" = true) (k_Line_edition : PySem.W.keepIn K (.ref f_Line_edition) = true)
    {od_Line_send an_Line_send : Option Addr} {sl_Line_send : Array (Option Value)} {oc_Line_send kV_Line_send dc_Line_send pm_Line_send cd_Line_send ct_Line_send : Value}
    (a_Line_send : PySem.W.findIn K (.ref C_Line) "send" = some (some (.ref f_Line_send))) (i_Line_send : PySem.W.isFn K (.ref f_Line_send) = true) (n_Line_send : PySem.W.fnIn K f_Line_send = true)
    (l_Line_send : K.lookup f_Line_send = some ⟨oc_Line_send, od_Line_send, .func (PySem.W.fnOf "send" "Line.send" (defArgs s_Line_send) (defBody s_Line_send) (defScope s_Line_send) .none kV_Line_send dc_Line_send pm_Line_send an_Line_send cd_Line_send ct_Line_send), sl_Line_send⟩) (c_Line_send : PySem.W.codeIn K cd_Line_send "Line.send" = true) (k_Line_send : PySem.W.keepIn K (.ref f_Line_send) = true)
    {od_Line_take an_Line_take : Option Addr} {sl_Line_take : Array (Option Value)} {oc_Line_take kV_Line_take dc_Line_take pm_Line_take cd_Line_take ct_Line_take : Value}
    (a_Line_take : PySem.W.findIn K (.ref C_Line) "take" = some (some (.ref f_Line_take))) (i_Line_take : PySem.W.isFn K (.ref f_Line_take) = true) (n_Line_take : PySem.W.fnIn K f_Line_take = true)
    (l_Line_take : K.lookup f_Line_take = some ⟨oc_Line_take, od_Line_take, .func (PySem.W.fnOf "take" "Line.take" (defArgs s_Line_take) (defBody s_Line_take) (defScope s_Line_take) .none kV_Line_take dc_Line_take pm_Line_take an_Line_take cd_Line_take ct_Line_take), sl_Line_take⟩) (c_Line_take : PySem.W.codeIn K cd_Line_take "Line.take" = true) (k_Line_take : PySem.W.keepIn K (.ref f_Line_take) = true)
    {od_Line_entries an_Line_entries : Option Addr} {sl_Line_entries : Array (Option Value)} {oc_Line_entries kV_Line_entries dc_Line_entries pm_Line_entries cd_Line_entries ct_Line_entries : Value}
    (a_Line_entries : PySem.W.findIn K (.ref C_Line) "entries" = some (some (.ref f_Line_entries))) (i_Line_entries : PySem.W.isFn K (.ref f_Line_entries) = true) (n_Line_entries : PySem.W.fnIn K f_Line_entries = true)
    (l_Line_entries : K.lookup f_Line_entries = some ⟨oc_Line_entries, od_Line_entries, .func (PySem.W.fnOf "entries" "Line.entries" (defArgs s_Line_entries) (defBody s_Line_entries) (defScope s_Line_entries) .none kV_Line_entries dc_Line_entries pm_Line_entries an_Line_entries cd_Line_entries ct_Line_entries), sl_Line_entries⟩) (c_Line_entries : PySem.W.codeIn K cd_Line_entries "Line.entries" = true) (k_Line_entries : PySem.W.keepIn K (.ref f_Line_entries) = true)
    {od_Line_turn an_Line_turn : Option Addr} {sl_Line_turn : Array (Option Value)} {oc_Line_turn kV_Line_turn dc_Line_turn pm_Line_turn cd_Line_turn ct_Line_turn : Value}
    (a_Line_turn : PySem.W.findIn K (.ref C_Line) "turn" = some (some (.ref f_Line_turn))) (i_Line_turn : PySem.W.isFn K (.ref f_Line_turn) = true) (n_Line_turn : PySem.W.fnIn K f_Line_turn = true)
    (l_Line_turn : K.lookup f_Line_turn = some ⟨oc_Line_turn, od_Line_turn, .func (PySem.W.fnOf "turn" "Line.turn" (defArgs s_Line_turn) (defBody s_Line_turn) (defScope s_Line_turn) .none kV_Line_turn dc_Line_turn pm_Line_turn an_Line_turn cd_Line_turn ct_Line_turn), sl_Line_turn⟩) (c_Line_turn : PySem.W.codeIn K cd_Line_turn "Line.turn" = true) (k_Line_turn : PySem.W.keepIn K (.ref f_Line_turn) = true)
    {od_Line_has_next an_Line_has_next : Option Addr} {sl_Line_has_next : Array (Option Value)} {oc_Line_has_next kV_Line_has_next dc_Line_has_next pm_Line_has_next cd_Line_has_next ct_Line_has_next : Value}
    (a_Line_has_next : PySem.W.findIn K (.ref C_Line) "has_next" = some (some (.ref f_Line_has_next))) (i_Line_has_next : PySem.W.isFn K (.ref f_Line_has_next) = true) (n_Line_has_next : PySem.W.fnIn K f_Line_has_next = true)
    (l_Line_has_next : K.lookup f_Line_has_next = some ⟨oc_Line_has_next, od_Line_has_next, .func (PySem.W.fnOf "has_next" "Line.has_next" (defArgs s_Line_has_next) (defBody s_Line_has_next) (defScope s_Line_has_next) .none kV_Line_has_next dc_Line_has_next pm_Line_has_next an_Line_has_next cd_Line_has_next ct_Line_has_next), sl_Line_has_next⟩) (c_Line_has_next : PySem.W.codeIn K cd_Line_has_next "Line.has_next" = true) (k_Line_has_next : PySem.W.keepIn K (.ref f_Line_has_next) = true)
    {od_Line_copy an_Line_copy : Option Addr} {sl_Line_copy : Array (Option Value)} {oc_Line_copy kV_Line_copy dc_Line_copy pm_Line_copy cd_Line_copy ct_Line_copy : Value}
    (a_Line_copy : PySem.W.findIn K (.ref C_Line) "copy" = some (some (.ref f_Line_copy))) (i_Line_copy : PySem.W.isFn K (.ref f_Line_copy) = true) (n_Line_copy : PySem.W.fnIn K f_Line_copy = true)
    (l_Line_copy : K.lookup f_Line_copy = some ⟨oc_Line_copy, od_Line_copy, .func (PySem.W.fnOf "copy" "Line.copy" (defArgs s_Line_copy) (defBody s_Line_copy) (defScope s_Line_copy) .none kV_Line_copy dc_Line_copy pm_Line_copy an_Line_copy cd_Line_copy ct_Line_copy), sl_Line_copy⟩) (c_Line_copy : PySem.W.codeIn K cd_Line_copy "Line.copy" = true) (k_Line_copy : PySem.W.keepIn K (.ref f_Line_copy) = true)
    (aC_Fence : PySem.W.nsIn K mainGlobals "Fence" = some (some (.ref C_Fence))) (pg_Fence : PySem.W.plainGet K C_Fence Str.empty = true) (hd_Fence : PySem.W.hasDictIn K C_Fence = true) (po_Fence : PySem.W.plainOver K C_Fence = true) (sa_Fence : PySem.W.findIn K (.ref C_Fence) "__setattr__" = some (some (.builtin "object.__setattr__"))) (mk_Fence : PySem.W.makesIn K C_Fence = true) (kc_Fence : PySem.W.keepIn K (.ref C_Fence) = true) (nf_Fence : PySem.W.notFirst K C_Fence (.ref C_Fence) = true) (ih_Fence : PySem.W.findIn K (.ref C_Fence) "__class__" = some (some (.builtin "object.__class__"))) (ig_Fence : PySem.W.specialIn K (.builtin "object.__class__") "__get__" = some (some (.builtin "getset_descriptor.__get__"))) (it_Fence : PySem.W.takesIn K (.builtin "object.__class__") = some true) (io_Fence : PySem.W.mroIn K C_Fence (.type "object") = some true) (ik_Fence : PySem.W.kitOne K (.ref C_Fence) (.ref C_Fence) = some true)
    (mi_Fence : PySem.W.findIn K (.ref C_Fence) "__init__" = some (some (.builtin "object.__init__"))) (ge_Fence : PySem.W.findIn K (.ref C_Fence) "__ge__" = some (some (.builtin "object.__ge__")))
    {od_Fence_lets an_Fence_lets : Option Addr} {sl_Fence_lets : Array (Option Value)} {oc_Fence_lets kV_Fence_lets dc_Fence_lets pm_Fence_lets cd_Fence_lets ct_Fence_lets : Value}
    (a_Fence_lets : PySem.W.findIn K (.ref C_Fence) "lets" = some (some (.ref f_Fence_lets))) (i_Fence_lets : PySem.W.isFn K (.ref f_Fence_lets) = true) (n_Fence_lets : PySem.W.fnIn K f_Fence_lets = true)
    (l_Fence_lets : K.lookup f_Fence_lets = some ⟨oc_Fence_lets, od_Fence_lets, .func (PySem.W.fnOf "lets" "Fence.lets" (defArgs s_Fence_lets) (defBody s_Fence_lets) (defScope s_Fence_lets) .none kV_Fence_lets dc_Fence_lets pm_Fence_lets an_Fence_lets cd_Fence_lets ct_Fence_lets), sl_Fence_lets⟩) (c_Fence_lets : PySem.W.codeIn K cd_Fence_lets "Fence.lets" = true) (k_Fence_lets : PySem.W.keepIn K (.ref f_Fence_lets) = true)
    {od_Fence___le__ an_Fence___le__ : Option Addr} {sl_Fence___le__ : Array (Option Value)} {oc_Fence___le__ kV_Fence___le__ dc_Fence___le__ pm_Fence___le__ cd_Fence___le__ ct_Fence___le__ : Value}
    (a_Fence___le__ : PySem.W.findIn K (.ref C_Fence) "__le__" = some (some (.ref f_Fence___le__))) (i_Fence___le__ : PySem.W.isFn K (.ref f_Fence___le__) = true) (n_Fence___le__ : PySem.W.fnIn K f_Fence___le__ = true)
    (l_Fence___le__ : K.lookup f_Fence___le__ = some ⟨oc_Fence___le__, od_Fence___le__, .func (PySem.W.fnOf "__le__" "Fence.__le__" (defArgs s_Fence___le__) (defBody s_Fence___le__) (defScope s_Fence___le__) .none kV_Fence___le__ dc_Fence___le__ pm_Fence___le__ an_Fence___le__ cd_Fence___le__ ct_Fence___le__), sl_Fence___le__⟩) (c_Fence___le__ : PySem.W.codeIn K cd_Fence___le__ "Fence.__le__" = true) (k_Fence___le__ : PySem.W.keepIn K (.ref f_Fence___le__) = true)
    (aC_Own : PySem.W.nsIn K mainGlobals "Own" = some (some (.ref C_Own))) (pg_Own : PySem.W.plainGet K C_Own Str.empty = true) (hd_Own : PySem.W.hasDictIn K C_Own = true) (po_Own : PySem.W.plainOver K C_Own = true) (sa_Own : PySem.W.findIn K (.ref C_Own) "__setattr__" = some (some (.builtin "object.__setattr__"))) (mk_Own : PySem.W.makesIn K C_Own = true) (kc_Own : PySem.W.keepIn K (.ref C_Own) = true) (nf_Own : PySem.W.notFirst K C_Own (.ref C_Own) = true) (ih_Own : PySem.W.findIn K (.ref C_Own) "__class__" = some (some (.builtin "object.__class__"))) (ig_Own : PySem.W.specialIn K (.builtin "object.__class__") "__get__" = some (some (.builtin "getset_descriptor.__get__"))) (it_Own : PySem.W.takesIn K (.builtin "object.__class__") = some true) (io_Own : PySem.W.mroIn K C_Own (.type "object") = some true) (ik_Own : PySem.W.kitOne K (.ref C_Own) (.ref C_Own) = some true)
    (mi_Own : PySem.W.findIn K (.ref C_Own) "__init__" = some (some (.builtin "object.__init__"))) (ge_Own : PySem.W.findIn K (.ref C_Own) "__ge__" = some (some (.builtin "object.__ge__")))
    {od_Own_lets an_Own_lets : Option Addr} {sl_Own_lets : Array (Option Value)} {oc_Own_lets kV_Own_lets dc_Own_lets pm_Own_lets cd_Own_lets ct_Own_lets : Value}
    (a_Own_lets : PySem.W.findIn K (.ref C_Own) "lets" = some (some (.ref f_Own_lets))) (i_Own_lets : PySem.W.isFn K (.ref f_Own_lets) = true) (n_Own_lets : PySem.W.fnIn K f_Own_lets = true)
    (l_Own_lets : K.lookup f_Own_lets = some ⟨oc_Own_lets, od_Own_lets, .func (PySem.W.fnOf "lets" "Own.lets" (defArgs s_Own_lets) (defBody s_Own_lets) (defScope s_Own_lets) .none kV_Own_lets dc_Own_lets pm_Own_lets an_Own_lets cd_Own_lets ct_Own_lets), sl_Own_lets⟩) (c_Own_lets : PySem.W.codeIn K cd_Own_lets "Own.lets" = true) (k_Own_lets : PySem.W.keepIn K (.ref f_Own_lets) = true)
    {od_Own___le__ an_Own___le__ : Option Addr} {sl_Own___le__ : Array (Option Value)} {oc_Own___le__ kV_Own___le__ dc_Own___le__ pm_Own___le__ cd_Own___le__ ct_Own___le__ : Value}
    (a_Own___le__ : PySem.W.findIn K (.ref C_Own) "__le__" = some (some (.ref f_Own___le__))) (i_Own___le__ : PySem.W.isFn K (.ref f_Own___le__) = true) (n_Own___le__ : PySem.W.fnIn K f_Own___le__ = true)
    (l_Own___le__ : K.lookup f_Own___le__ = some ⟨oc_Own___le__, od_Own___le__, .func (PySem.W.fnOf "__le__" "Own.__le__" (defArgs s_Own___le__) (defBody s_Own___le__) (defScope s_Own___le__) .none kV_Own___le__ dc_Own___le__ pm_Own___le__ an_Own___le__ cd_Own___le__ ct_Own___le__), sl_Own___le__⟩) (c_Own___le__ : PySem.W.codeIn K cd_Own___le__ "Own.__le__" = true) (k_Own___le__ : PySem.W.keepIn K (.ref f_Own___le__) = true)
    (aC_Same : PySem.W.nsIn K mainGlobals "Same" = some (some (.ref C_Same))) (pg_Same : PySem.W.plainGet K C_Same Str.empty = true) (hd_Same : PySem.W.hasDictIn K C_Same = true) (po_Same : PySem.W.plainOver K C_Same = true) (sa_Same : PySem.W.findIn K (.ref C_Same) "__setattr__" = some (some (.builtin "object.__setattr__"))) (mk_Same : PySem.W.makesIn K C_Same = true) (kc_Same : PySem.W.keepIn K (.ref C_Same) = true) (nf_Same : PySem.W.notFirst K C_Same (.ref C_Same) = true) (ih_Same : PySem.W.findIn K (.ref C_Same) "__class__" = some (some (.builtin "object.__class__"))) (ig_Same : PySem.W.specialIn K (.builtin "object.__class__") "__get__" = some (some (.builtin "getset_descriptor.__get__"))) (it_Same : PySem.W.takesIn K (.builtin "object.__class__") = some true) (io_Same : PySem.W.mroIn K C_Same (.type "object") = some true) (ik_Same : PySem.W.kitOne K (.ref C_Same) (.ref C_Same) = some true)
    (mi_Same : PySem.W.findIn K (.ref C_Same) "__init__" = some (some (.builtin "object.__init__"))) (ge_Same : PySem.W.findIn K (.ref C_Same) "__ge__" = some (some (.builtin "object.__ge__")))
    {od_Same_lets an_Same_lets : Option Addr} {sl_Same_lets : Array (Option Value)} {oc_Same_lets kV_Same_lets dc_Same_lets pm_Same_lets cd_Same_lets ct_Same_lets : Value}
    (a_Same_lets : PySem.W.findIn K (.ref C_Same) "lets" = some (some (.ref f_Same_lets))) (i_Same_lets : PySem.W.isFn K (.ref f_Same_lets) = true) (n_Same_lets : PySem.W.fnIn K f_Same_lets = true)
    (l_Same_lets : K.lookup f_Same_lets = some ⟨oc_Same_lets, od_Same_lets, .func (PySem.W.fnOf "lets" "Same.lets" (defArgs s_Same_lets) (defBody s_Same_lets) (defScope s_Same_lets) .none kV_Same_lets dc_Same_lets pm_Same_lets an_Same_lets cd_Same_lets ct_Same_lets), sl_Same_lets⟩) (c_Same_lets : PySem.W.codeIn K cd_Same_lets "Same.lets" = true) (k_Same_lets : PySem.W.keepIn K (.ref f_Same_lets) = true)
    {od_Same___le__ an_Same___le__ : Option Addr} {sl_Same___le__ : Array (Option Value)} {oc_Same___le__ kV_Same___le__ dc_Same___le__ pm_Same___le__ cd_Same___le__ ct_Same___le__ : Value}
    (a_Same___le__ : PySem.W.findIn K (.ref C_Same) "__le__" = some (some (.ref f_Same___le__))) (i_Same___le__ : PySem.W.isFn K (.ref f_Same___le__) = true) (n_Same___le__ : PySem.W.fnIn K f_Same___le__ = true)
    (l_Same___le__ : K.lookup f_Same___le__ = some ⟨oc_Same___le__, od_Same___le__, .func (PySem.W.fnOf "__le__" "Same.__le__" (defArgs s_Same___le__) (defBody s_Same___le__) (defScope s_Same___le__) .none kV_Same___le__ dc_Same___le__ pm_Same___le__ an_Same___le__ cd_Same___le__ ct_Same___le__), sl_Same___le__⟩) (c_Same___le__ : PySem.W.codeIn K cd_Same___le__ "Same.__le__" = true) (k_Same___le__ : PySem.W.keepIn K (.ref f_Same___le__) = true)
    (aC_Both : PySem.W.nsIn K mainGlobals "Both" = some (some (.ref C_Both))) (pg_Both : PySem.W.plainGet K C_Both Str.empty = true) (hd_Both : PySem.W.hasDictIn K C_Both = true) (po_Both : PySem.W.plainOver K C_Both = true) (sa_Both : PySem.W.findIn K (.ref C_Both) "__setattr__" = some (some (.builtin "object.__setattr__"))) (mk_Both : PySem.W.makesIn K C_Both = true) (kc_Both : PySem.W.keepIn K (.ref C_Both) = true) (nf_Both : PySem.W.notFirst K C_Both (.ref C_Both) = true) (ih_Both : PySem.W.findIn K (.ref C_Both) "__class__" = some (some (.builtin "object.__class__"))) (ig_Both : PySem.W.specialIn K (.builtin "object.__class__") "__get__" = some (some (.builtin "getset_descriptor.__get__"))) (it_Both : PySem.W.takesIn K (.builtin "object.__class__") = some true) (io_Both : PySem.W.mroIn K C_Both (.type "object") = some true) (ik_Both : PySem.W.kitOne K (.ref C_Both) (.ref C_Both) = some true)
    (mi_Both : PySem.W.findIn K (.ref C_Both) "__init__" = some (some (.builtin "object.__init__"))) (ge_Both : PySem.W.findIn K (.ref C_Both) "__ge__" = some (some (.builtin "object.__ge__")))
    {od_Both_lets an_Both_lets : Option Addr} {sl_Both_lets : Array (Option Value)} {oc_Both_lets kV_Both_lets dc_Both_lets pm_Both_lets cd_Both_lets ct_Both_lets : Value}
    (a_Both_lets : PySem.W.findIn K (.ref C_Both) "lets" = some (some (.ref f_Both_lets))) (i_Both_lets : PySem.W.isFn K (.ref f_Both_lets) = true) (n_Both_lets : PySem.W.fnIn K f_Both_lets = true)
    (l_Both_lets : K.lookup f_Both_lets = some ⟨oc_Both_lets, od_Both_lets, .func (PySem.W.fnOf "lets" "Both.lets" (defArgs s_Both_lets) (defBody s_Both_lets) (defScope s_Both_lets) .none kV_Both_lets dc_Both_lets pm_Both_lets an_Both_lets cd_Both_lets ct_Both_lets), sl_Both_lets⟩) (c_Both_lets : PySem.W.codeIn K cd_Both_lets "Both.lets" = true) (k_Both_lets : PySem.W.keepIn K (.ref f_Both_lets) = true)
    {od_Both___le__ an_Both___le__ : Option Addr} {sl_Both___le__ : Array (Option Value)} {oc_Both___le__ kV_Both___le__ dc_Both___le__ pm_Both___le__ cd_Both___le__ ct_Both___le__ : Value}
    (a_Both___le__ : PySem.W.findIn K (.ref C_Both) "__le__" = some (some (.ref f_Both___le__))) (i_Both___le__ : PySem.W.isFn K (.ref f_Both___le__) = true) (n_Both___le__ : PySem.W.fnIn K f_Both___le__ = true)
    (l_Both___le__ : K.lookup f_Both___le__ = some ⟨oc_Both___le__, od_Both___le__, .func (PySem.W.fnOf "__le__" "Both.__le__" (defArgs s_Both___le__) (defBody s_Both___le__) (defScope s_Both___le__) .none kV_Both___le__ dc_Both___le__ pm_Both___le__ an_Both___le__ cd_Both___le__ ct_Both___le__), sl_Both___le__⟩) (c_Both___le__ : PySem.W.codeIn K cd_Both___le__ "Both.__le__" = true) (k_Both___le__ : PySem.W.keepIn K (.ref f_Both___le__) = true)
    (aC_Last : PySem.W.nsIn K mainGlobals "Last" = some (some (.ref C_Last))) (pg_Last : PySem.W.plainGet K C_Last Str.empty = true) (hd_Last : PySem.W.hasDictIn K C_Last = true) (po_Last : PySem.W.plainOver K C_Last = true) (sa_Last : PySem.W.findIn K (.ref C_Last) "__setattr__" = some (some (.builtin "object.__setattr__"))) (mk_Last : PySem.W.makesIn K C_Last = true) (kc_Last : PySem.W.keepIn K (.ref C_Last) = true) (nf_Last : PySem.W.notFirst K C_Last (.ref C_Last) = true) (ih_Last : PySem.W.findIn K (.ref C_Last) "__class__" = some (some (.builtin "object.__class__"))) (ig_Last : PySem.W.specialIn K (.builtin "object.__class__") "__get__" = some (some (.builtin "getset_descriptor.__get__"))) (it_Last : PySem.W.takesIn K (.builtin "object.__class__") = some true) (io_Last : PySem.W.mroIn K C_Last (.type "object") = some true) (ik_Last : PySem.W.kitOne K (.ref C_Last) (.ref C_Last) = some true)
    (mi_Last : PySem.W.findIn K (.ref C_Last) "__init__" = some (some (.builtin "object.__init__"))) (ge_Last : PySem.W.findIn K (.ref C_Last) "__ge__" = some (some (.builtin "object.__ge__")))
    {od_Last_lets an_Last_lets : Option Addr} {sl_Last_lets : Array (Option Value)} {oc_Last_lets kV_Last_lets dc_Last_lets pm_Last_lets cd_Last_lets ct_Last_lets : Value}
    (a_Last_lets : PySem.W.findIn K (.ref C_Last) "lets" = some (some (.ref f_Last_lets))) (i_Last_lets : PySem.W.isFn K (.ref f_Last_lets) = true) (n_Last_lets : PySem.W.fnIn K f_Last_lets = true)
    (l_Last_lets : K.lookup f_Last_lets = some ⟨oc_Last_lets, od_Last_lets, .func (PySem.W.fnOf "lets" "Last.lets" (defArgs s_Last_lets) (defBody s_Last_lets) (defScope s_Last_lets) .none kV_Last_lets dc_Last_lets pm_Last_lets an_Last_lets cd_Last_lets ct_Last_lets), sl_Last_lets⟩) (c_Last_lets : PySem.W.codeIn K cd_Last_lets "Last.lets" = true) (k_Last_lets : PySem.W.keepIn K (.ref f_Last_lets) = true)
    {od_Last___le__ an_Last___le__ : Option Addr} {sl_Last___le__ : Array (Option Value)} {oc_Last___le__ kV_Last___le__ dc_Last___le__ pm_Last___le__ cd_Last___le__ ct_Last___le__ : Value}
    (a_Last___le__ : PySem.W.findIn K (.ref C_Last) "__le__" = some (some (.ref f_Last___le__))) (i_Last___le__ : PySem.W.isFn K (.ref f_Last___le__) = true) (n_Last___le__ : PySem.W.fnIn K f_Last___le__ = true)
    (l_Last___le__ : K.lookup f_Last___le__ = some ⟨oc_Last___le__, od_Last___le__, .func (PySem.W.fnOf "__le__" "Last.__le__" (defArgs s_Last___le__) (defBody s_Last___le__) (defScope s_Last___le__) .none kV_Last___le__ dc_Last___le__ pm_Last___le__ an_Last___le__ cd_Last___le__ ct_Last___le__), sl_Last___le__⟩) (c_Last___le__ : PySem.W.codeIn K cd_Last___le__ "Last.__le__" = true) (k_Last___le__ : PySem.W.keepIn K (.ref f_Last___le__) = true)
    (aC_ScreenError : PySem.W.nsIn K mainGlobals "ScreenError" = some (some (.ref C_ScreenError))) (hd_ScreenError : PySem.W.hasDictIn K C_ScreenError = true) (ty_ScreenError : PySem.W.typeIn K (.ref C_ScreenError) = some (.type "type")) (be_ScreenError : PySem.W.subIn K (.ref C_ScreenError) (.type "BaseException") = some true) (vb_ScreenError : PySem.W.subIn K (.ref C_ScreenError) (.type "ValueError") = some true)
    (aC_BadFence : PySem.W.nsIn K mainGlobals "BadFence" = some (some (.ref C_BadFence))) (hd_BadFence : PySem.W.hasDictIn K C_BadFence = true) (ty_BadFence : PySem.W.typeIn K (.ref C_BadFence) = some (.type "type")) (be_BadFence : PySem.W.subIn K (.ref C_BadFence) (.type "BaseException") = some true) (vb_BadFence : PySem.W.subIn K (.ref C_BadFence) (.type "ValueError") = some true)
    {nm_BadFence q_BadFence : Str} {N_BadFence : Addr} {bs_BadFence bm_BadFence : List Value} {sn_BadFence : List Str} {sub_BadFence : List Value} {ab_BadFence : Bool} {col_BadFence : Option Bool} {dd_BadFence : Option Addr} {k0_BadFence k1_BadFence k2_BadFence k3_BadFence k5_BadFence : Option Value} (lx_BadFence : K.lookup C_BadFence = some (excClassObj nm_BadFence q_BadFence C_BadFence N_BadFence bs_BadFence bm_BadFence true sn_BadFence sub_BadFence ab_BadFence col_BadFence dd_BadFence k0_BadFence k1_BadFence k2_BadFence k3_BadFence k5_BadFence "ValueError.__new__")) (rv_BadFence : PySem.HandSPX.refsVE bm_BadFence = true)
    (sa_BadFence : PySem.W.findIn K (.ref C_BadFence) "__setattr__" = some (some (.builtin "object.__setattr__"))) (kc_BadFence : PySem.W.keepIn K (.ref C_BadFence) = true) (ga_BadFence : PySem.W.findIn K (.ref C_BadFence) "__getattribute__" = some (some (.builtin "BaseException.__getattribute__"))) (gg_BadFence : PySem.W.findIn K (.ref C_BadFence) "__getattr__" = some none) (ca_BadFence : PySem.W.findIn K (.ref C_BadFence) "__class__" = some (some (.builtin "object.__class__"))) (cg_BadFence : PySem.W.specialIn K (.builtin "object.__class__") "__get__" = some (some (.builtin "getset_descriptor.__get__"))) (ck_BadFence : PySem.W.takesIn K (.builtin "object.__class__") = some true) (mo_BadFence : PySem.W.mroIn K C_BadFence (.type "object") = some true)
    {od_BadFence___init__ an_BadFence___init__ : Option Addr} {sl_BadFence___init__ : Array (Option Value)} {oc_BadFence___init__ kV_BadFence___init__ dc_BadFence___init__ pm_BadFence___init__ cd_BadFence___init__ ct_BadFence___init__ : Value} (iC_BadFence : PySem.W.findIn K (.ref C_BadFence) "__init__" = some (some (.ref f_BadFence___init__))) (tI_BadFence : PySem.W.typeIn K (.ref f_BadFence___init__) = some (.type "function"))
    (l_BadFence___init__ : K.lookup f_BadFence___init__ = some ⟨oc_BadFence___init__, od_BadFence___init__, .func (PySem.W.fnOf "__init__" "BadFence.__init__" (defArgs s_BadFence___init__) (defBody s_BadFence___init__) (defScope s_BadFence___init__) .none kV_BadFence___init__ dc_BadFence___init__ pm_BadFence___init__ an_BadFence___init__ cd_BadFence___init__ ct_BadFence___init__), sl_BadFence___init__⟩) (c_BadFence___init__ : PySem.W.codeIn K cd_BadFence___init__ "BadFence.__init__" = true) (k_BadFence___init__ : PySem.W.keepIn K (.ref f_BadFence___init__) = true)
    (nf_BadFence_fence : PySem.W.findIn K (.ref C_BadFence) "fence" = some none)
    (aC_NoAnswer : PySem.W.nsIn K mainGlobals "NoAnswer" = some (some (.ref C_NoAnswer))) (hd_NoAnswer : PySem.W.hasDictIn K C_NoAnswer = true) (ty_NoAnswer : PySem.W.typeIn K (.ref C_NoAnswer) = some (.type "type")) (be_NoAnswer : PySem.W.subIn K (.ref C_NoAnswer) (.type "BaseException") = some true) (vb_NoAnswer : PySem.W.subIn K (.ref C_NoAnswer) (.type "ValueError") = some true)
    {nm_NoAnswer q_NoAnswer : Str} {N_NoAnswer : Addr} {bs_NoAnswer bm_NoAnswer : List Value} {sn_NoAnswer : List Str} {sub_NoAnswer : List Value} {ab_NoAnswer : Bool} {col_NoAnswer : Option Bool} {dd_NoAnswer : Option Addr} {k0_NoAnswer k1_NoAnswer k2_NoAnswer k3_NoAnswer k5_NoAnswer : Option Value} (lx_NoAnswer : K.lookup C_NoAnswer = some (excClassObj nm_NoAnswer q_NoAnswer C_NoAnswer N_NoAnswer bs_NoAnswer bm_NoAnswer true sn_NoAnswer sub_NoAnswer ab_NoAnswer col_NoAnswer dd_NoAnswer k0_NoAnswer k1_NoAnswer k2_NoAnswer k3_NoAnswer k5_NoAnswer "ValueError.__new__")) (rv_NoAnswer : PySem.HandSPX.refsVE bm_NoAnswer = true)
    (sa_NoAnswer : PySem.W.findIn K (.ref C_NoAnswer) "__setattr__" = some (some (.builtin "object.__setattr__"))) (kc_NoAnswer : PySem.W.keepIn K (.ref C_NoAnswer) = true) (ga_NoAnswer : PySem.W.findIn K (.ref C_NoAnswer) "__getattribute__" = some (some (.builtin "BaseException.__getattribute__"))) (gg_NoAnswer : PySem.W.findIn K (.ref C_NoAnswer) "__getattr__" = some none) (ca_NoAnswer : PySem.W.findIn K (.ref C_NoAnswer) "__class__" = some (some (.builtin "object.__class__"))) (cg_NoAnswer : PySem.W.specialIn K (.builtin "object.__class__") "__get__" = some (some (.builtin "getset_descriptor.__get__"))) (ck_NoAnswer : PySem.W.takesIn K (.builtin "object.__class__") = some true) (mo_NoAnswer : PySem.W.mroIn K C_NoAnswer (.type "object") = some true)
    {od_NoAnswer___init__ an_NoAnswer___init__ : Option Addr} {sl_NoAnswer___init__ : Array (Option Value)} {oc_NoAnswer___init__ kV_NoAnswer___init__ dc_NoAnswer___init__ pm_NoAnswer___init__ cd_NoAnswer___init__ ct_NoAnswer___init__ : Value} (iC_NoAnswer : PySem.W.findIn K (.ref C_NoAnswer) "__init__" = some (some (.ref f_NoAnswer___init__))) (tI_NoAnswer : PySem.W.typeIn K (.ref f_NoAnswer___init__) = some (.type "function"))
    (l_NoAnswer___init__ : K.lookup f_NoAnswer___init__ = some ⟨oc_NoAnswer___init__, od_NoAnswer___init__, .func (PySem.W.fnOf "__init__" "NoAnswer.__init__" (defArgs s_NoAnswer___init__) (defBody s_NoAnswer___init__) (defScope s_NoAnswer___init__) .none kV_NoAnswer___init__ dc_NoAnswer___init__ pm_NoAnswer___init__ an_NoAnswer___init__ cd_NoAnswer___init__ ct_NoAnswer___init__), sl_NoAnswer___init__⟩) (c_NoAnswer___init__ : PySem.W.codeIn K cd_NoAnswer___init__ "NoAnswer.__init__" = true) (k_NoAnswer___init__ : PySem.W.keepIn K (.ref f_NoAnswer___init__) = true)
    (nf_NoAnswer_number : PySem.W.findIn K (.ref C_NoAnswer) "number" = some none)
    (ne_BadFence_ScreenError : C_BadFence ≠ C_ScreenError) (s_BadFence_ScreenError : PySem.W.subIn K (.ref C_BadFence) (.ref C_ScreenError) = some true)
    (ne_BadFence_NoAnswer : C_BadFence ≠ C_NoAnswer) (s_BadFence_NoAnswer : PySem.W.subIn K (.ref C_BadFence) (.ref C_NoAnswer) = some false)
    (ne_NoAnswer_ScreenError : C_NoAnswer ≠ C_ScreenError) (s_NoAnswer_ScreenError : PySem.W.subIn K (.ref C_NoAnswer) (.ref C_ScreenError) = some true)
    (ne_NoAnswer_BadFence : C_NoAnswer ≠ C_BadFence) (s_NoAnswer_BadFence : PySem.W.subIn K (.ref C_NoAnswer) (.ref C_BadFence) = some false)
    (sub_Fence_Fence : PySem.W.subIn K (.ref C_Fence) (.ref C_Fence) = some true) (kit_Fence_Fence : PySem.W.kitOne K (.ref C_Fence) (.ref C_Fence) = some true)
    (sub_Fence_Own : PySem.W.subIn K (.ref C_Fence) (.ref C_Own) = some false) (kit_Fence_Own : PySem.W.kitOne K (.ref C_Fence) (.ref C_Own) = some false)
    (sub_Fence_Same : PySem.W.subIn K (.ref C_Fence) (.ref C_Same) = some false) (kit_Fence_Same : PySem.W.kitOne K (.ref C_Fence) (.ref C_Same) = some false)
    (sub_Fence_Both : PySem.W.subIn K (.ref C_Fence) (.ref C_Both) = some false) (kit_Fence_Both : PySem.W.kitOne K (.ref C_Fence) (.ref C_Both) = some false)
    (sub_Fence_Last : PySem.W.subIn K (.ref C_Fence) (.ref C_Last) = some false) (kit_Fence_Last : PySem.W.kitOne K (.ref C_Fence) (.ref C_Last) = some false)
    (sub_Own_Fence : PySem.W.subIn K (.ref C_Own) (.ref C_Fence) = some true) (kit_Own_Fence : PySem.W.kitOne K (.ref C_Own) (.ref C_Fence) = some true)
    (sub_Own_Own : PySem.W.subIn K (.ref C_Own) (.ref C_Own) = some true) (kit_Own_Own : PySem.W.kitOne K (.ref C_Own) (.ref C_Own) = some true)
    (sub_Own_Same : PySem.W.subIn K (.ref C_Own) (.ref C_Same) = some false) (kit_Own_Same : PySem.W.kitOne K (.ref C_Own) (.ref C_Same) = some false)
    (sub_Own_Both : PySem.W.subIn K (.ref C_Own) (.ref C_Both) = some false) (kit_Own_Both : PySem.W.kitOne K (.ref C_Own) (.ref C_Both) = some false)
    (sub_Own_Last : PySem.W.subIn K (.ref C_Own) (.ref C_Last) = some false) (kit_Own_Last : PySem.W.kitOne K (.ref C_Own) (.ref C_Last) = some false)
    (sub_Same_Fence : PySem.W.subIn K (.ref C_Same) (.ref C_Fence) = some true) (kit_Same_Fence : PySem.W.kitOne K (.ref C_Same) (.ref C_Fence) = some true)
    (sub_Same_Own : PySem.W.subIn K (.ref C_Same) (.ref C_Own) = some false) (kit_Same_Own : PySem.W.kitOne K (.ref C_Same) (.ref C_Own) = some false)
    (sub_Same_Same : PySem.W.subIn K (.ref C_Same) (.ref C_Same) = some true) (kit_Same_Same : PySem.W.kitOne K (.ref C_Same) (.ref C_Same) = some true)
    (sub_Same_Both : PySem.W.subIn K (.ref C_Same) (.ref C_Both) = some false) (kit_Same_Both : PySem.W.kitOne K (.ref C_Same) (.ref C_Both) = some false)
    (sub_Same_Last : PySem.W.subIn K (.ref C_Same) (.ref C_Last) = some false) (kit_Same_Last : PySem.W.kitOne K (.ref C_Same) (.ref C_Last) = some false)
    (sub_Both_Fence : PySem.W.subIn K (.ref C_Both) (.ref C_Fence) = some true) (kit_Both_Fence : PySem.W.kitOne K (.ref C_Both) (.ref C_Fence) = some true)
    (sub_Both_Own : PySem.W.subIn K (.ref C_Both) (.ref C_Own) = some true) (kit_Both_Own : PySem.W.kitOne K (.ref C_Both) (.ref C_Own) = some true)
    (sub_Both_Same : PySem.W.subIn K (.ref C_Both) (.ref C_Same) = some true) (kit_Both_Same : PySem.W.kitOne K (.ref C_Both) (.ref C_Same) = some true)
    (sub_Both_Both : PySem.W.subIn K (.ref C_Both) (.ref C_Both) = some true) (kit_Both_Both : PySem.W.kitOne K (.ref C_Both) (.ref C_Both) = some true)
    (sub_Both_Last : PySem.W.subIn K (.ref C_Both) (.ref C_Last) = some false) (kit_Both_Last : PySem.W.kitOne K (.ref C_Both) (.ref C_Last) = some false)
    (sub_Last_Fence : PySem.W.subIn K (.ref C_Last) (.ref C_Fence) = some true) (kit_Last_Fence : PySem.W.kitOne K (.ref C_Last) (.ref C_Fence) = some true)
    (sub_Last_Own : PySem.W.subIn K (.ref C_Last) (.ref C_Own) = some false) (kit_Last_Own : PySem.W.kitOne K (.ref C_Last) (.ref C_Own) = some false)
    (sub_Last_Same : PySem.W.subIn K (.ref C_Last) (.ref C_Same) = some false) (kit_Last_Same : PySem.W.kitOne K (.ref C_Last) (.ref C_Same) = some false)
    (sub_Last_Both : PySem.W.subIn K (.ref C_Last) (.ref C_Both) = some false) (kit_Last_Both : PySem.W.kitOne K (.ref C_Last) (.ref C_Both) = some false)
    (sub_Last_Last : PySem.W.subIn K (.ref C_Last) (.ref C_Last) = some true) (kit_Last_Last : PySem.W.kitOne K (.ref C_Last) (.ref C_Last) = some true)
    (z_ValueError : PySem.W.nsIn K mainGlobals "ValueError" = some none)
    (z_abs : PySem.W.nsIn K mainGlobals "abs" = some none)
    (z_all : PySem.W.nsIn K mainGlobals "all" = some none)
    (z_bool : PySem.W.nsIn K mainGlobals "bool" = some none)
    (z_enumerate : PySem.W.nsIn K mainGlobals "enumerate" = some none)
    (z_int : PySem.W.nsIn K mainGlobals "int" = some none)
    (z_isinstance : PySem.W.nsIn K mainGlobals "isinstance" = some none)
    (z_len : PySem.W.nsIn K mainGlobals "len" = some none)
    (z_list : PySem.W.nsIn K mainGlobals "list" = some none)
    (z_range : PySem.W.nsIn K mainGlobals "range" = some none)
    (z_tuple : PySem.W.nsIn K mainGlobals "tuple" = some none)
    {pF : Addr} {arF : Array Value} {nF : Nat} (uF : PySem.W.nsIn K mainGlobals "FENCES" = some (some (.ref pF))) (lF : K.lookup pF = some ⟨.type "tuple", none, .seq arF nF, #[]⟩) (vF : Vals (words.map V.str) arF.toList)
    {p_any : Addr} {ar_any : Array Value} {n_any : Nat} (u_any : PySem.W.findIn K (.ref C_Fence) "READS" = some (some (.ref p_any))) (w_any : PySem.W.specialIn K (.ref p_any) "__get__" = some none) (l_any : K.lookup p_any = some ⟨.type "tuple", none, .seq ar_any n_any, #[]⟩) (v_any : Vals (Wd.any.reads.map V.str) ar_any.toList)
    {p_own : Addr} {ar_own : Array Value} {n_own : Nat} (u_own : PySem.W.findIn K (.ref C_Own) "READS" = some (some (.ref p_own))) (w_own : PySem.W.specialIn K (.ref p_own) "__get__" = some none) (l_own : K.lookup p_own = some ⟨.type "tuple", none, .seq ar_own n_own, #[]⟩) (v_own : Vals (Wd.own.reads.map V.str) ar_own.toList)
    {p_same : Addr} {ar_same : Array Value} {n_same : Nat} (u_same : PySem.W.findIn K (.ref C_Same) "READS" = some (some (.ref p_same))) (w_same : PySem.W.specialIn K (.ref p_same) "__get__" = some none) (l_same : K.lookup p_same = some ⟨.type "tuple", none, .seq ar_same n_same, #[]⟩) (v_same : Vals (Wd.same.reads.map V.str) ar_same.toList)
    {p_both : Addr} {ar_both : Array Value} {n_both : Nat} (u_both : PySem.W.findIn K (.ref C_Both) "READS" = some (some (.ref p_both))) (w_both : PySem.W.specialIn K (.ref p_both) "__get__" = some none) (l_both : K.lookup p_both = some ⟨.type "tuple", none, .seq ar_both n_both, #[]⟩) (v_both : Vals (Wd.both.reads.map V.str) ar_both.toList)
    {p_last : Addr} {ar_last : Array Value} {n_last : Nat} (u_last : PySem.W.findIn K (.ref C_Last) "READS" = some (some (.ref p_last))) (w_last : PySem.W.specialIn K (.ref p_last) "__get__" = some none) (l_last : K.lookup p_last = some ⟨.type "tuple", none, .seq ar_last n_last, #[]⟩) (v_last : Vals (Wd.last.reads.map V.str) ar_last.toList) :
    ∃ fd : FuncData, (∀ (s : Shared) (v : Value), BindsTo s fd ⟨[v], []⟩ [("_law_script", v)]) ∧ ∀ base : Heap, K.In base → base.Ns mainGlobals mg → FnOk l.prog w K mg base CX0 20 fa fd ["_law_script"] (sp_law K) := by
  have e := hfa.symm.trans (PySem.W.mg_of X G a_law)
  cases e
  let T : Txt K mg := { f__wall := f__wall, d__wall := _, F__wall := fun_mk (st := s__wall) l__wall c__wall k__wall, b__wall := (fun_mk (st := s__wall) l__wall c__wall k__wall).binds fun _ _ _ _ _ _ us hl => match us, hl with | [_], _ => rfl, g__wall := PySem.W.mg_of X G a__wall, f__reads_no_less := f__reads_no_less, d__reads_no_less := _, F__reads_no_less := fun_mk (st := s__reads_no_less) l__reads_no_less c__reads_no_less k__reads_no_less, b__reads_no_less := (fun_mk (st := s__reads_no_less) l__reads_no_less c__reads_no_less k__reads_no_less).binds fun _ _ _ _ _ _ us hl => match us, hl with | [_, _], _ => rfl, g__reads_no_less := PySem.W.mg_of X G a__reads_no_less, f_fence_of := f_fence_of, d_fence_of := _, F_fence_of := fun_mk (st := s_fence_of) l_fence_of c_fence_of k_fence_of, b_fence_of := (fun_mk (st := s_fence_of) l_fence_of c_fence_of k_fence_of).binds fun _ _ _ _ _ _ us hl => match us, hl with | [_], _ => rfl, g_fence_of := PySem.W.mg_of X G a_fence_of, f__law_mixed := f__law_mixed, d__law_mixed := _, F__law_mixed := fun_mk (st := s__law_mixed) l__law_mixed c__law_mixed k__law_mixed, b__law_mixed := (fun_mk (st := s__law_mixed) l__law_mixed c__law_mixed k__law_mixed).binds fun _ _ _ _ _ _ us hl => match us, hl with | [_, _], _ => rfl, g__law_mixed := PySem.W.mg_of X G a__law_mixed, f__law_bag := f__law_bag, d__law_bag := _, F__law_bag := fun_mk (st := s__law_bag) l__law_bag c__law_bag k__law_bag, b__law_bag := (fun_mk (st := s__law_bag) l__law_bag c__law_bag k__law_bag).binds fun _ _ _ _ _ _ us hl => match us, hl with | [_], _ => rfl, g__law_bag := PySem.W.mg_of X G a__law_bag, f__law_pick := f__law_pick, d__law_pick := _, F__law_pick := fun_mk (st := s__law_pick) l__law_pick c__law_pick k__law_pick, b__law_pick := (fun_mk (st := s__law_pick) l__law_pick c__law_pick k__law_pick).binds fun _ _ _ _ _ _ us hl => match us, hl with | [_, _], _ => rfl, g__law_pick := PySem.W.mg_of X G a__law_pick, f__law_mingled := f__law_mingled, d__law_mingled := _, F__law_mingled := fun_mk (st := s__law_mingled) l__law_mingled c__law_mingled k__law_mingled, b__law_mingled := (fun_mk (st := s__law_mingled) l__law_mingled c__law_mingled k__law_mingled).binds fun _ _ _ _ _ _ us hl => match us, hl with | [_, _], _ => rfl, g__law_mingled := PySem.W.mg_of X G a__law_mingled, f__law_new_name := f__law_new_name, d__law_new_name := _, F__law_new_name := fun_mk (st := s__law_new_name) l__law_new_name c__law_new_name k__law_new_name, b__law_new_name := (fun_mk (st := s__law_new_name) l__law_new_name c__law_new_name k__law_new_name).binds fun _ _ _ _ _ _ us hl => match us, hl with | [_, _], _ => rfl, g__law_new_name := PySem.W.mg_of X G a__law_new_name, f__law_words := f__law_words, d__law_words := _, F__law_words := fun_mk (st := s__law_words) l__law_words c__law_words k__law_words, b__law_words := (fun_mk (st := s__law_words) l__law_words c__law_words k__law_words).binds fun _ _ _ _ _ _ us hl => match us, hl with | [], _ => rfl, g__law_words := PySem.W.mg_of X G a__law_words, f__law_lets := f__law_lets, d__law_lets := _, F__law_lets := fun_mk (st := s__law_lets) l__law_lets c__law_lets k__law_lets, b__law_lets := (fun_mk (st := s__law_lets) l__law_lets c__law_lets k__law_lets).binds fun _ _ _ _ _ _ us hl => match us, hl with | [_, _, _, _], _ => rfl, g__law_lets := PySem.W.mg_of X G a__law_lets, f__law_cases := f__law_cases, d__law_cases := _, F__law_cases := fun_mk (st := s__law_cases) l__law_cases c__law_cases k__law_cases, b__law_cases := (fun_mk (st := s__law_cases) l__law_cases c__law_cases k__law_cases).binds fun _ _ _ _ _ _ us hl => match us, hl with | [], _ => rfl, g__law_cases := PySem.W.mg_of X G a__law_cases, f__law_at_most := f__law_at_most, d__law_at_most := _, F__law_at_most := fun_mk (st := s__law_at_most) l__law_at_most c__law_at_most k__law_at_most, b__law_at_most := (fun_mk (st := s__law_at_most) l__law_at_most c__law_at_most k__law_at_most).binds fun _ _ _ _ _ _ us hl => match us, hl with | [_, _], _ => rfl, g__law_at_most := PySem.W.mg_of X G a__law_at_most, f__law_truth := f__law_truth, d__law_truth := _, F__law_truth := fun_mk (st := s__law_truth) l__law_truth c__law_truth k__law_truth, b__law_truth := (fun_mk (st := s__law_truth) l__law_truth c__law_truth k__law_truth).binds fun _ _ _ _ _ _ us hl => match us, hl with | [_, _], _ => rfl, g__law_truth := PySem.W.mg_of X G a__law_truth, f__law_any_number := f__law_any_number, d__law_any_number := _, F__law_any_number := fun_mk (st := s__law_any_number) l__law_any_number c__law_any_number k__law_any_number, b__law_any_number := (fun_mk (st := s__law_any_number) l__law_any_number c__law_any_number k__law_any_number).binds fun _ _ _ _ _ _ us hl => match us, hl with | [_], _ => rfl, g__law_any_number := PySem.W.mg_of X G a__law_any_number, f__law_other := f__law_other, d__law_other := _, F__law_other := fun_mk (st := s__law_other) l__law_other c__law_other k__law_other, b__law_other := (fun_mk (st := s__law_other) l__law_other c__law_other k__law_other).binds fun _ _ _ _ _ _ us hl => match us, hl with | [_, _], _ => rfl, g__law_other := PySem.W.mg_of X G a__law_other, f__law_entry := f__law_entry, d__law_entry := _, F__law_entry := fun_mk (st := s__law_entry) l__law_entry c__law_entry k__law_entry, b__law_entry := (fun_mk (st := s__law_entry) l__law_entry c__law_entry k__law_entry).binds fun _ _ _ _ _ _ us hl => match us, hl with | [_, _], _ => rfl, g__law_entry := PySem.W.mg_of X G a__law_entry, f__law_fields := f__law_fields, d__law_fields := _, F__law_fields := fun_mk (st := s__law_fields) l__law_fields c__law_fields k__law_fields, b__law_fields := (fun_mk (st := s__law_fields) l__law_fields c__law_fields k__law_fields).binds fun _ _ _ _ _ _ us hl => match us, hl with | [_], _ => rfl, g__law_fields := PySem.W.mg_of X G a__law_fields, f__law_asked := f__law_asked, d__law_asked := _, F__law_asked := fun_mk (st := s__law_asked) l__law_asked c__law_asked k__law_asked, b__law_asked := (fun_mk (st := s__law_asked) l__law_asked c__law_asked k__law_asked).binds fun _ _ _ _ _ _ us hl => match us, hl with | [_, _, _, _], _ => rfl, g__law_asked := PySem.W.mg_of X G a__law_asked, f__law_classes := f__law_classes, d__law_classes := _, F__law_classes := fun_mk (st := s__law_classes) l__law_classes c__law_classes k__law_classes, b__law_classes := (fun_mk (st := s__law_classes) l__law_classes c__law_classes k__law_classes).binds fun _ _ _ _ _ _ us hl => match us, hl with | [_], _ => rfl, g__law_classes := PySem.W.mg_of X G a__law_classes, f__law_none := f__law_none, d__law_none := _, F__law_none := fun_mk (st := s__law_none) l__law_none c__law_none k__law_none, b__law_none := (fun_mk (st := s__law_none) l__law_none c__law_none k__law_none).binds fun _ _ _ _ _ _ us hl => match us, hl with | [_], _ => rfl, g__law_none := PySem.W.mg_of X G a__law_none, f__law_refused := f__law_refused, d__law_refused := _, F__law_refused := fun_mk (st := s__law_refused) l__law_refused c__law_refused k__law_refused, b__law_refused := (fun_mk (st := s__law_refused) l__law_refused c__law_refused k__law_refused).binds fun _ _ _ _ _ _ us hl => match us, hl with | [_], _ => rfl, g__law_refused := PySem.W.mg_of X G a__law_refused, f_law := fa, d_law := _, F_law := fun_mk (st := s_law) l_law c_law k_law, b_law := (fun_mk (st := s_law) l_law c_law k_law).binds fun _ _ _ _ _ _ us hl => match us, hl with | [_], _ => rfl, g_law := PySem.W.mg_of X G a_law, C_Entry := C_Entry, g_Entry := PySem.W.mg_of X G aC_Entry, cl_Entry := ⟨pg_Entry, hd_Entry, po_Entry, sa_Entry⟩, mk_Entry := mk_Entry, kc_Entry := kc_Entry, nf_Entry := nf_Entry, in_Entry := ⟨⟨pg_Entry, hd_Entry, po_Entry, sa_Entry⟩, ih_Entry, ig_Entry, it_Entry, io_Entry, ik_Entry⟩, nA_Entry_answer := nA_Entry_answer, nA_Entry_owner := nA_Entry_owner, nA_Entry_question := nA_Entry_question, nA_Entry_ticket := nA_Entry_ticket, nA_Entry_who := nA_Entry_who, nA_Entry_word := nA_Entry_word, f_Entry___init__ := f_Entry___init__, d_Entry___init__ := _, F_Entry___init__ := fun_mk (st := s_Entry___init__) l_Entry___init__ c_Entry___init__ k_Entry___init__, b_Entry___init__ := (fun_mk (st := s_Entry___init__) l_Entry___init__ c_Entry___init__ k_Entry___init__).binds fun _ _ _ _ _ _ us hl => match us, hl with | [_, _, _, _, _, _, _], _ => rfl, a_Entry___init__ := a_Entry___init__, i_Entry___init__ := i_Entry___init__, n_Entry___init__ := n_Entry___init__, C_Line := C_Line, g_Line := PySem.W.mg_of X G aC_Line, cl_Line := ⟨pg_Line, hd_Line, po_Line, sa_Line⟩, mk_Line := mk_Line, kc_Line := kc_Line, nf_Line := nf_Line, in_Line := ⟨⟨pg_Line, hd_Line, po_Line, sa_Line⟩, ih_Line, ig_Line, it_Line, io_Line, ik_Line⟩, nA_Line__edition := nA_Line__edition, nA_Line__entries := nA_Line__entries, nA_Line__far := nA_Line__far, nA_Line__room := nA_Line__room, nA_Line__tickets := nA_Line__tickets, f_Line___init__ := f_Line___init__, d_Line___init__ := _, F_Line___init__ := fun_mk (st := s_Line___init__) l_Line___init__ c_Line___init__ k_Line___init__, b_Line___init__ := (fun_mk (st := s_Line___init__) l_Line___init__ c_Line___init__ k_Line___init__).binds fun _ _ _ _ _ _ us hl => match us, hl with | [_, _, _], _ => rfl, a_Line___init__ := a_Line___init__, i_Line___init__ := i_Line___init__, n_Line___init__ := n_Line___init__, f_Line_edition := f_Line_edition, d_Line_edition := _, F_Line_edition := fun_mk (st := s_Line_edition) l_Line_edition c_Line_edition k_Line_edition, b_Line_edition := (fun_mk (st := s_Line_edition) l_Line_edition c_Line_edition k_Line_edition).binds fun _ _ _ _ _ _ us hl => match us, hl with | [_], _ => rfl, p_Line_edition := p_Line_edition, P_Line_edition := ⟨a_Line_edition, ge_Line_edition, ta_Line_edition, ⟨_, re1_Line_edition⟩⟩, f_Line_send := f_Line_send, d_Line_send := _, F_Line_send := fun_mk (st := s_Line_send) l_Line_send c_Line_send k_Line_send, b_Line_send := (fun_mk (st := s_Line_send) l_Line_send c_Line_send k_Line_send).binds fun _ _ _ _ _ _ us hl => match us, hl with | [_, _, _, _, _], _ => rfl, a_Line_send := a_Line_send, i_Line_send := i_Line_send, n_Line_send := n_Line_send, f_Line_take := f_Line_take, d_Line_take := _, F_Line_take := fun_mk (st := s_Line_take) l_Line_take c_Line_take k_Line_take, b_Line_take := (fun_mk (st := s_Line_take) l_Line_take c_Line_take k_Line_take).binds fun _ _ _ _ _ _ us hl => match us, hl with | [_, _], _ => rfl, a_Line_take := a_Line_take, i_Line_take := i_Line_take, n_Line_take := n_Line_take, f_Line_entries := f_Line_entries, d_Line_entries := _, F_Line_entries := fun_mk (st := s_Line_entries) l_Line_entries c_Line_entries k_Line_entries, b_Line_entries := (fun_mk (st := s_Line_entries) l_Line_entries c_Line_entries k_Line_entries).binds fun _ _ _ _ _ _ us hl => match us, hl with | [_], _ => rfl, a_Line_entries := a_Line_entries, i_Line_entries := i_Line_entries, n_Line_entries := n_Line_entries, f_Line_turn := f_Line_turn, d_Line_turn := _, F_Line_turn := fun_mk (st := s_Line_turn) l_Line_turn c_Line_turn k_Line_turn, b_Line_turn := (fun_mk (st := s_Line_turn) l_Line_turn c_Line_turn k_Line_turn).binds fun _ _ _ _ _ _ us hl => match us, hl with | [_], _ => rfl, a_Line_turn := a_Line_turn, i_Line_turn := i_Line_turn, n_Line_turn := n_Line_turn, f_Line_has_next := f_Line_has_next, d_Line_has_next := _, F_Line_has_next := fun_mk (st := s_Line_has_next) l_Line_has_next c_Line_has_next k_Line_has_next, b_Line_has_next := (fun_mk (st := s_Line_has_next) l_Line_has_next c_Line_has_next k_Line_has_next).binds fun _ _ _ _ _ _ us hl => match us, hl with | [_], _ => rfl, a_Line_has_next := a_Line_has_next, i_Line_has_next := i_Line_has_next, n_Line_has_next := n_Line_has_next, f_Line_copy := f_Line_copy, d_Line_copy := _, F_Line_copy := fun_mk (st := s_Line_copy) l_Line_copy c_Line_copy k_Line_copy, b_Line_copy := (fun_mk (st := s_Line_copy) l_Line_copy c_Line_copy k_Line_copy).binds fun _ _ _ _ _ _ us hl => match us, hl with | [_], _ => rfl, a_Line_copy := a_Line_copy, i_Line_copy := i_Line_copy, n_Line_copy := n_Line_copy, C_Fence := C_Fence, g_Fence := PySem.W.mg_of X G aC_Fence, cl_Fence := ⟨pg_Fence, hd_Fence, po_Fence, sa_Fence⟩, mk_Fence := mk_Fence, kc_Fence := kc_Fence, nf_Fence := nf_Fence, in_Fence := ⟨⟨pg_Fence, hd_Fence, po_Fence, sa_Fence⟩, ih_Fence, ig_Fence, it_Fence, io_Fence, ik_Fence⟩, m0_Fence := ⟨mk_Fence, mi_Fence, kc_Fence, io_Fence⟩, ge_Fence := ge_Fence, f_Fence_lets := f_Fence_lets, d_Fence_lets := _, F_Fence_lets := fun_mk (st := s_Fence_lets) l_Fence_lets c_Fence_lets k_Fence_lets, b_Fence_lets := (fun_mk (st := s_Fence_lets) l_Fence_lets c_Fence_lets k_Fence_lets).binds fun _ _ _ _ _ _ us hl => match us, hl with | [_, _, _, _, _], _ => rfl, a_Fence_lets := a_Fence_lets, i_Fence_lets := i_Fence_lets, n_Fence_lets := n_Fence_lets, f_Fence___le__ := f_Fence___le__, d_Fence___le__ := _, F_Fence___le__ := fun_mk (st := s_Fence___le__) l_Fence___le__ c_Fence___le__ k_Fence___le__, b_Fence___le__ := (fun_mk (st := s_Fence___le__) l_Fence___le__ c_Fence___le__ k_Fence___le__).binds fun _ _ _ _ _ _ us hl => match us, hl with | [_, _], _ => rfl, a_Fence___le__ := a_Fence___le__, i_Fence___le__ := i_Fence___le__, n_Fence___le__ := n_Fence___le__, C_Own := C_Own, g_Own := PySem.W.mg_of X G aC_Own, cl_Own := ⟨pg_Own, hd_Own, po_Own, sa_Own⟩, mk_Own := mk_Own, kc_Own := kc_Own, nf_Own := nf_Own, in_Own := ⟨⟨pg_Own, hd_Own, po_Own, sa_Own⟩, ih_Own, ig_Own, it_Own, io_Own, ik_Own⟩, m0_Own := ⟨mk_Own, mi_Own, kc_Own, io_Own⟩, ge_Own := ge_Own, f_Own_lets := f_Own_lets, d_Own_lets := _, F_Own_lets := fun_mk (st := s_Own_lets) l_Own_lets c_Own_lets k_Own_lets, b_Own_lets := (fun_mk (st := s_Own_lets) l_Own_lets c_Own_lets k_Own_lets).binds fun _ _ _ _ _ _ us hl => match us, hl with | [_, _, _, _, _], _ => rfl, a_Own_lets := a_Own_lets, i_Own_lets := i_Own_lets, n_Own_lets := n_Own_lets, f_Own___le__ := f_Own___le__, d_Own___le__ := _, F_Own___le__ := fun_mk (st := s_Own___le__) l_Own___le__ c_Own___le__ k_Own___le__, b_Own___le__ := (fun_mk (st := s_Own___le__) l_Own___le__ c_Own___le__ k_Own___le__).binds fun _ _ _ _ _ _ us hl => match us, hl with | [_, _], _ => rfl, a_Own___le__ := a_Own___le__, i_Own___le__ := i_Own___le__, n_Own___le__ := n_Own___le__, C_Same := C_Same, g_Same := PySem.W.mg_of X G aC_Same, cl_Same := ⟨pg_Same, hd_Same, po_Same, sa_Same⟩, mk_Same := mk_Same, kc_Same := kc_Same, nf_Same := nf_Same, in_Same := ⟨⟨pg_Same, hd_Same, po_Same, sa_Same⟩, ih_Same, ig_Same, it_Same, io_Same, ik_Same⟩, m0_Same := ⟨mk_Same, mi_Same, kc_Same, io_Same⟩, ge_Same := ge_Same, f_Same_lets := f_Same_lets, d_Same_lets := _, F_Same_lets := fun_mk (st := s_Same_lets) l_Same_lets c_Same_lets k_Same_lets, b_Same_lets := (fun_mk (st := s_Same_lets) l_Same_lets c_Same_lets k_Same_lets).binds fun _ _ _ _ _ _ us hl => match us, hl with | [_, _, _, _, _], _ => rfl, a_Same_lets := a_Same_lets, i_Same_lets := i_Same_lets, n_Same_lets := n_Same_lets, f_Same___le__ := f_Same___le__, d_Same___le__ := _, F_Same___le__ := fun_mk (st := s_Same___le__) l_Same___le__ c_Same___le__ k_Same___le__, b_Same___le__ := (fun_mk (st := s_Same___le__) l_Same___le__ c_Same___le__ k_Same___le__).binds fun _ _ _ _ _ _ us hl => match us, hl with | [_, _], _ => rfl, a_Same___le__ := a_Same___le__, i_Same___le__ := i_Same___le__, n_Same___le__ := n_Same___le__, C_Both := C_Both, g_Both := PySem.W.mg_of X G aC_Both, cl_Both := ⟨pg_Both, hd_Both, po_Both, sa_Both⟩, mk_Both := mk_Both, kc_Both := kc_Both, nf_Both := nf_Both, in_Both := ⟨⟨pg_Both, hd_Both, po_Both, sa_Both⟩, ih_Both, ig_Both, it_Both, io_Both, ik_Both⟩, m0_Both := ⟨mk_Both, mi_Both, kc_Both, io_Both⟩, ge_Both := ge_Both, f_Both_lets := f_Both_lets, d_Both_lets := _, F_Both_lets := fun_mk (st := s_Both_lets) l_Both_lets c_Both_lets k_Both_lets, b_Both_lets := (fun_mk (st := s_Both_lets) l_Both_lets c_Both_lets k_Both_lets).binds fun _ _ _ _ _ _ us hl => match us, hl with | [_, _, _, _, _], _ => rfl, a_Both_lets := a_Both_lets, i_Both_lets := i_Both_lets, n_Both_lets := n_Both_lets, f_Both___le__ := f_Both___le__, d_Both___le__ := _, F_Both___le__ := fun_mk (st := s_Both___le__) l_Both___le__ c_Both___le__ k_Both___le__, b_Both___le__ := (fun_mk (st := s_Both___le__) l_Both___le__ c_Both___le__ k_Both___le__).binds fun _ _ _ _ _ _ us hl => match us, hl with | [_, _], _ => rfl, a_Both___le__ := a_Both___le__, i_Both___le__ := i_Both___le__, n_Both___le__ := n_Both___le__, C_Last := C_Last, g_Last := PySem.W.mg_of X G aC_Last, cl_Last := ⟨pg_Last, hd_Last, po_Last, sa_Last⟩, mk_Last := mk_Last, kc_Last := kc_Last, nf_Last := nf_Last, in_Last := ⟨⟨pg_Last, hd_Last, po_Last, sa_Last⟩, ih_Last, ig_Last, it_Last, io_Last, ik_Last⟩, m0_Last := ⟨mk_Last, mi_Last, kc_Last, io_Last⟩, ge_Last := ge_Last, f_Last_lets := f_Last_lets, d_Last_lets := _, F_Last_lets := fun_mk (st := s_Last_lets) l_Last_lets c_Last_lets k_Last_lets, b_Last_lets := (fun_mk (st := s_Last_lets) l_Last_lets c_Last_lets k_Last_lets).binds fun _ _ _ _ _ _ us hl => match us, hl with | [_, _, _, _, _], _ => rfl, a_Last_lets := a_Last_lets, i_Last_lets := i_Last_lets, n_Last_lets := n_Last_lets, f_Last___le__ := f_Last___le__, d_Last___le__ := _, F_Last___le__ := fun_mk (st := s_Last___le__) l_Last___le__ c_Last___le__ k_Last___le__, b_Last___le__ := (fun_mk (st := s_Last___le__) l_Last___le__ c_Last___le__ k_Last___le__).binds fun _ _ _ _ _ _ us hl => match us, hl with | [_, _], _ => rfl, a_Last___le__ := a_Last___le__, i_Last___le__ := i_Last___le__, n_Last___le__ := n_Last___le__, C_ScreenError := C_ScreenError, g_ScreenError := PySem.W.mg_of X G aC_ScreenError, hd_ScreenError := hd_ScreenError, ty_ScreenError := ty_ScreenError, be_ScreenError := be_ScreenError, vb_ScreenError := vb_ScreenError, C_BadFence := C_BadFence, g_BadFence := PySem.W.mg_of X G aC_BadFence, hd_BadFence := hd_BadFence, ty_BadFence := ty_BadFence, be_BadFence := be_BadFence, vb_BadFence := vb_BadFence, ox_BadFence := ⟨⟨_, _, _, _, _, _, _, _, _, _, _, _, _, _, _, lx_BadFence, rv_BadFence⟩, sa_BadFence, be_BadFence, ty_BadFence, kc_BadFence⟩, xf_BadFence := ⟨ga_BadFence, gg_BadFence, be_BadFence, hd_BadFence⟩, is_BadFence := ⟨ga_BadFence, gg_BadFence, be_BadFence, hd_BadFence, ca_BadFence, cg_BadFence, ck_BadFence, mo_BadFence⟩, f_BadFence___init__ := f_BadFence___init__, d_BadFence___init__ := _, F_BadFence___init__ := fun_mk (st := s_BadFence___init__) l_BadFence___init__ c_BadFence___init__ k_BadFence___init__, b_BadFence___init__ := (fun_mk (st := s_BadFence___init__) l_BadFence___init__ c_BadFence___init__ k_BadFence___init__).binds fun _ _ _ _ _ _ us hl => match us, hl with | [_, _], _ => rfl, iC_BadFence := iC_BadFence, tI_BadFence := tI_BadFence, nf_BadFence_fence := nf_BadFence_fence, C_NoAnswer := C_NoAnswer, g_NoAnswer := PySem.W.mg_of X G aC_NoAnswer, hd_NoAnswer := hd_NoAnswer, ty_NoAnswer := ty_NoAnswer, be_NoAnswer := be_NoAnswer, vb_NoAnswer := vb_NoAnswer, ox_NoAnswer := ⟨⟨_, _, _, _, _, _, _, _, _, _, _, _, _, _, _, lx_NoAnswer, rv_NoAnswer⟩, sa_NoAnswer, be_NoAnswer, ty_NoAnswer, kc_NoAnswer⟩, xf_NoAnswer := ⟨ga_NoAnswer, gg_NoAnswer, be_NoAnswer, hd_NoAnswer⟩, is_NoAnswer := ⟨ga_NoAnswer, gg_NoAnswer, be_NoAnswer, hd_NoAnswer, ca_NoAnswer, cg_NoAnswer, ck_NoAnswer, mo_NoAnswer⟩, f_NoAnswer___init__ := f_NoAnswer___init__, d_NoAnswer___init__ := _, F_NoAnswer___init__ := fun_mk (st := s_NoAnswer___init__) l_NoAnswer___init__ c_NoAnswer___init__ k_NoAnswer___init__, b_NoAnswer___init__ := (fun_mk (st := s_NoAnswer___init__) l_NoAnswer___init__ c_NoAnswer___init__ k_NoAnswer___init__).binds fun _ _ _ _ _ _ us hl => match us, hl with | [_, _], _ => rfl, iC_NoAnswer := iC_NoAnswer, tI_NoAnswer := tI_NoAnswer, nf_NoAnswer_number := nf_NoAnswer_number, ne_BadFence_ScreenError := ne_BadFence_ScreenError, s_BadFence_ScreenError := s_BadFence_ScreenError, ne_BadFence_NoAnswer := ne_BadFence_NoAnswer, s_BadFence_NoAnswer := s_BadFence_NoAnswer, ne_NoAnswer_ScreenError := ne_NoAnswer_ScreenError, s_NoAnswer_ScreenError := s_NoAnswer_ScreenError, ne_NoAnswer_BadFence := ne_NoAnswer_BadFence, s_NoAnswer_BadFence := s_NoAnswer_BadFence, sub_Fence_Fence := sub_Fence_Fence, kit_Fence_Fence := kit_Fence_Fence, sub_Fence_Own := sub_Fence_Own, kit_Fence_Own := kit_Fence_Own, sub_Fence_Same := sub_Fence_Same, kit_Fence_Same := kit_Fence_Same, sub_Fence_Both := sub_Fence_Both, kit_Fence_Both := kit_Fence_Both, sub_Fence_Last := sub_Fence_Last, kit_Fence_Last := kit_Fence_Last, sub_Own_Fence := sub_Own_Fence, kit_Own_Fence := kit_Own_Fence, sub_Own_Own := sub_Own_Own, kit_Own_Own := kit_Own_Own, sub_Own_Same := sub_Own_Same, kit_Own_Same := kit_Own_Same, sub_Own_Both := sub_Own_Both, kit_Own_Both := kit_Own_Both, sub_Own_Last := sub_Own_Last, kit_Own_Last := kit_Own_Last, sub_Same_Fence := sub_Same_Fence, kit_Same_Fence := kit_Same_Fence, sub_Same_Own := sub_Same_Own, kit_Same_Own := kit_Same_Own, sub_Same_Same := sub_Same_Same, kit_Same_Same := kit_Same_Same, sub_Same_Both := sub_Same_Both, kit_Same_Both := kit_Same_Both, sub_Same_Last := sub_Same_Last, kit_Same_Last := kit_Same_Last, sub_Both_Fence := sub_Both_Fence, kit_Both_Fence := kit_Both_Fence, sub_Both_Own := sub_Both_Own, kit_Both_Own := kit_Both_Own, sub_Both_Same := sub_Both_Same, kit_Both_Same := kit_Both_Same, sub_Both_Both := sub_Both_Both, kit_Both_Both := kit_Both_Both, sub_Both_Last := sub_Both_Last, kit_Both_Last := kit_Both_Last, sub_Last_Fence := sub_Last_Fence, kit_Last_Fence := kit_Last_Fence, sub_Last_Own := sub_Last_Own, kit_Last_Own := kit_Last_Own, sub_Last_Same := sub_Last_Same, kit_Last_Same := kit_Last_Same, sub_Last_Both := sub_Last_Both, kit_Last_Both := kit_Last_Both, sub_Last_Last := sub_Last_Last, kit_Last_Last := kit_Last_Last, m_ValueError := PySem.W.mg_none_of X G z_ValueError, m_abs := PySem.W.mg_none_of X G z_abs, m_all := PySem.W.mg_none_of X G z_all, m_bool := PySem.W.mg_none_of X G z_bool, m_enumerate := PySem.W.mg_none_of X G z_enumerate, m_int := PySem.W.mg_none_of X G z_int, m_isinstance := PySem.W.mg_none_of X G z_isinstance, m_len := PySem.W.mg_none_of X G z_len, m_list := PySem.W.mg_none_of X G z_list, m_range := PySem.W.mg_none_of X G z_range, m_tuple := PySem.W.mg_none_of X G z_tuple }
  let Z : TFam T := { r := fun w => match w with | .any => p_any | .own => p_own | .same => p_same | .both => p_both | .last => p_last, con := fun w => match w with | .any => ⟨u_any, rfl, w_any, by decide +kernel⟩ | .own => ⟨u_own, rfl, w_own, by decide +kernel⟩ | .same => ⟨u_same, rfl, w_same, by decide +kernel⟩ | .both => ⟨u_both, rfl, w_both, by decide +kernel⟩ | .last => ⟨u_last, rfl, w_last, by decide +kernel⟩, sq := fun w H => match w with | .any => strs_sq (zs := Wd.any.reads) l_any v_any (by decide) H | .own => strs_sq (zs := Wd.own.reads) l_own v_own (by decide) H | .same => strs_sq (zs := Wd.same.reads) l_same v_same (by decide) H | .both => strs_sq (zs := Wd.both.reads) l_both v_both (by decide) H | .last => strs_sq (zs := Wd.last.reads) l_last v_last (by decide) H, p := pF, t := PySem.W.mg_of X G uF, fsq := fun H => strs_sq (zs := words) lF vF (by decide) H }
  exact ⟨_, fun s v => .of_eq rfl, fun base _ _ => ok_law (base := base) T Z⟩
end D
open PySem PySem.W PyProof.Rows
set_option maxHeartbeats 0 in
theorem PySem.Challenge.cw_drawnanew_k45_fences_let_holds : PySem.Challenge.rw_drawnanew_k45_fences_let.Holds := by
  w_on; o_law; k_head; (case hw => w_witness2)
  k_fill
  refine L2.walk_of (l := PySem.Challenge.rw_drawnanew_k45_fences_let) (n := 63) (k := 20) (x := "_law_script") (CX := fun _ => L2.CX0) (sp := fun w => D.sp_law _) rfl (by decide) rfl ⟨rfl, by decide, by decide⟩ (fun w h Y => PySem.W.kIn_of Y) ?F (fun _ _ a ns hl _ hS => ⟨a, ns, rfl, hS, hl, fun _ => rfl⟩) (fun _ _ _ _ _ h => h)
  case F =>
    intro w mg fa h KX G hmg
    refine' D.all_mk KX G hmg ?a__wall ?l__wall ?c__wall ?k__wall ?a__reads_no_less ?l__reads_no_less ?c__reads_no_less ?k__reads_no_less ?a_fence_of ?l_fence_of ?c_fence_of ?k_fence_of ?a__law_mixed ?l__law_mixed ?c__law_mixed ?k__law_mixed ?a__law_bag ?l__law_bag ?c__law_bag ?k__law_bag ?a__law_pick ?l__law_pick ?c__law_pick ?k__law_pick ?a__law_mingled ?l__law_mingled ?c__law_mingled ?k__law_mingled ?a__law_new_name ?l__law_new_name ?c__law_new_name ?k__law_new_name ?a__law_words ?l__law_words ?c__law_words ?k__law_words ?a__law_lets ?l__law_lets ?c__law_lets ?k__law_lets ?a__law_cases ?l__law_cases ?c__law_cases ?k__law_cases ?a__law_at_most ?l__law_at_most ?c__law_at_most ?k__law_at_most ?a__law_truth ?l__law_truth ?c__law_truth ?k__law_truth ?a__law_any_number ?l__law_any_number ?c__law_any_number ?k__law_any_number ?a__law_other ?l__law_other ?c__law_other ?k__law_other ?a__law_entry ?l__law_entry ?c__law_entry ?k__law_entry ?a__law_fields ?l__law_fields ?c__law_fields ?k__law_fields ?a__law_asked ?l__law_asked ?c__law_asked ?k__law_asked ?a__law_classes ?l__law_classes ?c__law_classes ?k__law_classes ?a__law_none ?l__law_none ?c__law_none ?k__law_none ?a__law_refused ?l__law_refused ?c__law_refused ?k__law_refused ?a_law ?l_law ?c_law ?k_law ?aC_Entry ?pg_Entry ?hd_Entry ?po_Entry ?sa_Entry ?mk_Entry ?kc_Entry ?nf_Entry ?ih_Entry ?ig_Entry ?it_Entry ?io_Entry ?ik_Entry ?nA_Entry_answer ?nA_Entry_owner ?nA_Entry_question ?nA_Entry_ticket ?nA_Entry_who ?nA_Entry_word ?a_Entry___init__ ?i_Entry___init__ ?n_Entry___init__ ?l_Entry___init__ ?c_Entry___init__ ?k_Entry___init__ ?aC_Line ?pg_Line ?hd_Line ?po_Line ?sa_Line ?mk_Line ?kc_Line ?nf_Line ?ih_Line ?ig_Line ?it_Line ?io_Line ?ik_Line ?nA_Line__edition ?nA_Line__entries ?nA_Line__far ?nA_Line__room ?nA_Line__tickets ?a_Line___init__ ?i_Line___init__ ?n_Line___init__ ?l_Line___init__ ?c_Line___init__ ?k_Line___init__ ?a_Line_edition ?ge_Line_edition ?ta_Line_edition ?re1_Line_edition ?l_Line_edition ?c_Line_edition ?k_Line_edition ?a_Line_send ?i_Line_send ?n_Line_send ?l_Line_send ?c_Line_send ?k_Line_send ?a_Line_take ?i_Line_take ?n_Line_take ?l_Line_take ?c_Line_take ?k_Line_take ?a_Line_entries ?i_Line_entries ?n_Line_entries ?l_Line_entries ?c_Line_entries ?k_Line_entries ?a_Line_turn ?i_Line_turn ?n_Line_turn ?l_Line_turn ?c_Line_turn ?k_Line_turn ?a_Line_has_next ?i_Line_has_next ?n_Line_has_next ?l_Line_has_next ?c_Line_has_next ?k_Line_has_next ?a_Line_copy ?i_Line_copy ?n_Line_copy ?l_Line_copy ?c_Line_copy ?k_Line_copy ?aC_Fence ?pg_Fence ?hd_Fence ?po_Fence ?sa_Fence ?mk_Fence ?kc_Fence ?nf_Fence ?ih_Fence ?ig_Fence ?it_Fence ?io_Fence ?ik_Fence ?mi_Fence ?ge_Fence ?a_Fence_lets ?i_Fence_lets ?n_Fence_lets ?l_Fence_lets ?c_Fence_lets ?k_Fence_lets ?a_Fence___le__ ?i_Fence___le__ ?n_Fence___le__ ?l_Fence___le__ ?c_Fence___le__ ?k_Fence___le__ ?aC_Own ?pg_Own ?hd_Own ?po_Own ?sa_Own ?mk_Own ?kc_Own ?nf_Own ?ih_Own ?ig_Own ?it_Own ?io_Own ?ik_Own ?mi_Own ?ge_Own ?a_Own_lets ?i_Own_lets ?n_Own_lets ?l_Own_lets ?c_Own_lets ?k_Own_lets ?a_Own___le__ ?i_Own___le__ ?n_Own___le__ ?l_Own___le__ ?c_Own___le__ ?k_Own___le__ ?aC_Same ?pg_Same ?hd_Same ?po_Same ?sa_Same ?mk_Same ?kc_Same ?nf_Same ?ih_Same ?ig_Same ?it_Same ?io_Same ?ik_Same ?mi_Same ?ge_Same ?a_Same_lets ?i_Same_lets ?n_Same_lets ?l_Same_lets ?c_Same_lets ?k_Same_lets ?a_Same___le__ ?i_Same___le__ ?n_Same___le__ ?l_Same___le__ ?c_Same___le__ ?k_Same___le__ ?aC_Both ?pg_Both ?hd_Both ?po_Both ?sa_Both ?mk_Both ?kc_Both ?nf_Both ?ih_Both ?ig_Both ?it_Both ?io_Both ?ik_Both ?mi_Both ?ge_Both ?a_Both_lets ?i_Both_lets ?n_Both_lets ?l_Both_lets ?c_Both_lets ?k_Both_lets ?a_Both___le__ ?i_Both___le__ ?n_Both___le__ ?l_Both___le__ ?c_Both___le__ ?k_Both___le__ ?aC_Last ?pg_Last ?hd_Last ?po_Last ?sa_Last ?mk_Last ?kc_Last ?nf_Last ?ih_Last ?ig_Last ?it_Last ?io_Last ?ik_Last ?mi_Last ?ge_Last ?a_Last_lets ?i_Last_lets ?n_Last_lets ?l_Last_lets ?c_Last_lets ?k_Last_lets ?a_Last___le__ ?i_Last___le__ ?n_Last___le__ ?l_Last___le__ ?c_Last___le__ ?k_Last___le__ ?aC_ScreenError ?hd_ScreenError ?ty_ScreenError ?be_ScreenError ?vb_ScreenError ?aC_BadFence ?hd_BadFence ?ty_BadFence ?be_BadFence ?vb_BadFence ?lx_BadFence ?rv_BadFence ?sa_BadFence ?kc_BadFence ?ga_BadFence ?gg_BadFence ?ca_BadFence ?cg_BadFence ?ck_BadFence ?mo_BadFence ?iC_BadFence ?tI_BadFence ?l_BadFence___init__ ?c_BadFence___init__ ?k_BadFence___init__ ?nf_BadFence_fence ?aC_NoAnswer ?hd_NoAnswer ?ty_NoAnswer ?be_NoAnswer ?vb_NoAnswer ?lx_NoAnswer ?rv_NoAnswer ?sa_NoAnswer ?kc_NoAnswer ?ga_NoAnswer ?gg_NoAnswer ?ca_NoAnswer ?cg_NoAnswer ?ck_NoAnswer ?mo_NoAnswer ?iC_NoAnswer ?tI_NoAnswer ?l_NoAnswer___init__ ?c_NoAnswer___init__ ?k_NoAnswer___init__ ?nf_NoAnswer_number ?ne_BadFence_ScreenError ?s_BadFence_ScreenError ?ne_BadFence_NoAnswer ?s_BadFence_NoAnswer ?ne_NoAnswer_ScreenError ?s_NoAnswer_ScreenError ?ne_NoAnswer_BadFence ?s_NoAnswer_BadFence ?sub_Fence_Fence ?kit_Fence_Fence ?sub_Fence_Own ?kit_Fence_Own ?sub_Fence_Same ?kit_Fence_Same ?sub_Fence_Both ?kit_Fence_Both ?sub_Fence_Last ?kit_Fence_Last ?sub_Own_Fence ?kit_Own_Fence ?sub_Own_Own ?kit_Own_Own ?sub_Own_Same ?kit_Own_Same ?sub_Own_Both ?kit_Own_Both ?sub_Own_Last ?kit_Own_Last ?sub_Same_Fence ?kit_Same_Fence ?sub_Same_Own ?kit_Same_Own ?sub_Same_Same ?kit_Same_Same ?sub_Same_Both ?kit_Same_Both ?sub_Same_Last ?kit_Same_Last ?sub_Both_Fence ?kit_Both_Fence ?sub_Both_Own ?kit_Both_Own ?sub_Both_Same ?kit_Both_Same ?sub_Both_Both ?kit_Both_Both ?sub_Both_Last ?kit_Both_Last ?sub_Last_Fence ?kit_Last_Fence ?sub_Last_Own ?kit_Last_Own ?sub_Last_Same ?kit_Last_Same ?sub_Last_Both ?kit_Last_Both ?sub_Last_Last ?kit_Last_Last ?z_ValueError ?z_abs ?z_all ?z_bool ?z_enumerate ?z_int ?z_isinstance ?z_len ?z_list ?z_range ?z_tuple ?uF ?lF ?vF ?u_any ?w_any ?l_any ?v_any ?u_own ?w_own ?l_own ?v_own ?u_same ?w_same ?l_same ?v_same ?u_both ?w_both ?l_both ?v_both ?u_last ?w_last ?l_last ?v_last
    (case a__wall => k_is); (case l__wall => k_is); (case c__wall => k_is); (case k__wall => k_is); (case a__reads_no_less => k_is); (case l__reads_no_less => k_is); (case c__reads_no_less => k_is); (case k__reads_no_less => k_is); (case a_fence_of => k_is); (case l_fence_of => k_is); (case c_fence_of => k_is); (case k_fence_of => k_is); (case a__law_mixed => k_is); (case l__law_mixed => k_is); (case c__law_mixed => k_is); (case k__law_mixed => k_is); (case a__law_bag => k_is); (case l__law_bag => k_is); (case c__law_bag => k_is); (case k__law_bag => k_is); (case a__law_pick => k_is); (case l__law_pick => k_is); (case c__law_pick => k_is); (case k__law_pick => k_is); (case a__law_mingled => k_is); (case l__law_mingled => k_is); (case c__law_mingled => k_is); (case k__law_mingled => k_is); (case a__law_new_name => k_is); (case l__law_new_name => k_is); (case c__law_new_name => k_is); (case k__law_new_name => k_is); (case a__law_words => k_is); (case l__law_words => k_is); (case c__law_words => k_is); (case k__law_words => k_is); (case a__law_lets => k_is); (case l__law_lets => k_is); (case c__law_lets => k_is); (case k__law_lets => k_is); (case a__law_cases => k_is); (case l__law_cases => k_is); (case c__law_cases => k_is); (case k__law_cases => k_is); (case a__law_at_most => k_is); (case l__law_at_most => k_is); (case c__law_at_most => k_is); (case k__law_at_most => k_is); (case a__law_truth => k_is); (case l__law_truth => k_is); (case c__law_truth => k_is); (case k__law_truth => k_is); (case a__law_any_number => k_is); (case l__law_any_number => k_is); (case c__law_any_number => k_is); (case k__law_any_number => k_is); (case a__law_other => k_is); (case l__law_other => k_is); (case c__law_other => k_is); (case k__law_other => k_is); (case a__law_entry => k_is); (case l__law_entry => k_is); (case c__law_entry => k_is); (case k__law_entry => k_is); (case a__law_fields => k_is); (case l__law_fields => k_is); (case c__law_fields => k_is); (case k__law_fields => k_is); (case a__law_asked => k_is); (case l__law_asked => k_is); (case c__law_asked => k_is); (case k__law_asked => k_is); (case a__law_classes => k_is); (case l__law_classes => k_is); (case c__law_classes => k_is); (case k__law_classes => k_is); (case a__law_none => k_is); (case l__law_none => k_is); (case c__law_none => k_is); (case k__law_none => k_is); (case a__law_refused => k_is); (case l__law_refused => k_is); (case c__law_refused => k_is); (case k__law_refused => k_is); (case a_law => k_is); (case l_law => k_is); (case c_law => k_is); (case k_law => k_is); (case aC_Entry => k_is); (case pg_Entry => k_is); (case hd_Entry => k_is); (case po_Entry => k_is); (case sa_Entry => k_is); (case mk_Entry => k_is); (case kc_Entry => k_is); (case nf_Entry => k_is); (case ih_Entry => k_is); (case ig_Entry => k_is); (case it_Entry => k_is); (case io_Entry => k_is); (case ik_Entry => first | exact rfl | decide +kernel | k_is); (case nA_Entry_answer => k_is); (case nA_Entry_owner => k_is); (case nA_Entry_question => k_is); (case nA_Entry_ticket => k_is); (case nA_Entry_who => k_is); (case nA_Entry_word => k_is); (case a_Entry___init__ => k_is); (case i_Entry___init__ => k_is); (case n_Entry___init__ => k_is); (case l_Entry___init__ => k_is); (case c_Entry___init__ => k_is); (case k_Entry___init__ => k_is); (case aC_Line => k_is); (case pg_Line => k_is); (case hd_Line => k_is); (case po_Line => k_is); (case sa_Line => k_is); (case mk_Line => k_is); (case kc_Line => k_is); (case nf_Line => k_is); (case ih_Line => k_is); (case ig_Line => k_is); (case it_Line => k_is); (case io_Line => k_is); (case ik_Line => first | exact rfl | decide +kernel | k_is); (case nA_Line__edition => k_is); (case nA_Line__entries => k_is); (case nA_Line__far => k_is); (case nA_Line__room => k_is); (case nA_Line__tickets => k_is); (case a_Line___init__ => k_is); (case i_Line___init__ => k_is); (case n_Line___init__ => k_is); (case l_Line___init__ => k_is); (case c_Line___init__ => k_is); (case k_Line___init__ => k_is); (case a_Line_edition => k_is); (case ge_Line_edition => k_is); (case ta_Line_edition => k_is); (case re1_Line_edition => k_is); (case l_Line_edition => k_is); (case c_Line_edition => k_is); (case k_Line_edition => k_is); (case a_Line_send => k_is); (case i_Line_send => k_is); (case n_Line_send => k_is); (case l_Line_send => k_is); (case c_Line_send => k_is); (case k_Line_send => k_is); (case a_Line_take => k_is); (case i_Line_take => k_is); (case n_Line_take => k_is); (case l_Line_take => k_is); (case c_Line_take => k_is); (case k_Line_take => k_is); (case a_Line_entries => k_is); (case i_Line_entries => k_is); (case n_Line_entries => k_is); (case l_Line_entries => k_is); (case c_Line_entries => k_is); (case k_Line_entries => k_is); (case a_Line_turn => k_is); (case i_Line_turn => k_is); (case n_Line_turn => k_is); (case l_Line_turn => k_is); (case c_Line_turn => k_is); (case k_Line_turn => k_is); (case a_Line_has_next => k_is); (case i_Line_has_next => k_is); (case n_Line_has_next => k_is); (case l_Line_has_next => k_is); (case c_Line_has_next => k_is); (case k_Line_has_next => k_is); (case a_Line_copy => k_is); (case i_Line_copy => k_is); (case n_Line_copy => k_is); (case l_Line_copy => k_is); (case c_Line_copy => k_is); (case k_Line_copy => k_is); (case aC_Fence => k_is); (case pg_Fence => k_is); (case hd_Fence => k_is); (case po_Fence => k_is); (case sa_Fence => k_is); (case mk_Fence => k_is); (case kc_Fence => k_is); (case nf_Fence => k_is); (case ih_Fence => k_is); (case ig_Fence => k_is); (case it_Fence => k_is); (case io_Fence => k_is); (case ik_Fence => first | exact rfl | decide +kernel | k_is); (case mi_Fence => k_is); (case ge_Fence => k_is); (case a_Fence_lets => k_is); (case i_Fence_lets => k_is); (case n_Fence_lets => k_is); (case l_Fence_lets => k_is); (case c_Fence_lets => k_is); (case k_Fence_lets => k_is); (case a_Fence___le__ => k_is); (case i_Fence___le__ => k_is); (case n_Fence___le__ => k_is); (case l_Fence___le__ => k_is); (case c_Fence___le__ => k_is); (case k_Fence___le__ => k_is); (case aC_Own => k_is); (case pg_Own => k_is); (case hd_Own => k_is); (case po_Own => k_is); (case sa_Own => k_is); (case mk_Own => k_is); (case kc_Own => k_is); (case nf_Own => k_is); (case ih_Own => k_is); (case ig_Own => k_is); (case it_Own => k_is); (case io_Own => k_is); (case ik_Own => first | exact rfl | decide +kernel | k_is); (case mi_Own => k_is); (case ge_Own => k_is); (case a_Own_lets => k_is); (case i_Own_lets => k_is); (case n_Own_lets => k_is); (case l_Own_lets => k_is); (case c_Own_lets => k_is); (case k_Own_lets => k_is); (case a_Own___le__ => k_is); (case i_Own___le__ => k_is); (case n_Own___le__ => k_is); (case l_Own___le__ => k_is); (case c_Own___le__ => k_is); (case k_Own___le__ => k_is); (case aC_Same => k_is); (case pg_Same => k_is); (case hd_Same => k_is); (case po_Same => k_is); (case sa_Same => k_is); (case mk_Same => k_is); (case kc_Same => k_is); (case nf_Same => k_is); (case ih_Same => k_is); (case ig_Same => k_is); (case it_Same => k_is); (case io_Same => k_is); (case ik_Same => first | exact rfl | decide +kernel | k_is); (case mi_Same => k_is); (case ge_Same => k_is); (case a_Same_lets => k_is); (case i_Same_lets => k_is); (case n_Same_lets => k_is); (case l_Same_lets => k_is); (case c_Same_lets => k_is); (case k_Same_lets => k_is); (case a_Same___le__ => k_is); (case i_Same___le__ => k_is); (case n_Same___le__ => k_is); (case l_Same___le__ => k_is); (case c_Same___le__ => k_is); (case k_Same___le__ => k_is); (case aC_Both => k_is); (case pg_Both => k_is); (case hd_Both => k_is); (case po_Both => k_is); (case sa_Both => k_is); (case mk_Both => k_is); (case kc_Both => k_is); (case nf_Both => k_is); (case ih_Both => k_is); (case ig_Both => k_is); (case it_Both => k_is); (case io_Both => k_is); (case ik_Both => first | exact rfl | decide +kernel | k_is); (case mi_Both => k_is); (case ge_Both => k_is); (case a_Both_lets => k_is); (case i_Both_lets => k_is); (case n_Both_lets => k_is); (case l_Both_lets => k_is); (case c_Both_lets => k_is); (case k_Both_lets => k_is); (case a_Both___le__ => k_is); (case i_Both___le__ => k_is); (case n_Both___le__ => k_is); (case l_Both___le__ => k_is); (case c_Both___le__ => k_is); (case k_Both___le__ => k_is); (case aC_Last => k_is); (case pg_Last => k_is); (case hd_Last => k_is); (case po_Last => k_is); (case sa_Last => k_is); (case mk_Last => k_is); (case kc_Last => k_is); (case nf_Last => k_is); (case ih_Last => k_is); (case ig_Last => k_is); (case it_Last => k_is); (case io_Last => k_is); (case ik_Last => first | exact rfl | decide +kernel | k_is); (case mi_Last => k_is); (case ge_Last => k_is); (case a_Last_lets => k_is); (case i_Last_lets => k_is); (case n_Last_lets => k_is); (case l_Last_lets => k_is); (case c_Last_lets => k_is); (case k_Last_lets => k_is); (case a_Last___le__ => k_is); (case i_Last___le__ => k_is); (case n_Last___le__ => k_is); (case l_Last___le__ => k_is); (case c_Last___le__ => k_is); (case k_Last___le__ => k_is); (case aC_ScreenError => k_is); (case hd_ScreenError => k_is); (case ty_ScreenError => k_is); (case be_ScreenError => k_is); (case vb_ScreenError => k_is); (case aC_BadFence => k_is); (case hd_BadFence => k_is); (case ty_BadFence => k_is); (case be_BadFence => k_is); (case vb_BadFence => k_is); (case lx_BadFence => k_is); (case rv_BadFence => decide +kernel); (case sa_BadFence => k_is); (case kc_BadFence => k_is); (case ga_BadFence => k_is); (case gg_BadFence => k_is); (case ca_BadFence => k_is); (case cg_BadFence => k_is); (case ck_BadFence => k_is); (case mo_BadFence => k_is); (case iC_BadFence => k_is); (case tI_BadFence => k_is); (case l_BadFence___init__ => k_is); (case c_BadFence___init__ => k_is); (case k_BadFence___init__ => k_is); (case nf_BadFence_fence => k_is); (case aC_NoAnswer => k_is); (case hd_NoAnswer => k_is); (case ty_NoAnswer => k_is); (case be_NoAnswer => k_is); (case vb_NoAnswer => k_is); (case lx_NoAnswer => k_is); (case rv_NoAnswer => decide +kernel); (case sa_NoAnswer => k_is); (case kc_NoAnswer => k_is); (case ga_NoAnswer => k_is); (case gg_NoAnswer => k_is); (case ca_NoAnswer => k_is); (case cg_NoAnswer => k_is); (case ck_NoAnswer => k_is); (case mo_NoAnswer => k_is); (case iC_NoAnswer => k_is); (case tI_NoAnswer => k_is); (case l_NoAnswer___init__ => k_is); (case c_NoAnswer___init__ => k_is); (case k_NoAnswer___init__ => k_is); (case nf_NoAnswer_number => k_is); (case ne_BadFence_ScreenError => decide +kernel); (case s_BadFence_ScreenError => k_is); (case ne_BadFence_NoAnswer => decide +kernel); (case s_BadFence_NoAnswer => k_is); (case ne_NoAnswer_ScreenError => decide +kernel); (case s_NoAnswer_ScreenError => k_is); (case ne_NoAnswer_BadFence => decide +kernel); (case s_NoAnswer_BadFence => k_is); (case sub_Fence_Fence => k_is); (case kit_Fence_Fence => first | exact rfl | decide +kernel | k_is); (case sub_Fence_Own => k_is); (case kit_Fence_Own => first | exact rfl | decide +kernel | k_is); (case sub_Fence_Same => k_is); (case kit_Fence_Same => first | exact rfl | decide +kernel | k_is); (case sub_Fence_Both => k_is); (case kit_Fence_Both => first | exact rfl | decide +kernel | k_is); (case sub_Fence_Last => k_is); (case kit_Fence_Last => first | exact rfl | decide +kernel | k_is); (case sub_Own_Fence => k_is); (case kit_Own_Fence => first | exact rfl | decide +kernel | k_is); (case sub_Own_Own => k_is); (case kit_Own_Own => first | exact rfl | decide +kernel | k_is); (case sub_Own_Same => k_is); (case kit_Own_Same => first | exact rfl | decide +kernel | k_is); (case sub_Own_Both => k_is); (case kit_Own_Both => first | exact rfl | decide +kernel | k_is); (case sub_Own_Last => k_is); (case kit_Own_Last => first | exact rfl | decide +kernel | k_is); (case sub_Same_Fence => k_is); (case kit_Same_Fence => first | exact rfl | decide +kernel | k_is); (case sub_Same_Own => k_is); (case kit_Same_Own => first | exact rfl | decide +kernel | k_is); (case sub_Same_Same => k_is); (case kit_Same_Same => first | exact rfl | decide +kernel | k_is); (case sub_Same_Both => k_is); (case kit_Same_Both => first | exact rfl | decide +kernel | k_is); (case sub_Same_Last => k_is); (case kit_Same_Last => first | exact rfl | decide +kernel | k_is); (case sub_Both_Fence => k_is); (case kit_Both_Fence => first | exact rfl | decide +kernel | k_is); (case sub_Both_Own => k_is); (case kit_Both_Own => first | exact rfl | decide +kernel | k_is); (case sub_Both_Same => k_is); (case kit_Both_Same => first | exact rfl | decide +kernel | k_is); (case sub_Both_Both => k_is); (case kit_Both_Both => first | exact rfl | decide +kernel | k_is); (case sub_Both_Last => k_is); (case kit_Both_Last => first | exact rfl | decide +kernel | k_is); (case sub_Last_Fence => k_is); (case kit_Last_Fence => first | exact rfl | decide +kernel | k_is); (case sub_Last_Own => k_is); (case kit_Last_Own => first | exact rfl | decide +kernel | k_is); (case sub_Last_Same => k_is); (case kit_Last_Same => first | exact rfl | decide +kernel | k_is); (case sub_Last_Both => k_is); (case kit_Last_Both => first | exact rfl | decide +kernel | k_is); (case sub_Last_Last => k_is); (case kit_Last_Last => first | exact rfl | decide +kernel | k_is); (case z_ValueError => k_is); (case z_abs => k_is); (case z_all => k_is); (case z_bool => k_is); (case z_enumerate => k_is); (case z_int => k_is); (case z_isinstance => k_is); (case z_len => k_is); (case z_list => k_is); (case z_range => k_is); (case z_tuple => k_is); (case uF => k_is); (case lF => k_is); (case vF => exact (.cons ⟨_, rfl⟩ (.cons ⟨_, rfl⟩ (.cons ⟨_, rfl⟩ (.cons ⟨_, rfl⟩ (.cons ⟨_, rfl⟩ .nil)))))); (case u_any => k_is); (case w_any => k_is); (case l_any => k_is); (case v_any => exact .nil); (case u_own => k_is); (case w_own => k_is); (case l_own => k_is); (case v_own => exact (.cons ⟨_, rfl⟩ .nil)); (case u_same => k_is); (case w_same => k_is); (case l_same => k_is); (case v_same => exact (.cons ⟨_, rfl⟩ .nil)); (case u_both => k_is); (case w_both => k_is); (case l_both => k_is); (case v_both => exact (.cons ⟨_, rfl⟩ (.cons ⟨_, rfl⟩ .nil))); (case u_last => k_is); (case w_last => k_is); (case l_last => k_is); (case v_last => exact (.cons ⟨_, rfl⟩ (.cons ⟨_, rfl⟩ (.cons ⟨_, rfl⟩ .nil))))

